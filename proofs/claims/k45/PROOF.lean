import PyProof.Rows.All
import Wide.All
import OpenK.AllK
import Wide.FinOn
import PyProof.EqAt
import PyProof.EqKinds
import PyProof.TupleCall
import PyProof.NeKinds
import Lean
import PySem.Challenge.RW_bridgefind_k45_deeds_told
set_option Elab.async false
set_option linter.all false
set_option maxRecDepth 100000
local macro_rules | `(tactic| omega)=>`(tactic| lia)
open PySem.W (Frag nsIn codeIn keepIn tabIn codeHdIn mg_of mg_none_of fnOf OpenLaw kitOne mroIn findIn)
abbrev yaa:=@Nat.le_refl
abbrev yab:=@List.length_map
abbrev yac:=@List.getElem?_eq_getElem
abbrev yad:=@Option.some.inj
abbrev yae:=@List.getD_eq_getElem?_getD
abbrev yaf:=@PySem.Heap.lt_size
abbrev yag:=@decide_eq_true
abbrev yah:=@decide_eq_false
abbrev yai:=@PySem.Heap.get?_push_of_some
abbrev yaj:=@List.mem_append
abbrev yak:=@List.getElem?_eq_some_iff
abbrev yal:=@List.mem_singleton
abbrev yam:=@List.mem_cons
abbrev yan:=@Nat.ne_of_lt
abbrev yao:=@Nat.le_trans
abbrev yap:=@List.length_append
abbrev yaq:=@List.length_take
abbrev yar:=@List.getElem?_map
abbrev yas:=@List.take_of_length_le
abbrev yat:=@List.map_append
abbrev yau:=@List.map_cons
abbrev yav:=@List.size_toArray
abbrev yaw:=@Nat.lt_of_lt_of_le
abbrev yax:=@Array.length_toList
abbrev yay:=@List.mem_append_right
abbrev yaz:=@List.append_nil
abbrev yaA:=@Bool.false_ne_true
abbrev yaB:=@PySem.Heap.get?_push_size
abbrev yaC:=@Nat.zero_le
abbrev yaD:=@List.mem_cons_self
abbrev yaE:=@List.mem_of_getElem?
abbrev yaF:=@List.mem_cons_of_mem
abbrev yaG:=@List.mem_map
abbrev yaH:=@of_decide_eq_true
abbrev yaI:=@List.pairwise_append
abbrev yaJ:=@List.sum_cons
abbrev yaK:=@List.lookup_cons
abbrev yaL:=@List.length_cons
abbrev yaM:=@List.append_assoc
abbrev yaN:=@List.getElem_mem
abbrev yaO:=@List.getElem_of_mem
abbrev yaP:=@List.getElem?_eq_none
abbrev yaQ:=@List.take_succ_eq_append_getElem
abbrev yaR:=@List.length_drop
abbrev yaS:=@List.take_append_drop
abbrev yaT:=@Array.toList_append
abbrev yaU:=@List.all_eq_true
abbrev yaV:=@Nat.le_succ
abbrev yaW:=@List.nodup_cons
abbrev yaX:=@Bool.false_eq_true
abbrev yaY:=@List.pairwise_iff_getElem
abbrev yaZ:=@List.drop_eq_nil_of_le
abbrev ya0:=@List.mem_append_left
abbrev ya1:=@Nat.lt_of_le_of_lt
abbrev ya2:=@Array.getElem?_toList
abbrev ya3:=@List.length_filter_le
abbrev ya4:=@Nat.le_of_lt
abbrev ya5:=@Int.toNat_natCast
abbrev ya6:=@Array.getElem?_eq_getElem
abbrev ya7:=@List.mem_filter
abbrev ya8:=@List.mem_range
abbrev ya9:=@List.length_replicate
abbrev yba:=@List.ext_getElem?
abbrev ybb:=@List.length_range
abbrev ybc:=@List.nodup_append
abbrev ybd:=@List.filter_cons_of_pos
abbrev ybe:=@Int.zero_add
abbrev ybf:=@List.any_cons
abbrev ybg:=@List.length_singleton
abbrev ybh:=@List.filter_append
abbrev ybi:=@Nat.lt_irrefl
abbrev ybj:=@List.getElem?_append_right
abbrev ybk:=@Bool.and_eq_true
abbrev ybl:=@Nat.add_le_add_right
abbrev ybm:=@List.not_mem_nil
abbrev ybn:=@List.filter_cons_of_neg
abbrev ybo:=@Nat.ne_of_gt
abbrev ybp:=@List.getElem?_append_left
abbrev ybq:=@Option.map_eq_some_iff
abbrev ybr:=@List.nodup_nil
abbrev ybs:=@Nat.add_zero
abbrev ybt:=@List.getElem?_set
abbrev ybu:=@List.mem_or_eq_of_mem_set
abbrev ybv:=@Int.natCast_nonneg
abbrev ybw:=@PySem.Heap.size_push
abbrev ybx:=@PySem.Heap.get?_update_other
abbrev yby:=@List.length_nil
abbrev ybz:=@Nat.min_eq_left
abbrev ybA:=@List.map_map
abbrev ybB:=@Nat.not_lt
abbrev ybC:=@List.map_take
abbrev ybD:=@List.map_set
abbrev ybE:=@Nat.lt_succ_self
abbrev ybF:=@List.find?_cons
abbrev ybG:=@List.drop_drop
abbrev ybH:=@List.mem_of_mem_take
abbrev ybI:=@List.mem_of_mem_drop
abbrev ybJ:=@Bool.not_eq_true'
abbrev ybK:=@Nat.lt_or_ge
abbrev ybL:=@List.pairwise_map
abbrev ybM:=@Nat.testBit_succ
abbrev ybN:=@Nat.pow_succ
abbrev ybO:=@Nat.not_lt_zero
abbrev ybP:=@List.filter_eq_nil_iff
abbrev ybQ:=@List.flatten_cons
abbrev ybR:=@List.filterMap_cons
abbrev ybS:=@List.of_mem_zip
abbrev ybT:=@List.length_set
abbrev ybU:=@List.all_cons
abbrev ybV:=@List.map_nil
abbrev ybW:=@List.drop_eq_getElem_cons
abbrev ybX:=@List.perm_append_comm
abbrev ybY:=@Array.toList_push
abbrev ybZ:=@Array.toList_reverse
abbrev yb0:=@List.take_zero
abbrev yb1:=@List.getElem?_take
abbrev yb2:=@List.mem_reverse
abbrev yb3:=@of_decide_eq_false
abbrev yb4:=@List.range_succ
abbrev yb5:=@List.length_reverse
abbrev yb6:=@Bool.eq_iff_iff
abbrev yb7:=@List.drop_sublist
abbrev yb8:=@List.pairwise_cons
abbrev yb9:=@Array.toList_extract
abbrev yca:=@List.extract_eq_take_drop
abbrev ycb:=@List.drop_take
abbrev ycc:=@List.reverse_append
abbrev ycd:=@List.drop_zero
abbrev yce:=@List.getElem?_drop
abbrev ycf:=@Bool.not_true
abbrev ycg:=@Int.emod_nonneg
abbrev ych:=@Int.emod_lt_of_pos
abbrev yci:=@Bool.and_true
abbrev ycj:=@Nat.lt_succ_of_lt
abbrev yck:=@List.getElem?_range
abbrev ycl:=@List.reverse_cons
abbrev ycm:=@List.length_zip
abbrev ycn:=@List.mem_flatten
abbrev yco:=@List.map_congr_left
abbrev ycp:=@Int.natCast_add
abbrev ycq:=@Nat.min_eq_right
abbrev ycr:=@List.any_append
abbrev ycs:=@List.flatten_append
abbrev yct:=@List.getElem?_replicate
abbrev ycu:=@Nat.add_le_add_left
abbrev ycv:=@Array.perm_iff_toList_perm
abbrev ycw:=@Bool.not_eq_false'
abbrev ycx:=@List.reverse_reverse
abbrev ycy:=@List.getElem?_cons_succ
abbrev ycz:=@List.zip_cons_cons
abbrev ycA:=@List.getElem?_reverse
abbrev ycB:=@List.eq_nil_of_length_eq_zero
abbrev ycC:=@List.pairwise_lt_range
abbrev ycD:=@List.perm_ext_iff_of_nodup
abbrev ycE:=@List.pairwise_singleton
abbrev ycF:=@List.length_eq_zero_iff
namespace L2
open PySem PySem.Spec PyProof.Rows
abbrev Key:=Sum Int Str
def zjR:Key→Value→Bool
  | .inl k,v=>Value.isInt k v
  | .inr x,v=>Value.isStrOf x v
def keyH (w:World):Key→Int
  | .inl k=>hashInt k
  | .inr x=>hashStr w x
theorem za1:∀{k:Key} {v:Value},zjR k v=true→(∃ i t,k=Sum.inl i∧v=Value.int i t)∨(∃ x t,k=Sum.inr x∧v=Value.str x t)
  | .inl i,v,h=>by
    obtain ⟨t,e⟩:=Value.isInt_shape (k:=i) (v:=v) h;exact .inl ⟨i,t,rfl,e⟩
  | .inr x,v,h=>by
    obtain ⟨t,e⟩:=Value.isStrOf_shape (x:=x) (v:=v) h;exact .inr ⟨x,t,rfl,e⟩
theorem zng (i:Int)(t:Tok):zjR (.inl i) (.int i t)=true:=by simp[zjR,Value.isInt]
theorem znf (x:Str)(t:Tok):zjR (.inr x) (.str x t)=true:=by simp[zjR,Value.isStrOf]
theorem zsc (a b:Int):decide ((Sum.inl a:Key)=Sum.inl b)=(a == b):=by
  by_cases e:a=b
  · subst e;simp
  · have h:¬ (Sum.inl a:Key)=Sum.inl b:=fun q=>e (Sum.inl.inj q)
    rw[yah h];exact (beq_eq_false_iff_ne.mpr e).symm
theorem zr9 (a b:Str):decide ((Sum.inr a:Key)=Sum.inr b)=decide (a=b):=by
  by_cases e:a=b
  · subst e;simp
  · have h:¬ (Sum.inr a:Key)=Sum.inr b:=fun q=>e (Sum.inr.inj q)
    rw[yah h,yah e]
theorem zsb (a:Int)(b:Str):decide ((Sum.inl a:Key)=Sum.inr b)=false:=yah (fun q=>nomatch q)
theorem zsa (a:Str)(b:Int):decide ((Sum.inr a:Key)=Sum.inl b)=false:=yah (fun q=>nomatch q)
def zbc (prog:Program)(w:World):PySem.KeyKind prog w Key where
  is:=zjR
  hash:=keyH w
  inj:=fun v a b ha hb=>by
    rcases za1 ha with ⟨i,t,rfl,rfl⟩ | ⟨x,t,rfl,rfl⟩
    · rcases za1 hb with ⟨j,u,rfl,e⟩ | ⟨y,u,rfl,e⟩
      · injection e with e1 _;rw[e1]
      · exact nomatch e
    · rcases za1 hb with ⟨j,u,rfl,e⟩ | ⟨y,u,rfl,e⟩
      · exact nomatch e
      · injection e with e1 _;rw[e1]
  byValue:=fun k v h=>by
    rcases za1 h with ⟨i,t,rfl,rfl⟩ | ⟨x,t,rfl,rfl⟩ <;> rfl
  pyHash:=fun hv h=>by
    rcases za1 hv with ⟨i,t,rfl,rfl⟩ | ⟨x,t,rfl,rfl⟩
    · exact wpAny_pyHash_int h
    · exact wpAny_pyHash_str h
  eqBool:=fun hu hv h=>by
    rcases za1 hu with ⟨i,t,rfl,rfl⟩ | ⟨x,t,rfl,rfl⟩
    · rcases za1 hv with ⟨j,u,rfl,rfl⟩ | ⟨y,u,rfl,rfl⟩
      · rw[zsc]at h;exact wpAny_eqBool_int h
      · rw[zsb]at h;exact SeqAt.EqAt.int_str i t y u _ _ _ _ h
    · rcases za1 hv with ⟨j,u,rfl,rfl⟩ | ⟨y,u,rfl,rfl⟩
      · rw[zsa]at h;exact SeqAt.EqAt.str_int x t j u _ _ _ _ h
      · rw[zr9]at h;exact wpAny_eqBool_str h
  «strs»:=fun k x t v h=>by
    rcases za1 h with ⟨i,u,rfl,e⟩ | ⟨y,u,rfl,e⟩
    · exact nomatch e
    · injection e with e1 _
      subst e1;cases v <;> rfl
theorem zlB (prog:Program)(w:World)(k:Key)(v:Value):(zbc prog w).is k v=zjR k v:=rfl
theorem zjL (prog:Program)(w:World)(i:Int)(t:Tok):(zbc prog w).is (.inl i) (.int i t)=true:=zng i t
theorem zjK (prog:Program)(w:World)(x:Str)(t:Tok):(zbc prog w).is (.inr x) (.str x t)=true:=znf x t
end L2
namespace L2
open PySem PySem.Spec PyProof.Rows
inductive V where
  | non | bl (b:Bool) | int (i:Int) | str (x:Str) | byt (b:Array UInt8) | flt (b:UInt64) | ref (a:Addr) | ty (n:String)
  deriving DecidableEq
def RelV:V→Value→Prop
  | .non,u=>u=Value.none
  | .bl b,u=>u=Value.bool b
  | .int i,u=>∃ t,u=Value.int i t
  | .str x,u=>∃ t,u=Value.str x t
  | .byt b,u=>∃ t,u=Value.bytes b t
  | .flt b,u=>∃ t,u=Value.float b t
  | .ref a,u=>u=Value.ref a
  | .ty n,u=>u=Value.type n
abbrev Vals:List V→List Value→Prop:=Paired RelV
theorem Vals.length {xs:List V}{us:List Value}(r:Vals xs us):xs.length=us.length:=Paired.length r
theorem Vals.get:∀{xs:List V} {us:List Value} {i:Nat} {x:V},Vals xs us→xs[i]?=some x→∃ u,us[i]?=some u∧RelV x u
  | _,_,_,_,.nil,e=>by simp at e
  | _,_,0,_,.cons r _,e=>by simp at e;subst e;exact ⟨_,rfl,r⟩
  | _,_,i+1,x,.cons _ t,e=>by
    obtain ⟨u,h1,h2⟩:=Vals.get (i:=i) (x:=x) t (by simpa using e);exact ⟨u,by simpa using h1,h2⟩
theorem Vals.set {x:V}{u:Value}(r:RelV x u):∀{xs:List V} {us:List Value} (i:Nat),Vals xs us→Vals (xs.set i x) (us.set i u)
  | _,_,_,.nil=>.nil
  | _,_,0,.cons _ t=>.cons r t
  | _,_,i+1,.cons q t=>.cons q (Vals.set r i t)
theorem Vals.append:∀{xs ys:List V} {us ws:List Value},Vals xs us→Vals ys ws→Vals (xs++ys) (us++ws)
  | _,_,_,_,.nil,s=>s
  | _,_,_,_,.cons r t,s=>.cons r (Vals.append t s)
theorem Vals.take:∀{xs:List V} {us:List Value} (n:Nat),Vals xs us→Vals (xs.take n) (us.take n)
  | _,_,0,_=>.nil
  | _,_,_+1,.nil=>.nil
  | _,_,n+1,.cons r t=>.cons r (Vals.take n t)
theorem Vals.drop:∀{xs:List V} {us:List Value} (n:Nat),Vals xs us→Vals (xs.drop n) (us.drop n)
  | _,_,0,r=>r
  | _,_,_+1,.nil=>.nil
  | _,_,n+1,.cons _ t=>Vals.drop n t
def RelO:Option V→Option Value→Prop
  | some v,some u=>RelV v u
  | none,none=>True
  | _,_=>False
def KV {κ:Type}:List (κ×V)→List (κ×Value)→Prop:=Paired fun (p:κ×V) (q:κ×Value)=>p.1=q.1∧RelV p.2 q.2
def kV:Key→V
  | .inl i=>.int i
  | .inr x=>.str x
inductive HO where
  | lst (xs:List V)
  | tup (xs:List V)
  | dK (kvs:List (Key×V)) | dT (kvs:List (List Key×V))
  | set (S:Int→Bool) (n:Nat)
  | ins (C dx:Addr) (fs:List (Str×V))
  | own (x:Addr)
  | xd (fs:List (Str×V))
  | met (f x:Addr)
  | rng (lo hi:Int)
  | frz (o:Obj) (u:HO)
  | tbl (ps:Array Value)
  | ext (φ:Heap→Prop)
abbrev Hp:=Addr→Option HO
def upd (H:Hp)(a:Addr)(o:HO):Hp:=fun b=>if b=a then some o else H b
theorem zab {H:Hp}{a:Addr}{o:HO}:upd H a o a=some o:=by unfold upd;rw[if_pos rfl]
theorem zag {H:Hp}{a b:Addr}{o:HO}(h:b≠a):upd H a o b=H b:=by unfold upd;rw[if_neg h]
theorem zpO {H:Hp}{a:Addr}{o u:HO}:upd (upd H a o) a u=upd H a u:=by
  funext b;unfold upd;split <;> rfl
theorem zrW {H:Hp}{a b:Addr}{o u:HO}(h:H a=some o)(h':H b=some u)(d:o≠u):a≠b:=by
  intro e;subst e;rw[h]at h';exact d (yad h')
theorem zac {H:Hp}{a b:Addr}{o:HO}(h:H a=some o)(h':H b=none):a≠b:=by
  intro e;subst e;rw[h]at h';cases h'
section
variable (P:Program)(w:World)
def zbp (H:Hp)(h:Heap)(a:Addr):HO→Prop
  | .lst xs=>xs.length≤sizeLine∧∃(its:List Value) (n:Nat),Vals xs its∧h.get? a=some { cls:=.type "list",data:=.seq its.toArray n }
  | .tup xs=>xs.length≤sizeLine∧∃ its:List Value,Vals xs its∧IsTup h a its.toArray
  | .dK kvs=>kvs.length≤sizeLine∧(a == sysModules)=false∧∃ vs,KV kvs vs∧h.DictOf (zbc P w) a vs
  | .dT kvs=>kvs.length≤sizeLine∧(a == sysModules)=false∧∃ xs:List (List Key×Addr×Value),
      Paired (fun (p:List Key×V) (q:List Key×Addr×Value)=>p.1=q.1∧H q.2.1=some (.tup (p.1.map kV))∧RelV p.2 q.2.2) kvs xs∧
      ∃ o es ep,h.get? a=some o∧o.ExactDict∧o.data=.dict es ep∧es.toList=xs.map (entryOfKey (tupleKind (zbc P w)))∧(xs.map (·.1)).Nodup
  | .set S n=>h.SetOf (intKind P w) a S n
  | .ins C dx fs=>H dx=some (.own a)∧fs.length≤1000∧dx≠a∧h.get? a=some (PySem.W.instObj C dx)∧
      ∃ mA,h.Ns1 dx mA∧(∀ f,RelO (fs.lookup f) (mA f))∧PySem.Within mA (fs.map (·.1))
  | .own _=>∃ o,h.get? a=some o
  | .xd fs=>∃ mA,h.Ns1 a mA∧∀ f,RelO (fs.lookup f) (mA f)
  | .rng lo hi=>∃ t u v,h.get? a=some { cls:=.type "range",data:=.fields #[.int lo t,.int hi u,.int 1 v] }
  | .frz o u=>h.get? a=some o∧zbp H h a u
  | .tbl ps=>h.get? a=some { cls:=.none,data:=.fields ps }
  | .met f x=>h.get? a=some (PySem.W.methodObj (.ref f) (.ref x))
  | .ext φ=>φ h∧(∃ o,h.get? a=some o)∧∀ h1 h2:Heap,φ h1→(∀ o,h1.get? a=some o→h2.get? a=some o)→φ h2
def HOk (H:Hp)(h:Heap):Prop:=∀ a o,H a=some o→zbp P w H h a o
end
section
variable {P:Program}{w:World}{H H':Hp}{h h':Heap}{a:Addr}{o:HO}
theorem zbp.lt (x:zbp P w H h a o):a < h.objs.size:=by
  cases o with
  | lst xs=>obtain ⟨_,_,_,_,e⟩:=x;exact yaf e
  | tup xs=>obtain ⟨_,_,_,p⟩:=x;exact p.lt
  | dK kvs=>obtain ⟨_,_,_,_,o,_,_,e,_⟩:=x;exact yaf e
  | dT kvs=>obtain ⟨_,_,_,_,o,_,_,e,_⟩:=x;exact yaf e
  | set S n=>obtain ⟨o,_,_,_,e,_⟩:=x;exact yaf e
  | ins C dx fs=>obtain ⟨_,_,_,e,_⟩:=x;exact yaf e
  | own y=>obtain ⟨_,e⟩:=x;exact yaf e
  | xd fs=>obtain ⟨_,⟨_,_,_,e,_⟩,_⟩:=x;exact yaf e
  | rng lo hi=>obtain ⟨_,_,_,e⟩:=x;exact yaf e
  | frz ob u=>obtain ⟨e,_⟩:=x;exact yaf e
  | tbl ps=>exact yaf (show h.get? a=some _ from x)
  | met f y=>exact yaf (show h.get? a=some _ from x)
  | ext φ=>obtain ⟨_,⟨_,e⟩,_⟩:=x;exact yaf e
theorem Paired.mapP {α β:Type}{F G:α→β→Prop}:∀{l₁:List α} {l₂:List β},Paired F l₁ l₂→(∀ a b,F a b→G a b)→Paired G l₁ l₂
  | _,_,.nil,_=>.nil
  | _,_,.cons r t,f=>.cons (f _ _ r) (Paired.mapP t f)
theorem zbp.stay (x:zbp P w H h a o)(k:∀ b u,(b=a∨H b=some (.own a))→h.get? b=some u→h'.get? b=some u)
    (ho:∀ b,H b=some (.own a)→H' b=some (.own a)) (ht:∀ b xs,H b=some (.tup xs)→H' b=some (.tup xs)):zbp P w H' h' a o:=by
  induction o with
  | lst xs=>obtain ⟨z,its,n,r,e⟩:=x;exact ⟨z,its,n,r,k _ _ (.inl rfl) e⟩
  | tup xs=>obtain ⟨z,its,r,ob,e,c⟩:=x;exact ⟨z,its,r,ob,k _ _ (.inl rfl) e,c⟩
  | dK kvs=>obtain ⟨z,y,vs,r,ob,es,ep,e,c⟩:=x;exact ⟨z,y,vs,r,ob,es,ep,k _ _ (.inl rfl) e,c⟩
  | dT kvs=>
    obtain ⟨z,y,xs,r,ob,es,ep,e,c⟩:=x;exact ⟨z,y,xs,Paired.mapP r fun p q z=>⟨z.1,ht _ _ z.2.1,z.2.2⟩,ob,es,ep,k _ _ (.inl rfl) e,c⟩
  | set S n=>obtain ⟨ob,es,ep,t,e,c⟩:=x;exact ⟨ob,es,ep,t,k _ _ (.inl rfl) e,c⟩
  | ins C dx fs=>
    obtain ⟨d,z,ne,e,mA,⟨od,es,ep,e2,c⟩,r⟩:=x;exact ⟨ho _ d,z,ne,k _ _ (.inl rfl) e,mA,⟨od,es,ep,k _ _ (.inr d) e2,c⟩,r⟩
  | own y=>obtain ⟨ob,e⟩:=x;exact ⟨ob,k _ _ (.inl rfl) e⟩
  | xd fs=>obtain ⟨mA,⟨od,es,ep,e,c⟩,r⟩:=x;exact ⟨mA,⟨od,es,ep,k _ _ (.inl rfl) e,c⟩,r⟩
  | rng lo hi=>obtain ⟨t,u,v,e⟩:=x;exact ⟨t,u,v,k _ _ (.inl rfl) e⟩
  | frz ob u ih=>obtain ⟨e,q⟩:=x;exact ⟨k _ _ (.inl rfl) e,ih q⟩
  | tbl ps=>
    have e:h.get? a=some { cls:=.none,data:=.fields ps }:=x;show h'.get? a=some { cls:=.none,data:=.fields ps };exact k a _ (.inl rfl) e
  | met f y=>
    have e:h.get? a=some (PySem.W.methodObj (.ref f) (.ref y)):=x;show h'.get? a=some (PySem.W.methodObj (.ref f) (.ref y));exact k a _ (.inl rfl) e
  | ext φ=>obtain ⟨p,⟨o,e⟩,st⟩:=x;exact ⟨st _ _ p fun o q=>k _ _ (.inl rfl) q,⟨o,k _ _ (.inl rfl) e⟩,st⟩
theorem HOk.lt (x:HOk P w H h)(e:H a=some o):a < h.objs.size:=(x a o e).lt
theorem HOk.fresh (x:HOk P w H h)(e:h.objs.size≤a):H a=none:=by
  cases q:H a with
  | none=>rfl
  | some u=>exact absurd (yaw (x.lt q) e) (ybi _)
theorem HOk.kept (x:HOk P w H h)(k:∀ b u,h.get? b=some u→h'.get? b=some u):HOk P w H h':=fun a o e=>
  (x a o e).stay (fun b u _ q=>k b u q) (fun _ q=>q) fun _ _ q=>q
theorem HOk.laid (x:HOk P w H h)(k:∀ b u,h.get? b=some u→h'.get? b=some u)(hp:h.objs.size≤a)(new:zbp P w (upd H a o) h' a o):HOk P w (upd H a o) h':=fun b u e=>by
  have hn:=x.fresh hp;by_cases hb:b=a
  · subst hb;rw[zab]at e;cases e;exact new
  · rw[zag hb]at e
    exact (x b u e).stay (fun c v _ q=>k c v q) (fun c q=>by rw[zag (zac q hn)];exact q) fun c xs q=>by rw[zag (zac q hn)];exact q
end
def Rd (H:Hp)(a:Addr)(u:HO):Prop:=H a=some u∨∃ o,H a=some (.frz o u)
theorem Rd.ok {P:Program}{w:World}{H:Hp}{h:Heap}{a:Addr}{u:HO}(r:Rd H a u)(x:HOk P w H h):zbp P w H h a u:=by
  rcases r with r | ⟨o,r⟩
  · exact x a u r
  · obtain ⟨_,q⟩:=x a _ r
    exact q
def Mut:Option HO→Prop
  | some (.lst _)=>True
  | some (.dK _)=>True
  | some (.dT _)=>True
  | some (.set _ _)=>True
  | some (.ins _ _ _)=>True
  | some (.ext _)=>True
  | _=>False
section
variable {P:Program}{w:World}{H:Hp}{h h':Heap}{x e:Addr}{o':HO}
theorem HOk.write (ok:HOk P w H h)(mu:Mut (H x))(he:e=x∨H e=some (.own x))(k:∀ b u,b≠e→h.get? b=some u→h'.get? b=some u)(heo:∃ u,h'.get? e=some u)
    (new:zbp P w (upd H x o') h' x o'):HOk P w (upd H x o') h':=fun b u q=>by
  have nown:∀ c y,H c=some (.own y)→c≠x:=fun c y r z=>by subst z;rw[r]at mu;exact mu
  have ntup:∀ c xs,H c=some (.tup xs)→c≠x:=fun c xs r z=>by subst z;rw[r]at mu;exact mu
  by_cases hb:b=x
  · subst hb;rw[zab]at q;cases q;exact new
  · rw[zag hb]at q
    by_cases hbe:b=e
    · have q':H b=some (.own x):=by
        rcases he with z | z
        · exact absurd (hbe.trans z) hb
        · rw[hbe];exact z
      rw[q]at q';cases q'
      obtain ⟨v,hv⟩:=heo;exact ⟨v,by rw[hbe];exact hv⟩
    · refine (ok b u q).stay (fun c v hc r=>k c v ?_ r) (fun c r=>by rw[zag (nown c b r)];exact r) fun c xs r=>by rw[zag (ntup c xs r)];exact r
      rcases hc with rfl | hc
      · exact hbe
      · rintro rfl
        rcases he with z | z
        · exact nown c b hc z
        · rw[hc]at z;cases z;exact hb rfl
end
structure Un (fs ex:List Addr)(H H':Hp)(h h':Heap):Prop where
  keep:∀ b o,h.get? b=some o→H b=none→b∉fs→b∉ex→h'.get? b=some o
  slot:∀ b o,h.get? b=some o→H b=none→b∈fs→b∉ex→∃ sl,h'.get? b=some { o with slots:=sl }
  free:∀ b o,h.get? b=some o→H b=none→b∉ex→H' b=none
  there:∀ b o,h.get? b=some o→b∉ex→∃ o',h'.get? b=some o'
  tups:∀ b xs,H b=some (.tup xs)→H' b=some (.tup xs)
  frzs:∀ b o u,H b=some (.frz o u)→H' b=some (.frz o u)
  tbls:∀ b ps,H b=some (.tbl ps)→∃ more,H' b=some (.tbl (ps++more))
section
variable {fs fs' ex ex':List Addr}{H H1 H2:Hp}{h h1 h2 h':Heap}{a x e:Addr}{o:HO}
theorem Un.any (u:Un fs ex H H1 h h1){b:Addr}{ob:Obj}(q:h.get? b=some ob)(n:H b=none)(hx:b∉ex):∃ sl,h1.get? b=some { ob with slots:=sl }:=by
  by_cases hb:b∈fs
  · exact u.slot b ob q n hb hx
  · exact ⟨ob.slots,u.keep b ob q n hb hx⟩
theorem Un.kept (k:∀ b u,h.get? b=some u→h'.get? b=some u):Un fs ex H H h h':=
  ⟨fun b ob q _ _ _=>k b ob q,fun b ob q _ _ _=>⟨ob.slots,k b ob q⟩,fun _ _ _ n _=>n,fun b ob q _=>⟨ob,k b ob q⟩,fun _ _ q=>q,fun _ _ _ q=>q,fun _ ps q=>⟨#[],by rw[q];simp⟩⟩
theorem Un.refl:Un fs ex H H h h:=Un.kept fun _ _ q=>q
theorem Un.laid (k:∀ b u,h.get? b=some u→h'.get? b=some u)(hp:h.objs.size≤a)(hn:H a=none):Un fs ex H (upd H a o) h h' where
  keep:=fun b u q _ _ _=>k b u q
  slot:=fun b u q _ _ _=>⟨u.slots,k b u q⟩
  free:=fun b u q n _=>by rw[zag (yan (yaw (yaf q) hp))];exact n
  there:=fun b u q _=>⟨u,k b u q⟩
  tups:=fun b xs q=>by rw[zag (zac q hn)];exact q
  frzs:=fun b u xs q=>by rw[zag (zac q hn)];exact q
  tbls:=fun b ps q=>⟨#[],by rw[zag (zac q hn),q];simp⟩
theorem Un.write (mu:Mut (H x))(he:e=x∨H e=some (.own x))(k:∀ b u,b≠e→h.get? b=some u→h'.get? b=some u)(heo:∃ u,h'.get? e=some u):Un fs ex H (upd H x o) h h':=by
  have hx:∀ b,H b=none→b≠x:=fun b n z=>by subst z;rw[n]at mu;exact mu
  have hb:∀ b,H b=none→b≠e:=fun b n z=>by
    subst z;rcases he with r | r
    · exact hx b n r
    · rw[n]at r;cases r
  have hm:∀ b u,H b=some u→¬ Mut (some u)→b≠x:=fun b u q nm z=>by subst z;rw[q]at mu;exact nm mu
  refine ⟨fun b u q n _ _=>k b u (hb b n) q,fun b u q n _ _=>⟨u.slots,k b u (hb b n) q⟩,fun b u q n _=>by rw[zag (hx b n)];exact n,fun b u q _=>?_,
    fun b xs q=>by rw[zag (hm b _ q fun z=>z)];exact q,fun b u xs q=>by rw[zag (hm b _ q fun z=>z)];exact q,fun b ps q=>⟨#[],by rw[zag (hm b _ q fun z=>z),q];simp⟩⟩
  by_cases hbe:b=e
  · subst hbe;exact heo
  · exact ⟨u,k b u hbe q⟩
end
def trk (h:Heap)(H:Hp):List Addr:=(List.range h.objs.size).filter fun a=>(H a).isSome
def hidT (h:Heap)(H:Hp):Heap:=PySem.W.hideAll h (trk h H)
theorem znn (h:Heap)(H:Hp):(hidT h H).objs.size=h.objs.size:=PySem.W.hideAll_size _ _
theorem zoW {h:Heap}{H:Hp}{b:Addr}{o:Obj}(e:h.get? b=some o)(n:H b=none):(hidT h H).get? b=some o:=
  PySem.W.hideAll_get _ e fun hm=>by
    have q:(H b).isSome=true:=(ya7.mp hm).2;rw[n]at q;simp at q
theorem zqu {h:Heap}{H:Hp}{b:Addr}{o:Obj}(e:(hidT h H).get? b=some o):h.get? b=some o∧H b=none:=by
  have e':h.get? b=some o:=PySem.W.of_hideAll (trk h H) e;refine ⟨e',?_⟩;cases q:H b with
  | none=>rfl
  | some x=>
    have hm:b∈trk h H:=ya7.mpr ⟨ya8.mpr (yaf e'),by simp[q]⟩;have z:(hidT h H).get? b=none:=PySem.W.hideAll_none (trk h H) hm;rw[z]at e;cases e
def zq9 (g h:Heap)(L:Addr):List (Addr×Obj):=(List.range h.objs.size).filterMap fun a=>if a=L∨(g.get? a).isSome=true then none else (h.get? a).map fun o=>(a,o)
def rest (g h:Heap)(L d:Addr):List (Addr×Obj):=(zq9 g h L).filter fun p=>decide (p.1≠d)
end L2
namespace L2
open PySem PySem.Spec PyProof.Rows
structure Mod (K:Frag)(mg:Str→Option Value)(base:Heap):Prop where
  kin:K.In base
  glob:base.Ns mainGlobals mg
  blt:∃ mb,base.Ns builtinsNs mb∧∀ x:Str,x ≠ "__name__"→mb x=bootBuiltins x
  nolimit:base.NoLimit
structure Cx where
  prog:Program
  w:World
  K:Frag
  mg:Str→Option Value
  base:Heap
  A:Around
  N:List Str
  s₀:Shared
  H₀:Hp
  env:Env
  outer:List Env
  stack:List Env
  ex:List Addr
  fn:Str→Bool
  calm:Bool
  pn:List (Addr×Obj)
  xe:Value→Shared→Prop
def frs (l:List Env):List Addr:=l.filterMap (·.frame)
abbrev Cx.fs (X:Cx):List Addr:=frs X.outer
def Vis (sc:Scope)(x:Str):Prop:=sc.names.lookup x=some .local∨sc.names.lookup x=some .cell∨sc.names.lookup x=some .free
def Loc (sc:Scope)(x:Str):Prop:=sc.names.lookup x=some .local∨sc.names.lookup x=some .cell
def Look (env:Env)(h:Heap)(m:Str→Option Value)(x:Str)(u:Value):Prop:=
  (env.kindOf x=some .local∧m x=some u)∨((env.kindOf x=some .cell∨env.kindOf x=some .free)∧∃ c,env.cells.lookup x=some c∧h.IsCell c (some u))
structure Cx.Ok (X:Cx):Prop where
  mod:Mod X.K X.mg X.base
  kind:X.env.scope.kind=.function
  glob:X.env.globals=mainGlobals
  blt:X.env.builtins=builtinsNs
  above:X.s₀.heap.objs.size≤X.env.locals
  inj:∀ x y c,X.env.cells.lookup x=some c→X.env.cells.lookup y=some c→x=y
  has:∀ x,(X.env.kindOf x=some .cell∨X.env.kindOf x=some .free)→∃ c,X.env.cells.lookup x=some c
  cab:∀ x c,X.fn x=true→X.env.cells.lookup x=some c→X.s₀.heap.objs.size≤c
  hd:X.calm=true→X.A.handled=none
  frames:X.A.frames=some X.stack
  stk:X.stack=X.outer∨(X.stack=X.env::X.outer∧X.env.frame=some X.env.locals)
  exf:∀ b∈X.ex,b≠X.env.locals∧∀ x c,X.env.cells.lookup x=some c→c≠b
  bs:∀ b o,X.base.get? b=some o→X.s₀.heap.get? b=some o∧X.H₀ b=none
  bsz:X.base.objs.size≤X.s₀.heap.objs.size
  noex:∀ b o,X.base.get? b=some o→b∉X.ex
  exfs:∀ b∈X.ex,b∉X.fs
  funs:X.s₀.heap.FunFrames X.base X.outer
  frf:∀ b∈X.fs,X.H₀ b=none
structure Inv (X:Cx)(pins:List (Addr×Obj))(σ:List (Option V))(H:Hp)(s:Shared):Prop where
  ok:X.Ok
  os:s.os=X.s₀.os
  bare:AllBare s.gens
  base:Un X.fs X.ex X.H₀ H X.s₀.heap s.heap
  loc:∃ m,s.heap.Ns X.env.locals m∧∀(i:Nat) (x:Str) (v:V),X.N[i]?=some x→σ[i]?=some (some v)→Vis X.env.scope x→∃ u,RelV v u∧Look X.env s.heap m x u
  cell:∀ x c,X.env.cells.lookup x=some c→∃ v,s.heap.IsCell c v
  free:H X.env.locals=none
  freeC:∀ x c,X.env.cells.lookup x=some c→H c=none
  pin:∀ p∈X.pn++pins,s.heap.get? p.1=some p.2∧H p.1=none∧p.1≠X.env.locals∧p.1∉X.fs∧∀ v,p.2.data≠.cell v
  hok:HOk X.prog X.w H s.heap
  len:σ.length=X.N.length
section
variable {X:Cx}{pins:List (Addr×Obj)}{σ:List (Option V)}{H H':Hp}{s:Shared}{h':Heap}
theorem Cx.Ok.nofr (ok:X.Ok){b:Addr}{o:Obj}(e:X.base.get? b=some o):b∉X.fs:=fun hb=>by
  have:=(ok.funs.mem hb).1;rw[e]at this;cases this
theorem Inv.bs (I:Inv X pins σ H s):∀ b o,X.base.get? b=some o→s.heap.get? b=some o∧H b=none:=fun b o e=>
  ⟨I.base.keep b o (I.ok.bs b o e).1 (I.ok.bs b o e).2 (I.ok.nofr e) (I.ok.noex b o e),I.base.free b o (I.ok.bs b o e).1 (I.ok.bs b o e).2 (I.ok.noex b o e)⟩
theorem Inv.bk (I:Inv X pins σ H s):∀ b o,X.base.get? b=some o→s.heap.get? b=some o:=fun b o e=>(I.bs b o e).1
theorem Inv.mod (I:Inv X pins σ H s):Mod X.K X.mg X.base:=I.ok.mod
theorem Inv.kIn (I:Inv X pins σ H s):X.K.In s.heap:=I.ok.mod.kin.keeps I.bk
theorem Inv.lt (I:Inv X pins σ H s):X.env.locals < s.heap.objs.size:=let ⟨_,hn,_⟩:=I.loc;hn.lt
theorem Inv.sz (I:Inv X pins σ H s):X.s₀.heap.objs.size≤s.heap.objs.size:=yao I.ok.above (ya4 I.lt)
theorem Inv.nofs (I:Inv X pins σ H s){a:Addr}(h:s.heap.objs.size≤a):a∉X.fs:=fun hb=>by
  obtain ⟨_,o,ho,_⟩:=I.ok.funs.mem hb;exact absurd (yaw (yaf ho) (yao I.sz h)) (ybi _)
theorem Inv.cne (I:Inv X pins σ H s):∀ x c,X.env.cells.lookup x=some c→c≠X.env.locals:=fun x c e z=>by
  obtain ⟨v,o,ho,hd⟩:=I.cell x c e;obtain ⟨m,⟨o',es,ep,ho',hd',_⟩,_⟩:=I.loc;rw[z,ho']at ho;cases ho;rw[hd']at hd;cases hd
theorem Inv.funs (I:Inv X pins σ H s):s.heap.FunFrames X.base X.outer:=by
  have all:∀(l:List Env),(∀ b∈frs l,b∈X.fs)→X.s₀.heap.FunFrames X.base l→s.heap.FunFrames X.base l:=by
    intro l
    induction l with
    | nil=>intro _ _;trivial
    | cons env r ih=>
      intro hs hl;obtain ⟨hk,⟨L,o,hf,hn,ho,hd⟩,hr⟩:=hl;have hL:L∈X.fs:=hs L (by unfold frs;rw[ybR,hf];exact yaD);obtain ⟨sl,e⟩:=I.base.slot L o ho (I.ok.frf L hL) hL fun z=>I.ok.exfs L z hL;exact ⟨hk,⟨L,_,hf,hn,e,hd⟩,ih (fun b hb=>hs b (by unfold frs;rw[ybR,hf];exact yaF _ hb)) hr⟩
  exact all X.outer (fun _ hb=>hb) I.ok.funs
theorem Inv.stack (I:Inv X pins σ H s):s.heap.FunFrames X.base X.stack:=by
  rcases I.ok.stk with e | ⟨e,hf⟩
  · rw[e];exact I.funs
  · rw[e]
    obtain ⟨m,hn,_⟩:=I.loc;refine .cons (by rw[I.ok.kind];decide) hf hn ?_ I.funs;exact Heap.get?_none_of_le (yao I.ok.bsz I.ok.above)
theorem Inv.stkSub (I:Inv X pins σ H s):∀ b∈frs X.stack,b∈X.env.locals::X.fs:=fun b hb=>by
  rcases I.ok.stk with e | ⟨e,hf⟩
  · rw[e]at hb;exact yaF _ hb
  · rw[e]at hb
    unfold frs at hb;rw[ybR,hf]at hb;exact hb
theorem Inv.stkFree (I:Inv X pins σ H s):∀ b∈frs X.stack,H b=none:=fun b hb=>by
  rcases yam.mp (I.stkSub b hb) with e | hb
  · rw[e];exact I.free
  · obtain ⟨_,o,ho,_⟩:=I.ok.funs.mem hb
    exact I.base.free b o ho (I.ok.frf b hb) fun z=>I.ok.exfs b z hb
theorem Inv.step {g':Array GenState}{t':Nat}{d':Drawn}{ch:List Addr}(I:Inv X pins σ H s)
    (hch:∀ b∈ch,(b∈X.ex∨X.s₀.heap.objs.size≤b)∧b≠X.env.locals∧(∀ x c,X.env.cells.lookup x=some c→c≠b)∧∀ p∈X.pn++pins,p.1≠b)
    (keep:∀ b o,b≠X.env.locals→b∉X.fs→b∉ch→s.heap.get? b=some o→H b=none→h'.get? b=some o)
    (slot:∀ b o,b≠X.env.locals→b∈X.fs→b∉ch→s.heap.get? b=some o→H b=none→∃ sl,h'.get? b=some { o with slots:=sl }) (free:∀ b o,b∉ch→s.heap.get? b=some o→H b=none→H' b=none)
    (there:∀ b o,b∉ch→s.heap.get? b=some o→∃ o',h'.get? b=some o')
    (tups:∀ b xs,H b=some (.tup xs)→H' b=some (.tup xs)) (frzs:∀ b o u,H b=some (.frz o u)→H' b=some (.frz o u)) (tbls:∀ b ps,H b=some (.tbl ps)→∃ more,H' b=some (.tbl (ps++more)))
    (ns:∀ m,s.heap.Ns X.env.locals m→h'.Ns X.env.locals m) (hok:HOk X.prog X.w H' h') (hg:AllBare g') :
    Inv X pins σ H' { s with heap:=h',gens:=g',drawn:=d',toks:=t' }:=by
  have neL:∀ b o,X.s₀.heap.get? b=some o→b≠X.env.locals:=fun b o e=>yan (yaw (yaf e) I.ok.above);have neC:∀ b o,X.s₀.heap.get? b=some o→b∉X.ex→b∉ch:=fun b o e hx hb=>by
    rcases (hch b hb).1 with z | z
    · exact hx z
    · exact absurd (yaw (yaf e) z) (ybi _)
  have cellK:∀ x c,X.env.cells.lookup x=some c→∀ v,s.heap.IsCell c v→h'.IsCell c v:=fun x c e v ⟨o,ho,hd⟩=>by
    have nch:c∉ch:=fun z=>(hch c z).2.2.1 x c e rfl;by_cases hc:c∈X.fs
    · obtain ⟨sl,q⟩:=slot c o (I.cne x c e) hc nch ho (I.freeC x c e)
      exact ⟨_,q,hd⟩
    · exact ⟨o,keep c o (I.cne x c e) hc nch ho (I.freeC x c e),hd⟩
  refine ⟨I.ok,I.os,hg,⟨fun b o e n hb hx=>?_,fun b o e n hb hx=>?_,fun b o e n hx=>?_,fun b o e hx=>?_,fun b xs e=>tups b xs (I.base.tups b xs e),fun b o xs e=>frzs b o xs (I.base.frzs b o xs e),fun b ps e=>?_⟩,?_,fun x c e=>?_,?_,fun x c e=>?_,fun p hp=>?_,hok,I.len⟩
  · exact keep b o (neL b o e) hb (neC b o e hx) (I.base.keep b o e n hb hx) (I.base.free b o e n hx)
  · obtain ⟨sl,e1⟩:=I.base.slot b o e n hb hx
    obtain ⟨sl',e2⟩:=slot b _ (neL b o e) hb (neC b o e hx) e1 (I.base.free b o e n hx);exact ⟨sl',e2⟩
  · obtain ⟨o',e1⟩:=I.base.there b o e hx
    exact free b o' (neC b o e hx) e1 (I.base.free b o e n hx)
  · obtain ⟨o',e1⟩:=I.base.there b o e hx
    exact there b o' (neC b o e hx) e1
  · obtain ⟨m1,e1⟩:=I.base.tbls b ps e
    obtain ⟨m2,e2⟩:=tbls b _ e1;exact ⟨m1++m2,by rw[e2,Array.append_assoc]⟩
  · obtain ⟨m,hn,hl⟩:=I.loc
    refine ⟨m,ns m hn,fun i x v e1 e2 e3=>?_⟩;obtain ⟨u,r,l⟩:=hl i x v e1 e2 e3;refine ⟨u,r,?_⟩;rcases l with l | ⟨k,c,e,z⟩
    · exact .inl l
    · exact .inr ⟨k,c,e,cellK x c e _ z⟩
  · obtain ⟨v,z⟩:=I.cell x c e
    exact ⟨v,cellK x c e v z⟩
  · obtain ⟨m,⟨o,_,_,ho,_⟩,_⟩:=I.loc
    exact free _ o (fun z=>(hch _ z).2.1 rfl) ho I.free
  · obtain ⟨v,o,ho,hd⟩:=I.cell x c e
    exact free c o (fun z=>(hch c z).2.2.1 x c e rfl) ho (I.freeC x c e)
  · obtain ⟨e,n,ne,nf,d⟩:=I.pin p hp
    have nch:p.1∉ch:=fun z=>(hch p.1 z).2.2.2 p hp rfl;exact ⟨keep p.1 p.2 ne nf nch e n,free p.1 p.2 nch e n,ne,nf,d⟩
theorem Inv.un {t':Nat}(I:Inv X pins σ H s)(u:Un X.fs [] H H' s.heap h')(hok:HOk X.prog X.w H' h'):Inv X pins σ H' { s with heap:=h',toks:=t' }:=by
  obtain ⟨m,⟨o,es,ep,ho,r⟩,_⟩:=id I.loc;obtain ⟨sl,hL⟩:=u.any ho I.free (by simp);exact I.step (g':=s.gens) (d':=s.drawn) (ch:=[]) (fun _ z=>nomatch z) (fun b o _ hb _ e n=>u.keep b o e n hb (by simp)) (fun b o _ hb _ e n=>u.slot b o e n hb (by simp)) (fun b o _ e n=>u.free b o e n (by simp)) (fun b o _ e=>u.there b o e (by simp)) u.tups u.frzs u.tbls (fun m' hm=>by
    obtain ⟨o',es',ep',ho',r'⟩:=hm;rw[ho]at ho';cases ho'
    exact ⟨_,es',ep',hL,r'⟩) hok I.bare
theorem Inv.call {g':Array GenState}{t':Nat}{d':Drawn}{ch:List Addr}(I:Inv X pins σ H s)(u:Un (frs X.stack) ch H H' s.heap h')(hok:HOk X.prog X.w H' h')(hg:AllBare g')
    (hch:∀ b∈ch,(b∈X.ex∨X.s₀.heap.objs.size≤b)∧b≠X.env.locals∧(∀ x c,X.env.cells.lookup x=some c→c≠b)∧∀ p∈X.pn++pins,p.1≠b) :
    Inv X pins σ H' { s with heap:=h',gens:=g',drawn:=d',toks:=t' }:=by
  obtain ⟨m,⟨o,es,ep,ho,r⟩,_⟩:=id I.loc;obtain ⟨sl,hL⟩:=u.any ho I.free fun z=>(hch _ z).2.1 rfl;exact I.step (ch:=ch) hch (fun b o hL hb hc e n=>u.keep b o e n (fun z=>(yam.mp (I.stkSub b z)).elim hL hb) hc) (fun b o _ _ hc e n=>u.any e n hc) (fun b o hc e n=>u.free b o e n hc) (fun b o hc e=>u.there b o e hc) u.tups u.frzs u.tbls (fun m' hm=>by
    obtain ⟨o',es',ep',ho',r'⟩:=hm;rw[ho]at ho';cases ho'
    exact ⟨_,es',ep',hL,r'⟩) hok hg
theorem Inv.turned {t':Nat}{it:Addr}(I:Inv X pins σ H s)(k:∀ b o,b≠it→s.heap.get? b=some o→h'.get? b=some o)(hn:H it=none)(hL:it≠X.env.locals)
    (h1:it∈X.ex∨X.s₀.heap.objs.size≤it) (h2:∀ x c,X.env.cells.lookup x=some c→c≠it) (h3:∀ p∈X.pn++pins,p.1≠it):Inv X pins σ H { s with heap:=h',toks:=t' }:=by
  have nit:∀ b u,H b=some u→b≠it:=fun b u e z=>by rw[z,hn]at e;cases e
  refine I.step (g':=s.gens) (d':=s.drawn) (ch:=[it]) (fun b hb=>?_) (fun b o _ _ hc e _=>k b o (fun z=>hc (by simp[z])) e) (fun b o _ _ hc e _=>⟨o.slots,k b o (fun z=>hc (by simp[z])) e⟩) (fun _ _ _ _ n=>n)
    (fun b o hc e=>⟨o,k b o (fun z=>hc (by simp[z])) e⟩) (fun _ _ e=>e) (fun _ _ _ e=>e) (fun b ps e=>⟨#[],by rw[e];simp⟩) (fun m hm=>?_) (fun b u e=>?_) I.bare
  · have e:b=it:=by simpa using hb
    subst e;exact ⟨h1,hL,h2,h3⟩
  · obtain ⟨o,es,ep,ho,r⟩:=hm
    exact ⟨o,es,ep,k _ o (Ne.symm hL) ho,r⟩
  · refine (I.hok b u e).stay (fun c v hc q=>k c v ?_ q) (fun _ q=>q) fun _ _ q=>q
    rcases hc with z | z
    · rw[z];exact nit b u e
    · exact nit c _ z
theorem Inv.tok (I:Inv X pins σ H s)(t:Nat):Inv X pins σ H { s with toks:=t }:=I.un (h':=s.heap) (t':=t) Un.refl I.hok
theorem Inv.kept {t':Nat}(I:Inv X pins σ H s)(k:∀ b u,s.heap.get? b=some u→h'.get? b=some u):Inv X pins σ H { s with heap:=h',toks:=t' }:=I.un (Un.kept k) (I.hok.kept k)
theorem Inv.laid {a:Addr}{o:HO}{t':Nat}(I:Inv X pins σ H s)(k:∀ b u,s.heap.get? b=some u→h'.get? b=some u)(hp:s.heap.objs.size≤a)(new:zbp X.prog X.w (upd H a o) h' a o) :
    Inv X pins σ (upd H a o) { s with heap:=h',toks:=t' }:=I.un (Un.laid k hp (I.hok.fresh hp)) (I.hok.laid k hp new)
theorem Inv.write {x e:Addr}{o:HO}{t':Nat}(I:Inv X pins σ H s)(mu:Mut (H x))(he:e=x∨H e=some (.own x))(k:∀ b u,b≠e→s.heap.get? b=some u→h'.get? b=some u)(heo:∃ u,h'.get? e=some u)
    (new:zbp X.prog X.w (upd H x o) h' x o):Inv X pins σ (upd H x o) { s with heap:=h',toks:=t' }:=I.un (Un.write mu he k heo) (I.hok.write mu he k heo new)
theorem Inv.pins_of {pins':List (Addr×Obj)}(I:Inv X pins σ H s)(h:∀ p∈pins',s.heap.get? p.1=some p.2∧H p.1=none∧p.1≠X.env.locals∧p.1∉X.fs∧∀ v,p.2.data≠.cell v):Inv X pins' σ H s:=
  ⟨I.ok,I.os,I.bare,I.base,I.loc,I.cell,I.free,I.freeC,fun p hp=>(yaj.mp hp).elim (fun z=>I.pin p (ya0 _ z)) (h p),I.hok,I.len⟩
theorem zkJ {N:List Str}(hN:N.Nodup){i j:Nat}{x:Str}(a:N[i]?=some x)(b:N[j]?=some x):i=j:=by
  obtain ⟨h1,e1⟩:=yak.mp a;obtain ⟨h2,e2⟩:=yak.mp b;exact (List.getElem_inj hN).mp (e1.trans e2.symm)
theorem zgd {M:Model}{A:Around}{E:Value→Shared→Prop}{i:Nat}{x:Str}{v:V}{u:Value}{Q:Unit→Shared→Prop}(I:Inv X pins σ H s)(hN:X.N.Nodup)(hi:X.N[i]?=some x)(hx:Loc X.env.scope x)(r:RelV v u)
    (h:∀ s',Inv X pins (σ.set i (some v)) H s'→(∃ a,Heap.SameBut a s.heap s'.heap∧(a=X.env.locals∨X.env.cells.lookup x=some a))→Q () s') (hf:X.fn x=true∨X.env.scope.names.lookup x=some .local:=by first | exact .inl rfl | exact .inr rfl | assumption):wpAny M A (storeName X.env x u) Q E s:=by
  obtain ⟨m,hn,hl⟩:=id I.loc;have hcls:(X.env.scope.kind == .class || (X.env.scope.kind == .module && X.env.locals != X.env.globals))=false:=by rw[I.ok.kind];rfl
  have hiσ:i < σ.length:=by rw[I.len];exact (yak.mp hi).1
  have cne:=I.cne;have tracked:∀{a:Addr} {h':Heap},(∃ o,s.heap.get? a=some o∧H a=none)→Heap.SameBut a s.heap h'→HOk X.prog X.w H h':=fun {a h'} ha hs b ob e=>by
    obtain ⟨_,_,hfree⟩:=ha;refine (I.hok b ob e).stay (fun c w' hc q=>(hs.2 c ?_).trans q) (fun _ q=>q) fun _ _ q=>q;rintro rfl;rcases hc with rfl | hc
    · rw[hfree]at e;cases e
    · rw[hfree]at hc;cases hc
  rcases hx with hk | hk
  · refine wpAny_storeName_local hk hn (fun h' hn' hs=>?_) hcls
    obtain ⟨oL,_,_,hoL,_⟩:=id hn;refine h _ ⟨I.ok,I.os,I.bare,⟨fun b o e n hb hx=>?_,fun b o e n hb hx=>?_,I.base.free,fun b o e hx=>?_,I.base.tups,I.base.frzs,I.base.tbls⟩,⟨_,hn',fun j y v' e1 e2 e3=>?_⟩,fun y c e=>?_,I.free,I.freeC,fun p hp=>?_,tracked ⟨oL,hoL,I.free⟩ hs,by simpa using I.len⟩ ⟨_,hs,.inl rfl⟩
    · exact (hs.2 b (yan (yaw (yaf e) I.ok.above))).trans (I.base.keep b o e n hb hx)
    · obtain ⟨sl,e1⟩:=I.base.slot b o e n hb hx
      exact ⟨sl,(hs.2 b (yan (yaw (yaf e) I.ok.above))).trans e1⟩
    · obtain ⟨o',e1⟩:=I.base.there b o e hx
      exact ⟨o',(hs.2 b (yan (yaw (yaf e) I.ok.above))).trans e1⟩
    · by_cases hj:j=i
      · subst hj
        rw[hi]at e1;cases e1
        rw[List.getElem?_set_self hiσ]at e2;cases e2
        exact ⟨u,r,.inl ⟨hk,by simp⟩⟩
      · rw[List.getElem?_set_ne (Ne.symm hj)]at e2
        obtain ⟨u',r',q⟩:=hl j y v' e1 e2 e3;refine ⟨u',r',?_⟩;rcases q with ⟨k,e⟩ | ⟨k,c,e,z⟩
        · refine .inl ⟨k,?_⟩
          have:y≠x:=fun e=>hj (zkJ hN e1 (e ▸ hi));simp[this,e]
        · exact .inr ⟨k,c,e,z.sameBut hs (cne y c e)⟩
    · obtain ⟨w',z⟩:=I.cell y c e
      exact ⟨w',z.sameBut hs (cne y c e)⟩
    · obtain ⟨e,n,ne,nf,d⟩:=I.pin p hp
      exact ⟨(hs.2 p.1 ne).trans e,n,ne,nf,d⟩
  · have hfn:X.fn x=true:=by
      rcases hf with z | z
      · exact z
      · rw[z]at hk;cases hk
    obtain ⟨c,hc⟩:=I.ok.has x (.inl hk);obtain ⟨w',z⟩:=I.cell x c hc;refine wpAny_storeName_cell I.ok.kind hk hc z (fun h' hc' hs=>?_);obtain ⟨oc,hoc,hocd⟩:=id z;refine h { s with heap:=h' } ⟨I.ok,I.os,I.bare,⟨fun b o e n hb hx=>?_,fun b o e n hb hx=>?_,I.base.free,fun b o e hx=>?_,I.base.tups,I.base.frzs,I.base.tbls⟩,⟨m,hn.sameBut hs (Ne.symm (cne x c hc)),fun j y v' e1 e2 e3=>?_⟩,fun y c' e=>?_,I.free,I.freeC,fun p hp=>?_,tracked ⟨oc,hoc,I.freeC x c hc⟩ hs,by simpa using I.len⟩ ⟨c,hs,.inr hc⟩
    · exact (hs.2 b (yan (yaw (yaf e) (I.ok.cab x c hfn hc)))).trans (I.base.keep b o e n hb hx)
    · obtain ⟨sl,e1⟩:=I.base.slot b o e n hb hx
      exact ⟨sl,(hs.2 b (yan (yaw (yaf e) (I.ok.cab x c hfn hc)))).trans e1⟩
    · obtain ⟨o',e1⟩:=I.base.there b o e hx
      exact ⟨o',(hs.2 b (yan (yaw (yaf e) (I.ok.cab x c hfn hc)))).trans e1⟩
    · by_cases hj:j=i
      · subst hj
        rw[hi]at e1;cases e1
        rw[List.getElem?_set_self hiσ]at e2;cases e2
        exact ⟨u,r,.inr ⟨.inl hk,c,hc,hc'⟩⟩
      · rw[List.getElem?_set_ne (Ne.symm hj)]at e2
        obtain ⟨u',r',q⟩:=hl j y v' e1 e2 e3;refine ⟨u',r',?_⟩;rcases q with q | ⟨k,c',e,z'⟩
        · exact .inl q
        · refine .inr ⟨k,c',e,z'.sameBut hs ?_⟩
          rintro rfl;exact hj (zkJ hN e1 (I.ok.inj _ _ _ e hc ▸ hi))
    · by_cases hcc:c'=c
      · subst hcc;exact ⟨_,hc'⟩
      · obtain ⟨w2,z2⟩:=I.cell y c' e
        exact ⟨w2,z2.sameBut hs hcc⟩
    · obtain ⟨e,n,ne,nf,d⟩:=I.pin p hp
      refine ⟨(hs.2 p.1 ?_).trans e,n,ne,nf,d⟩;intro q;rw[q,hoc]at e;have q':oc=p.2:=yad e;exact d w' (by rw[← q'];exact hocd)
theorem zko {M:Model}{A:Around}{E:Value→Shared→Prop}{i:Nat}{x:Str}{v:V}{u:Value}{Q:Unit→Shared→Prop}(I:Inv X pins σ H s)(hN:X.N.Nodup)(hi:X.N[i]?=some x)(hx:Loc X.env.scope x)(r:RelV v u)
    (h:∀ s',Inv X pins (σ.set i (some v)) H s'→Q () s') (hf:X.fn x=true∨X.env.scope.names.lookup x=some .local:=by first | exact .inl rfl | exact .inr rfl | assumption):wpAny M A (storeName X.env x u) Q E s:=
  zgd I hN hi hx r (fun s' I' _=>h s' I') hf
theorem Inv.call' {s':Shared}{ch:List Addr}(I:Inv X pins σ H s)(ho:s'.os=s.os)(u:Un (frs X.stack) ch H H' s.heap s'.heap)(hok:HOk X.prog X.w H' s'.heap)(hg:AllBare s'.gens)
    (hch:∀ b∈ch,(b∈X.ex∨X.s₀.heap.objs.size≤b)∧b≠X.env.locals∧(∀ x c,X.env.cells.lookup x=some c→c≠b)∧∀ p∈X.pn++pins,p.1≠b):Inv X pins σ H' s':=by
  obtain ⟨h',g',d',t',o'⟩:=s';have e:o'=s.os:=ho;subst e;exact I.call (g':=g') (t':=t') (d':=d') u hok hg hch
end
abbrev XK:=Value→Option Addr→Hp→Prop
abbrev St:=List (Option V)
abbrev VK:=V→Hp→Prop
abbrev TE:=St→Hp→VK→Prop
abbrev TT:=St→Hp→(Bool→Hp→Prop)→Prop
abbrev TA:=St→Hp→(List V→Hp→Prop)→Prop
structure Ends where
  nx:St→Hp→Prop
  rt:VK
  bk:St→Hp→Prop:=fun _ _=>False
  ct:St→Hp→Prop:=fun _ _=>False
abbrev TS:=Ends→St→Hp→Prop
def EP (X:Cx)(pins:List (Addr×Obj))(σ:St)(Q:VK)(u:Value)(s':Shared):Prop:=∃ v H',Inv X pins σ H' s'∧RelV v u∧Q v H'
def TP (X:Cx)(pins:List (Addr×Obj))(σ:St)(Q:Bool→Hp→Prop)(b:Bool)(s':Shared):Prop:=∃ H',Inv X pins σ H' s'∧Q b H'
def AP (X:Cx)(pins:List (Addr×Obj))(σ:St)(Q:List V→Hp→Prop)(us:List Value)(s':Shared):Prop:=∃ vs H',Inv X pins σ H' s'∧Vals vs us∧Q vs H'
def SP (X:Cx)(pins:List (Addr×Obj))(D:Ends)(f:Flow)(s':Shared):Prop:=
  match f with
  | .next=>∃ σ' H',Inv X pins σ' H' s'∧D.nx σ' H'
  | .brk=>∃ σ' H',Inv X pins σ' H' s'∧D.bk σ' H'
  | .cont=>∃ σ' H',Inv X pins σ' H' s'∧D.ct σ' H'
  | .ret u=>∃ v σ' H',Inv X pins σ' H' s'∧RelV v u∧D.rt v H'
def PE (X:Cx)(e:Expr)(t:TE):Prop:=
  ∀(pins:List (Addr×Obj)) (s:Shared) (σ:St) (H:Hp) (Q:VK),Inv X pins σ H s→t σ H Q→wpAny (model X.prog X.w) X.A (eval e X.env) (EP X pins σ Q) X.xe s
def PT (X:Cx)(e:Expr)(t:TT):Prop:=
  ∀(pins:List (Addr×Obj)) (s:Shared) (σ:St) (H:Hp) (Q:Bool→Hp→Prop),Inv X pins σ H s→t σ H Q→wpAny (model X.prog X.w) X.A (isTrue e X.env (eval e X.env)) (TP X pins σ Q) X.xe s
def PW (X:Cx)(e:Expr)(t:TT):Prop:=
  ∀(whole:Sem Value) (pins:List (Addr×Obj)) (s:Shared) (σ:St) (H:Hp) (Q:Bool→Hp→Prop),Inv X pins σ H s→t σ H Q→wpAny (model X.prog X.w) X.A (isTrue e X.env whole) (TP X pins σ Q) X.xe s
theorem PW.pt {X:Cx}{e:Expr}{t:TT}(h:PW X e t):PT X e t:=h _
def PA (X:Cx)(es:List Expr)(t:TA):Prop:=
  ∀(pos:Pos) (pins:List (Addr×Obj)) (s:Shared) (σ:St) (H:Hp) (Q:List V→Hp→Prop),Inv X pins σ H s→t σ H Q→wpAny (model X.prog X.w) X.A (spliced (backTo pos (starEach es X.env))) (AP X pins σ Q) X.xe s
def PS (X:Cx)(st:Stmt)(t:TS):Prop:=
  ∀(pins:List (Addr×Obj)) (s:Shared) (σ:St) (H:Hp) (D:Ends),Inv X pins σ H s→t D σ H→wpAny (model X.prog X.w) X.A (exec st X.env) (SP X pins D) X.xe s
def PSs (X:Cx)(st:List Stmt)(t:TS):Prop:=
  ∀(pins:List (Addr×Obj)) (s:Shared) (σ:St) (H:Hp) (D:Ends),Inv X pins σ H s→t D σ H→wpAny (model X.prog X.w) X.A (execs st X.env) (SP X pins D) X.xe s
theorem thn {α:Type}{t:Sem α}{Q Q':α→Shared→Prop}{M:Model}{A:Around}{E:Value→Shared→Prop}{s:Shared}(h:wpAny M A t Q E s)(hQ:∀ a s,Q a s→Q' a s):wpAny M A t Q' E s:=wpAny_mono h hQ fun _ _ x=>x
end L2
namespace L2
open PySem PySem.Spec PyProof.Rows
section
variable {X:Cx}
def tVar (i:Nat):TE:=fun σ H Q=>∃ v,σ[i]?=some (some v)∧Q v H
def tC (v:V):TE:=fun _ H Q=>Q v H
theorem zrE {i:Nat}{x:Str}{pos:Pos}(hN:X.N[i]?=some x)(hv:Vis X.env.scope x)(hd:(x == ("__debug__" : Str))=false:=by decide)(hcd:(x == ("__classdict__" : Str))=false:=by decide):PE X (.Name x pos) (tVar i):=by
  intro pins s σ H Q I h;obtain ⟨v,e,h⟩:=h;obtain ⟨m,hn,hl⟩:=I.loc;obtain ⟨u,r,l⟩:=hl i x v hN e hv;have fin:EP X pins σ Q u s:=⟨v,H,I,r,h⟩;rcases l with ⟨hk,hm⟩ | ⟨hk,c,hc,hcell⟩
  · exact wpAny_Name (wpAny_loadName_local I.ok.kind hk hn hm fin) hd
  · rcases hk with hk | hk
    · exact wpAny_Name (wpAny_loadName_cell I.ok.kind hk hc hcell fin) hd
    · exact wpAny_Name (wpAny_loadName_free I.ok.kind hk hc hcell fin hcd) hd
theorem zaf {i j pos}:PE X (.Constant (.int i) j pos) (tC (.int i)):=fun _ _ _ H _ I h=>wpAny_Constant_int ⟨.int i,H,I.tok _,⟨_,rfl⟩,h⟩
theorem zcZ {b j pos}:PE X (.Constant (.bool b) j pos) (tC (.bl b)):=fun _ _ _ H _ I h=>Constant_bool ⟨.bl b,H,I,rfl,h⟩
theorem zkG {j pos}:PE X (.Constant .none j pos) (tC .non):=fun _ _ _ H _ I h=>Constant_none ⟨.non,H,I,rfl,h⟩
theorem zdH {x j pos}:PE X (.Constant (.str x) j pos) (tC (.str x)):=fun _ _ _ H _ I h=>Calls.Constant_str ⟨.str x,H,I.tok _,⟨_,rfl⟩,h⟩
def Gl (X:Cx)(x:Str):Prop:=X.env.kindOf x=some .globalImplicit
theorem zh6 {E:Value→Shared→Prop}{pins:List (Addr×Obj)}{s:Shared}{σ:St}{H:Hp}{x:Str}{u:Value}{pos:Pos}{Q:Value→Shared→Prop}(I:Inv X pins σ H s)(hg:Gl X x)(hm:X.mg x=some u)(h:Q u s)
    (hd:(x == ("__debug__" : Str))=false:=by decide):wpAny (model X.prog X.w) X.A (eval (.Name x pos) X.env) Q E s:=
  Calls.Name_function_global I.ok.kind hg (Calls.loadGlobal_global (by rw[I.ok.glob];exact I.mod.glob.keeps I.bk) hm h) hd
theorem ze1 {E:Value→Shared→Prop}{pins:List (Addr×Obj)}{s:Shared}{σ:St}{H:Hp}{x:Str}{u:Value}{pos:Pos}{Q:Value→Shared→Prop}(I:Inv X pins σ H s)(hg:Gl X x)(hm:X.mg x=none)(hv:bootBuiltins x=some u)(h:Q u s)
    (hn:x ≠ "__name__":=by decide) (hd:(x == ("__debug__" : Str))=false:=by decide):wpAny (model X.prog X.w) X.A (eval (.Name x pos) X.env) Q E s:=by
  obtain ⟨mb,h1,h2⟩:=I.mod.blt;exact Calls.Name_function_global I.ok.kind hg (Calls.loadGlobal_builtin (by rw[I.ok.glob];exact I.mod.glob.keeps I.bk) hm (by rw[I.ok.blt];exact h1.keeps I.bk) ((h2 x hn).trans hv) h) hd
theorem zqf {x:Str}{v:V}{u:Value}{pos:Pos}(hg:Gl X x)(hm:X.mg x=some u)(r:RelV v u)(hd:(x == ("__debug__" : Str))=false:=by decide):PE X (.Name x pos) (tC v):=
  fun _ _ _ H _ I h=>zh6 I hg hm ⟨v,H,I,r,h⟩ hd
theorem zbj {x:Str}{v:V}{u:Value}{pos:Pos}(hg:Gl X x)(hm:X.mg x=none)(hv:bootBuiltins x=some u)(r:RelV v u)(hn:x ≠ "__name__":=by decide)(hd:(x == ("__debug__" : Str))=false:=by decide):PE X (.Name x pos) (tC v):=
  fun _ _ _ H _ I h=>ze1 I hg hm hv ⟨v,H,I,r,h⟩ hn hd
variable {a b:Expr}{ta tb:TE}{pos:Pos}
def tB (t:TE):TT:=fun σ H Q=>t σ H fun x H1=>∃ c,x=.bl c∧Q c H1
theorem zbe {e:Expr}{t:TE}(h:PE X e t)(he:∀ whole,isTrue e X.env whole=(do let v ← whole;standAt e.pos;holding [v] (truthy v)):=by intro _;rfl):PT X e (tB t):=by
  intro pins s σ H Q I hw;refine isTrue_plain (thn (h pins s σ H _ I hw) fun v s1 zq0=>?_) (he _);obtain ⟨x,H1,I1,r1,q1⟩:=zq0;obtain ⟨d,rfl,q⟩:=q1;cases r1
  exact wpAny_truthy_bool ⟨H1,I1,q⟩
variable {tA tB':TT}{rest:List Expr}
def tAnd (t u:TT):TT:=fun σ H Q=>t σ H fun c H1=>if c=true then u σ H1 Q else Q false H1
def tOr (t u:TT):TT:=fun σ H Q=>t σ H fun c H1=>if c=true then Q true H1 else u σ H1 Q
def tNot (t:TT):TT:=fun σ H Q=>t σ H fun c H1=>Q (!c) H1
theorem zfn (ha:PT X a tA):PW X (.BoolOp .And [a] pos) tA:=by
  intro wh pins s σ H Q I h;refine isTrue_and (thn (ha pins s σ H Q I h) fun c s1 e=>?_);cases c with
  | true=>exact isTrue_and_nil e
  | false=>exact e
theorem zgi (ha:PT X a tA):PW X (.BoolOp .Or [a] pos) tA:=by
  intro wh pins s σ H Q I h;refine isTrue_or (thn (ha pins s σ H Q I h) fun c s1 e=>?_);cases c with
  | false=>exact isTrue_or_nil e
  | true=>exact e
theorem zg1 (ha:PT X a tA)(hb:PW X (.BoolOp .And (b::rest) pos) tB'):PW X (.BoolOp .And (a::b::rest) pos) (tAnd tA tB'):=by
  intro wh pins s σ H Q I h;refine isTrue_and (thn (ha pins s σ H _ I h) fun c s1 zq0=>?_);obtain ⟨H1,I1,q1⟩:=zq0;cases c with
  | true=>exact hb wh pins s1 σ H1 Q I1 q1
  | false=>exact ⟨H1,I1,q1⟩
theorem zjB (ha:PT X a tA)(hb:PW X (.BoolOp .Or (b::rest) pos) tB'):PW X (.BoolOp .Or (a::b::rest) pos) (tOr tA tB'):=by
  intro wh pins s σ H Q I h;refine isTrue_or (thn (ha pins s σ H _ I h) fun c s1 zq0=>?_);obtain ⟨H1,I1,q1⟩:=zq0;cases c with
  | true=>exact ⟨H1,I1,q1⟩
  | false=>exact hb wh pins s1 σ H1 Q I1 q1
theorem zbG (ha:PT X a tA):PT X (.UnaryOp .Not a pos) (tNot tA):=by
  intro pins s σ H Q I h;exact isTrue_not (ha pins s σ H (fun c H1=>Q (!c) H1) I h)
def zsF (ta tb:TE):TE:=fun σ H Q=>ta σ H fun x H1=>∃ c,x=.bl c∧if c=true then tb σ H1 Q else Q (.bl false) H1
def zsA (ta:TE):TE:=fun σ H Q=>ta σ H fun x H1=>∃ c,x=.bl c∧Q (.bl (!c)) H1
theorem zmH {op}{t:TE}(h:PE X a t):PE X (.BoolOp op [a] pos) t:=fun pins s σ H Q I hw=>BoolOp_one (h pins s σ H Q I hw)
theorem zmI (ha:PE X a ta)(hb:PE X (.BoolOp .And (b::rest) pos) tb):PE X (.BoolOp .And (a::b::rest) pos) (zsF ta tb):=by
  intro pins s σ H Q I h;refine BoolOp_and (thn (ha pins s σ H _ I h) fun v s1 zq0=>?_);obtain ⟨x,H1,I1,r1,q1⟩:=zq0;obtain ⟨c,rfl,q1⟩:=q1;cases r1
  refine wpAny_truthy_bool ?_;cases c with
  | true=>exact hb pins s1 σ H1 Q I1 q1
  | false=>exact ⟨.bl false,H1,I1,rfl,q1⟩
theorem zrF (ha:PE X a ta):PE X (.UnaryOp .Not a pos) (zsA ta):=by
  intro pins s σ H Q I h;refine UnaryOp_ (thn (ha pins s σ H _ I h) fun v s1 zq0=>?_);obtain ⟨x,H1,I1,r1,q1⟩:=zq0;obtain ⟨c,rfl,q1⟩:=q1;cases r1
  exact not_of (wpAny_truthy_bool ⟨.bl (!c),H1,I1,rfl,q1⟩)
def tIf (t:TT)(ta tb:TE):TE:=fun σ H Q=>t σ H fun c H1=>if c=true then ta σ H1 Q else tb σ H1 Q
theorem zoj {c:Expr}(hc:PT X c tA)(ha:PE X a ta)(hb:PE X b tb):PE X (.IfExp c a b pos) (tIf tA ta tb):=by
  intro pins s σ H Q I h;refine wpAny_IfExp (thn (hc pins s σ H _ I h) fun d s1 zq0=>?_);obtain ⟨H1,I1,q1⟩:=zq0;cases d with
  | true=>exact ha pins s1 σ H1 Q I1 q1
  | false=>exact hb pins s1 σ H1 Q I1 q1
end
end L2
namespace L2
open PySem PySem.Spec PyProof.Rows
def SqL (K:Frag)(H:Hp)(a:Addr)(xs:List V):Prop:=
  Rd H a (.lst xs)∨
    ∃(o:Obj) (its:Array Value) (n:Nat),K.lookup a=some o∧o.cls=.type "list"∧o.dict=none∧o.data=.seq its n∧its.size≤sizeLine∧Vals xs its.toList
def SqT (K:Frag)(H:Hp)(a:Addr)(xs:List V):Prop:=
  Rd H a (.tup xs)∨
    ∃(o:Obj) (its:Array Value) (n:Nat),K.lookup a=some o∧o.cls=.type "tuple"∧o.data=.seq its n∧its.size≤sizeLine∧Vals xs its.toList
def absV:Value→Option V
  | .none=>some .non
  | .bool b=>some (.bl b)
  | .int i _=>some (.int i)
  | .str x _=>some (.str x)
  | .bytes b _=>some (.byt b)
  | .float b _=>some (.flt b)
  | .ref a=>some (.ref a)
  | .type n=>some (.ty n)
  | _=>none
theorem RelV.abs {x:V}{u:Value}(r:RelV x u):absV u=some x:=by
  cases x with
  | non=>cases r;rfl
  | bl _=>cases r;rfl
  | int _=>obtain ⟨t,rfl⟩:=r;rfl
  | str _=>obtain ⟨t,rfl⟩:=r;rfl
  | byt _=>obtain ⟨t,rfl⟩:=r;rfl
  | flt _=>obtain ⟨t,rfl⟩:=r;rfl
  | ref _=>cases r;rfl
  | ty _=>cases r;rfl
theorem RelV.inj {x y:V}{u:Value}(r:RelV x u)(q:RelV y u):x=y:=yad (r.abs.symm.trans q.abs)
theorem Vals.inj:∀{xs ys:List V} {us:List Value},Vals xs us→Vals ys us→xs=ys
  | _,_,_,.nil,.nil=>rfl
  | _,_,_,.cons r t,.cons r' t'=>by rw[r.inj r',Vals.inj t t']
section
variable {X:Cx}{pins:List (Addr×Obj)}{σ:St}{H:Hp}{s:Shared}{a:Addr}{xs ys:List V}
theorem SqL.of {K:Frag}(h:H a=some (.lst xs)):SqL K H a xs:=.inl (.inl h)
theorem SqT.of {K:Frag}(h:H a=some (.tup xs)):SqT K H a xs:=.inl (.inl h)
theorem Inv.list (I:Inv X pins σ H s)(h:SqL X.K H a xs):∃ its:List Value,Vals xs its∧PlainL s.heap a its.toArray∧xs.length≤sizeLine:=by
  rcases h with h | ⟨o,its,n,hk,hc,hd,hs,hz,r⟩
  · obtain ⟨z,its,n,r,e⟩:=h.ok I.hok
    exact ⟨its,r,⟨_,n,e,rfl,rfl,rfl⟩,z⟩
  · refine ⟨its.toList,r,⟨o,n,I.kIn a o hk,hc,hd,by simpa using hs⟩,?_⟩
    have e:=r.length;simp only[yax]at e;omega
theorem Inv.tuple (I:Inv X pins σ H s)(h:SqT X.K H a xs):∃ its:List Value,Vals xs its∧IsTup s.heap a its.toArray∧xs.length≤sizeLine:=by
  rcases h with h | ⟨o,its,n,hk,hc,hs,hz,r⟩
  · obtain ⟨z,its,r,p⟩:=h.ok I.hok
    exact ⟨its,r,p,z⟩
  · refine ⟨its.toList,r,⟨o,I.kIn a o hk,hc,n,by simpa using hs⟩,?_⟩
    have e:=r.length;simp only[yax]at e;omega
theorem Inv.list_inj (I:Inv X pins σ H s)(h:SqL X.K H a xs)(h':SqL X.K H a ys):xs=ys:=by
  obtain ⟨its,r,⟨o,n,e,_,_,d⟩,_⟩:=I.list h;obtain ⟨its',r',⟨o',n',e',_,_,d'⟩,_⟩:=I.list h';rw[e]at e';cases e'
  rw[d]at d';injection d' with d1 _;have:its=its':=by simpa using congrArg Array.toList d1
  subst this;exact r.inj r'
theorem Inv.tuple_inj (I:Inv X pins σ H s)(h:SqT X.K H a xs)(h':SqT X.K H a ys):xs=ys:=by
  obtain ⟨its,r,⟨o,e,_,n,d⟩,_⟩:=I.tuple h;obtain ⟨its',r',⟨o',e',_,n',d'⟩,_⟩:=I.tuple h';rw[e]at e';cases e'
  rw[d]at d';injection d' with d1 _;have:its=its':=by simpa using congrArg Array.toList d1
  subst this;exact r.inj r'
end
abbrev Cx.wish (X:Cx)(E:Value→Shared→Prop):Cx:={ X with xe:=E }
abbrev Cx.nox (X:Cx):Cx:=X.wish fun _ _=>False
theorem Cx.Ok.wish {X:Cx}(ok:X.Ok)(E:Value→Shared→Prop):(X.wish E).Ok:=
  ⟨ok.mod,ok.kind,ok.glob,ok.blt,ok.above,ok.inj,ok.has,ok.cab,ok.hd,ok.frames,ok.stk,ok.exf,ok.bs,ok.bsz,ok.noex,ok.exfs,ok.funs,ok.frf⟩
theorem Cx.Ok.unwish {X:Cx}{E:Value→Shared→Prop}(ok:(X.wish E).Ok):X.Ok:=
  ⟨ok.mod,ok.kind,ok.glob,ok.blt,ok.above,ok.inj,ok.has,ok.cab,ok.hd,ok.frames,ok.stk,ok.exf,ok.bs,ok.bsz,ok.noex,ok.exfs,ok.funs,ok.frf⟩
section
variable {X:Cx}{pins:List (Addr×Obj)}{σ:St}{H:Hp}{s:Shared}{E:Value→Shared→Prop}
theorem Inv.wish (I:Inv X pins σ H s)(E:Value→Shared→Prop):Inv (X.wish E) pins σ H s:=⟨I.ok.wish E,I.os,I.bare,I.base,I.loc,I.cell,I.free,I.freeC,I.pin,I.hok,I.len⟩
theorem Inv.unwish (I:Inv (X.wish E) pins σ H s):Inv X pins σ H s:=⟨I.ok.unwish,I.os,I.bare,I.base,I.loc,I.cell,I.free,I.freeC,I.pin,I.hok,I.len⟩
theorem SP.unwish {D:Ends}{f:Flow}{s':Shared}(h:SP (X.wish E) pins D f s'):SP X pins D f s':=by
  cases f with
  | next=>obtain ⟨σ',H',I,q⟩:=h;exact ⟨σ',H',I.unwish,q⟩
  | brk=>obtain ⟨σ',H',I,q⟩:=h;exact ⟨σ',H',I.unwish,q⟩
  | cont=>obtain ⟨σ',H',I,q⟩:=h;exact ⟨σ',H',I.unwish,q⟩
  | ret u=>obtain ⟨v,σ',H',I,r,q⟩:=h;exact ⟨v,σ',H',I.unwish,r,q⟩
theorem PSs.nox {st:List Stmt}{t:TS}(h:PSs X.nox st t):PSs X st t:=fun pins s σ H D I hw=>
  wpAny_mono (h pins s σ H D (I.wish _) hw) (fun _ _ q=>q.unwish) fun _ _ z=>False.elim z
end
section
variable {X:Cx}{st:Stmt}{rest:List Stmt}{t u:TS}{e:Expr}{te:TE}{pos:Pos}
def zsB:TS:=fun D σ H=>D.nx σ H
def tSeq (t u:TS):TS:=fun D σ H=>t { D with nx:=u D } σ H
theorem zax:PSs X [] zsB:=fun _ _ σ H _ I h=>wpAny_execs_nil ⟨σ,H,I,h⟩
theorem zah (h1:PS X st t)(h2:PSs X rest u):PSs X (st::rest) (tSeq t u):=by
  intro pins s σ H D I h;refine wpAny_execs_cons (thn (h1 pins s σ H { D with nx:=u D } I h) fun f s1 q=>?_);cases f with
  | next=>
    obtain ⟨σ',H',I',q⟩:=q;exact h2 pins s1 σ' H' D I' q
  | ret v=>exact q
  | brk=>exact q
  | cont=>exact q
theorem zae (h1:PS X st t):PSs X [st] t:=by
  intro pins s σ H D I h;refine wpAny_execs_cons (thn (h1 pins s σ H D I h) fun f s1 q=>?_);cases f with
  | next=>exact wpAny_execs_nil q
  | ret v=>exact q
  | brk=>exact q
  | cont=>exact q
theorem Inv.quiet {pins:List (Addr×Obj)}{σ:St}{H:Hp}{s:Shared}(I:Inv X pins σ H s):interactive X.env=false:=by simp[interactive,I.ok.kind]
def zsC (te:TE):TS:=fun D σ H=>te σ H fun _ H1=>D.nx σ H1
theorem zbi (he:PE X e te)(hs:swapsWith e none pos.line X.env=pure false:=by rfl):PS X (.Expr e pos) (zsC te):=by
  intro pins s σ H D I h;exact wpAny_Expr_any (thn (he pins s σ H _ I h) fun v s1 zq0=>(by obtain ⟨x,H1,I1,r1,q1⟩:=zq0;exact ⟨σ,H1,I1,q1⟩)) I.quiet hs
def tRet (te:TE):TS:=fun D σ H=>te σ H D.rt
theorem zau (he:PE X e te):PS X (.Return (some e) pos) (tRet te):=by
  intro pins s σ H D I h;exact wpAny_Return_some (thn (he pins s σ H _ I h) fun v s1 zq0=>(by obtain ⟨x,H1,I1,r1,q1⟩:=zq0;exact ⟨x,σ,H1,I1,r1,q1⟩))
def tIfS (c:TT)(t u:TS):TS:=fun D σ H=>c σ H fun b H1=>if b=true then t D σ H1 else u D σ H1
theorem zaW {c:Expr}{a b:List Stmt}{tc:TT}(hc:PT X c tc)(ha:PSs X a t)(hb:PSs X b u):PS X (.If c a b pos) (tIfS tc t u):=by
  intro pins s σ H D I h;refine wpAny_If (thn (hc pins s σ H _ I h) fun d s1 zq0=>?_);obtain ⟨H1,I1,q1⟩:=zq0;cases d with
  | true=>exact ha pins s1 σ H1 D I1 q1
  | false=>exact hb pins s1 σ H1 D I1 q1
def zri:TS:=fun _ _ _=>False
theorem zbb:PS X st zri:=fun _ _ _ _ _ _ h=>h.elim
end
abbrev TG:=V→St→Hp→(St→Hp→Prop)→Prop
abbrev TGs:=List V→St→Hp→(St→Hp→Prop)→Prop
def PG (X:Cx)(target:Expr)(t:TG):Prop:=
  ∀(pins:List (Addr×Obj)) (s:Shared) (σ:St) (H:Hp) (v:V) (u:Value) (Q:St→Hp→Prop),Inv X pins σ H s→RelV v u→t v σ H Q→
    wpAny (model X.prog X.w) X.A (assign target X.env u) (fun _ s'=>∃ σ' H',Inv X pins σ' H' s'∧Q σ' H') X.xe s
def PGs (X:Cx)(ts:List Expr)(t:TGs):Prop:=
  ∀(pins:List (Addr×Obj)) (s:Shared) (σ:St) (H:Hp) (vs:List V) (us:List Value) (Q:St→Hp→Prop),Inv X pins σ H s→Vals vs us→t vs σ H Q→
    wpAny (model X.prog X.w) X.A (assignInOrder ((assignEach ts X.env).map (·.2)) us) (fun _ s'=>∃ σ' H',Inv X pins σ' H' s'∧Q σ' H') X.xe s
abbrev TSet:=V→V→V→Hp→(Hp→Prop)→Prop
def PSet (X:Cx)(t:TSet):Prop:=
  ∀(pins:List (Addr×Obj)) (s:Shared) (σ:St) (H:Hp) (o i v:V) (ov iv u:Value) (Q:Hp→Prop),Inv X pins σ H s→RelV o ov→RelV i iv→RelV v u→t o i v H Q→
    wpAny (model X.prog X.w) X.A (setItem ov iv u) (fun _ s'=>∃ H',Inv X pins σ H' s'∧Q H') X.xe s
section
variable {X:Cx}{pos:Pos}
def zib (i:Nat):TG:=fun v σ H Q=>Q (σ.set i (some v)) H
theorem zar {i:Nat}{x:Str}(hN:X.N.Nodup)(hi:X.N[i]?=some x)(hx:Loc X.env.scope x)(hf:X.fn x=true∨X.env.scope.names.lookup x=some .local:=by first | exact .inl rfl | exact .inr rfl | assumption):PG X (.Name x pos) (zib i):=by
  intro pins s σ H v u Q I r h;exact wpAny_assign_Name (zko I hN hi hx r (fun s' I'=>⟨_,H,I',h⟩) hf)
def gNil:TGs:=fun vs σ H Q=>vs=[]∧Q σ H
def zsQ (t:TG)(u:TGs):TGs:=fun vs σ H Q=>∃ v r,vs=v::r∧t v σ H fun σ' H'=>u r σ' H' Q
theorem zfq:PGs X [] gNil:=by
  intro pins s σ H vs us Q I r h;obtain ⟨e,h⟩:=h;subst e;cases r
  exact assignInOrder_nil ⟨σ,H,I,h⟩
theorem zbt {e:Expr}{es:List Expr}{t:TG}{u:TGs}(h1:PG X e t)(h2:PGs X es u)
    (hs:(assignEach (e::es) X.env).map (·.2)=assign e X.env::(assignEach es X.env).map (·.2):=by rfl):PGs X (e::es) (zsQ t u):=by
  intro pins s σ H vs us Q I r h;obtain ⟨v,vr,e1,h⟩:=h;subst e1;cases r with
  | cons r rr=>
    rw[hs];refine assignInOrder_cons (thn (h1 pins s σ H _ _ _ I r h) fun _ s1 zq0=>?_);obtain ⟨σ1,H1,I1,q1⟩:=zq0;exact h2 pins s1 σ1 H1 _ _ Q I1 rr q1
def gTup (K:Frag)(n:Nat)(t:TGs):TG:=fun v σ H Q=>∃ a xs,v=.ref a∧SqT K H a xs∧xs.length=n∧t xs σ H Q
theorem zg3 {es:List Expr}{k:Nat}{t:TGs}{n:Nat}(hc:X.calm=true)(h:PGs X es t)
    (hn:(assignEach es X.env).length=n:=by rfl) (hst:(assignEach es X.env).findIdx? (·.1)=none:=by rfl):PG X (.Tuple es k pos) (gTup X.K n t):=by
  intro pins s σ H v u Q I r hw;obtain ⟨a,xs,e1,hq,hl,hw⟩:=hw;subst e1;cases r
  obtain ⟨its,rv,ht,hz⟩:=I.tuple hq;refine assign_Tuple_tuple (I.ok.hd hc) ht (by simp[hn,← hl,rv.length]) hst fun h' hx=>?_;have I1:Inv X pins σ H { s with heap:=h' }:=I.kept (t':=s.toks) fun b o e=>hx b o (yan (yaf e)) e;exact h pins _ σ H xs _ Q I1 (by simpa using rv) hw
def gSub (to ti:TE)(t:TSet):TG:=fun v σ H Q=>to σ H fun o H1=>ti σ H1 fun i H2=>t o i v H2 fun H3=>Q σ H3
theorem zeU {o i:Expr}{to ti:TE}{t:TSet}(ho:PE X o to)(hi:PE X i ti)(hs:PSet X t)
    (ha:∀ v,assign (.Subscript o i pos) X.env v=(do
      let ov ← holding [v] (eval o X.env)
      let iv ← holding [v,ov] (eval i X.env)
      standAt pos
      holding [v,ov,iv] (setItem ov iv v)
      release [v,ov,iv] []):=by intro _;rfl):PG X (.Subscript o i pos) (gSub to ti t):=by
  intro pins s σ H v u Q I r h;rw[ha];refine wpAny_bind (wpAny_holding (thn (ho pins s σ H _ I h) fun ov s1 zq0=>?_));obtain ⟨x,H1,I1,r1,q1⟩:=zq0;refine wpAny_bind (wpAny_holding (thn (hi pins s1 σ H1 _ I1 q1) fun iv s2 zq0=>?_));obtain ⟨y,H2,I2,r2,q2⟩:=zq0;refine wpAny_bind (wpAny_standAt (wpAny_bind (wpAny_holding (thn (hs pins s2 σ H2 x y v ov iv u _ I2 r1 r2 r q2) fun _ s3 zq0=>?_))));obtain ⟨H3,I3,q3⟩:=zq0;exact wpAny_release ⟨σ,H3,I3,q3⟩
def tAsg (te:TE)(g:TG):TS:=fun D σ H=>te σ H fun x H1=>g x σ H1 D.nx
theorem zdx {tg e:Expr}{te:TE}{g:TG}(he:PE X e te)(hg:PG X tg g)(hs:swapsWithSole [tg] e pos.line X.env=pure false:=by rfl)(hw:swappedStores [tg] e X.env=pure none:=by rfl)
    (h1:(assignEach [tg] X.env).map (·.2)=[assign tg X.env]:=by rfl):PS X (.Assign [tg] e pos) (tAsg te g):=by
  intro pins s σ H D I h;refine wpAny_Assign_stores (thn (he pins s σ H _ I h) fun v s1 zq0=>?_) hs hw;obtain ⟨x,H1,I1,r1,q1⟩:=zq0;rw[h1];exact thn (hg pins s1 σ H1 x v _ I1 r1 q1) fun _ s2 q=>q
theorem zas {i:Nat}{x:Str}{e:Expr}{te:TE}{pos':Pos}(hN:X.N.Nodup)(hi:X.N[i]?=some x)(hx:Loc X.env.scope x)(he:PE X e te)(hs:swapsWith e (some (.Name x pos')) pos.line X.env=pure false:=by rfl)(hf:X.fn x=true∨X.env.scope.names.lookup x=some .local:=by first | exact .inl rfl | exact .inr rfl | assumption) :
    PS X (.Assign [.Name x pos'] e pos) (tAsg te (zib i)):=by
  intro pins s σ H D I h;refine wpAny_Assign_Name (thn (he pins s σ H _ I h) fun v s1 zq0=>?_) hs;obtain ⟨y,H1,I1,r1,q1⟩:=zq0;exact zko I1 hN hi hx r1 (fun s2 I2=>⟨_,H1,I2,q1⟩) hf
end
section
variable {X:Cx}{pos:Pos}
def zme (c:TT)(tb:TS):TS:=fun D σ H=>∃ W:Nat→St→Hp→Prop,(∃ m,W m σ H)∧∀ m σ H,W m σ H→
  c σ H fun b H1=>if b=true then ∃ N:St→Hp→Prop,(∀ σ' H',N σ' H'→∃ m',m' < m∧W m' σ' H')∧tb { D with nx:=N,ct:=N,bk:=D.nx } σ H1 else D.nx σ H1
theorem zf1 {c:Expr}{body:List Stmt}{tc:TT}{tb:TS}(hp:PassesOwn (model X.prog X.w) X.A X.env X.xe)(hc:PT X c tc)(hb:PSs X body tb):PS X (.While c body [] pos) (zme tc tb):=by
  intro pins s σ H D I h;obtain ⟨W,⟨m0,w0⟩,turn⟩:=h;refine wpAny_While (codeAny_whileLoop (fun n s'=>∃ σ' H',Inv X pins σ' H' s'∧W n σ' H') ?_ m0 ⟨σ,H,I,w0⟩);rintro n s1 ⟨σ1,H1,I1,w1⟩;refine wpAny_passesOwn hp (thn (hc pins s1 σ1 H1 _ I1 (turn n σ1 H1 w1)) fun b s2 zq0=>?_);obtain ⟨H2,I2,q2⟩:=zq0;cases b with
  | true=>
    obtain ⟨N,hN,q2⟩:=q2;rw[if_pos rfl];refine wpAny_passesOwn hp (thn (hb pins s2 σ1 H2 _ I2 q2) fun f s3 q3=>?_);cases f with
    | next=>
      obtain ⟨σ3,H3,I3,n3⟩:=q3;obtain ⟨m',hm,w3⟩:=hN σ3 H3 n3;exact ⟨m',hm,σ3,H3,I3,w3⟩
    | cont=>
      obtain ⟨σ3,H3,I3,n3⟩:=q3;obtain ⟨m',hm,w3⟩:=hN σ3 H3 n3;exact ⟨m',hm,σ3,H3,I3,w3⟩
    | brk=>exact q3
    | ret v=>exact q3
  | false=>
    rw[if_neg yaA];exact wpAny_execs_nil ⟨σ1,H2,I2,q2⟩
end
structure It where
  go:Nat→Hp→Prop
  yld:Nat→Hp→V→Hp→Prop
  stop:Nat→Hp→Prop
def FpOk (X:Cx)(pins:List (Addr×Obj))(H:Hp)(b:Addr):Prop:=
  H b=none∧b≠X.env.locals∧b∉X.fs∧(b∈X.ex∨X.s₀.heap.objs.size≤b)∧(∀ x c,X.env.cells.lookup x=some c→c≠b)∧∀ p∈X.pn++pins,p.1≠b
theorem Inv.fpOk {X:Cx}{pins:List (Addr×Obj)}{σ:St}{H H':Hp}{s:Shared}{b:Addr}(I:Inv X pins σ H s)(hb:s.heap.objs.size≤b)(hn:H' b=none):FpOk X pins H' b:=by
  refine ⟨hn,ybo (yaw I.lt hb),I.nofs hb,.inr (yao I.sz hb),fun x c e z=>?_,fun p hp z=>?_⟩
  · obtain ⟨v,q⟩:=I.cell x c e
    exact absurd (yaw q.lt (by rw[z];exact hb)) (ybi _)
  · exact absurd (yaw (yaf (I.pin p hp).1) (by rw[z];exact hb)) (ybi _)
structure Turn (P:Program)(w:World)(K:Frag)(tg:Expr)(J:It)(fp:List Addr)(it:Addr)(tn:Nat→Heap→Prop):Prop where
  mem:it∈fp
  obj:∀ i h,tn i h→∀ b∈fp,∃ o,h.get? b=some o∧∀ v,o.data≠.cell v
  keep:∀ i h h',tn i h→(∀ b∈fp,∀ o,h.get? b=some o→h'.get? b=some o)→tn i h'
  item:∀(X:Cx),X.prog=P→X.w=w→X.K=K→X.calm=true→∀(i:Nat) (pins:List (Addr×Obj)) (s:Shared) (σ:St) (H:Hp) (E:Value→Shared→Prop),Inv X pins σ H s→(∀ b∈fp,FpOk X pins H b)→tn i s.heap→J.go i H→
    wpAny (model P w) X.A (pyNext (.ref it)) (fun r s1=>∃ u,r=some u∧
      wpAny (model P w) X.A (letOwnedTupleGo tg (.ref it) u) (fun _ s2=>∃ x H',Inv X pins σ H' s2∧RelV x u∧J.yld i H x H'∧tn (i+1) s2.heap∧∀ b∈fp,H' b=none) E s1) E s
  done:∀(X:Cx),X.prog=P→X.w=w→X.K=K→X.calm=true→∀(i:Nat) (pins:List (Addr×Obj)) (s:Shared) (σ:St) (H:Hp) (E:Value→Shared→Prop),Inv X pins σ H s→(∀ b∈fp,FpOk X pins H b)→tn i s.heap→J.stop i H→
    wpAny (model P w) X.A (pyNext (.ref it)) (fun r s1=>r=none∧Inv X pins σ H s1) E s
  self:∀(A:Around) (i:Nat) (s:Shared) (Q:Value→Shared→Prop) (E:Value→Shared→Prop),tn i s.heap→Q (.ref it) s→wpAny (model P w) A (pyIter (.ref it)) Q E s
abbrev TI:=St→Hp→(It→Hp→Prop)→Prop
def PIE (X:Cx)(pins:List (Addr×Obj))(σ:St)(tg:Expr)(R:It→Hp→Prop)(itv:Value)(s2:Shared):Prop:=
  ∃(it:Addr) (fp:List Addr) (tn:Nat→Heap→Prop) (J:It) (H':Hp),itv=.ref it∧Inv X pins σ H' s2∧Turn X.prog X.w X.K tg J fp it tn∧tn 0 s2.heap∧(∀ b∈fp,FpOk X pins H' b)∧R J H'
def PI (X:Cx)(tg iter:Expr)(wi:TI):Prop:=
  ∀(pins:List (Addr×Obj)) (s:Shared) (σ:St) (H:Hp) (R:It→Hp→Prop),Inv X pins σ H s→wi σ H R→
    wpAny (model X.prog X.w) X.A (eval iter X.env) (fun v s1=>wpAny (model X.prog X.w) X.A (pyIter v) (PIE X pins σ tg R) X.xe s1) X.xe s
theorem znt {M:Model}{A:Around}{E:Value→Shared→Prop}{s:Shared}{tg:Expr}{it:Addr}{u:Value}{o:Obj}{n:String}{vs:Array Value}{Q:Unit→Shared→Prop}(ho:s.heap.get? it=some o)(hc:o.cls=.type n)(hd:o.data=.fields vs)
    (hn:["enumerate","zip","dict_itemiterator","dict_reverseitemiterator","odict_iterator","itertools.zip_longest","itertools.pairwise"].contains n=false) (hQ:Q () s):wpAny M A (letOwnedTupleGo tg (.ref it) u) Q E s:=by
  unfold letOwnedTupleGo;cases tg <;> first
    | exact wpAny_pure hQ
    | (cases u <;> first
        | exact wpAny_pure hQ
        | (refine wpAny_bind (wpAny_load ho ?_)
           rw[hc,hd];show wpAny M A (if (["enumerate","zip","dict_itemiterator","dict_reverseitemiterator","odict_iterator","itertools.zip_longest","itertools.pairwise"].contains n && vs[0]? == some (rawInt _))=true then _ else _) Q E s
           rw[if_neg (by intro h;rw[hn,Bool.false_and]at h;cases h)]
           exact wpAny_pure hQ))
def Itl (K:Frag)(a:Addr):It:=
  ⟨fun i H=>∃ xs x,SqL K H a xs∧xs[i]?=some x,fun i H x H'=>H'=H∧∀ xs,SqL K H a xs→xs[i]?=some x,fun i H=>∃ xs,SqL K H a xs∧xs.length≤i⟩
def Itt (K:Frag)(a:Addr):It:=
  ⟨fun i H=>∃ xs x,SqT K H a xs∧xs[i]?=some x,fun i H x H'=>H'=H∧∀ xs,SqT K H a xs→xs[i]?=some x,fun i H=>∃ xs,SqT K H a xs∧xs.length≤i⟩
def Itr (lo:Int)(n:Nat):It:=⟨fun i _=>i < n,fun i H x H'=>H'=H∧x=.int (lo+i),fun i _=>n≤i⟩
theorem zir {P:Program}{w:World}{K:Frag}{tg:Expr}(a it:Addr):Turn P w K tg (Itl K a) [it] it (fun i h=>h.IsListIter it a i) where
  mem:=by simp
  obj:=fun i h st b hb=>by
    have e:b=it:=by simpa using hb
    subst e;obtain ⟨o,e,c,d⟩:=st;exact ⟨o,e,fun v z=>by rw[d]at z;cases z⟩
  keep:=fun i h h' st k=>st.at fun o e=>k it (by simp) o e
  item:=by
    intro X hP hw hK hc i pins s σ H E I hf st hg;subst hP hw hK;obtain ⟨xs,x,hq,hx⟩:=hg;obtain ⟨its,rv,p,hz⟩:=I.list hq;obtain ⟨u,hu,ru⟩:=rv.get hx;obtain ⟨f0,f1,f2,f3,f4,f5⟩:=hf it (by simp);refine wpAny_pyNext_list_item st p.isList (x:=u) (by simpa using hu) fun h' st' sb=>?_;have I1:Inv X pins σ H { s with heap:=h' }:=I.turned (t':=s.toks) (fun b o hb e=>(sb.2 b hb).trans e) f0 f1 f3 f4 f5;obtain ⟨o,e,c,d⟩:=id st';exact ⟨u,rfl,znt (s:={ s with heap:=h' }) e c d (by decide) ⟨x,H,I1,ru,⟨rfl,fun ys hy=>by rw[I.list_inj hy hq];exact hx⟩,st',fun b hb=>(hf b hb).1⟩⟩
  done:=by
    intro X hP hw hK hc i pins s σ H E I hf st hg;subst hP hw hK;obtain ⟨xs,hq,hx⟩:=hg;obtain ⟨its,rv,p,hz⟩:=I.list hq;obtain ⟨f0,f1,f2,f3,f4,f5⟩:=hf it (by simp);have hl:=rv.length;exact wpAny_pyNext_list_end (I.ok.hd hc) st p.isList (by simp;omega) fun h' eb=>⟨rfl,I.turned (t':=s.toks) (fun b o hb e=>eb b o hb e) f0 f1 f3 f4 f5⟩
  self:=fun _ _ _ _ _ st h=>wpAny_pyIter_listiter st h
theorem zgU {P:Program}{w:World}{K:Frag}{tg:Expr}(a it:Addr):Turn P w K tg (Itt K a) [it] it (fun i h=>h.IsTupleIter it a i) where
  mem:=by simp
  obj:=fun i h st b hb=>by
    have e:b=it:=by simpa using hb
    subst e;obtain ⟨o,e,c,d⟩:=st;exact ⟨o,e,fun v z=>by rw[d]at z;cases z⟩
  keep:=fun i h h' st k=>st.at fun o e=>k it (by simp) o e
  item:=by
    intro X hP hw hK hc i pins s σ H E I hf st hg;subst hP hw hK;obtain ⟨xs,x,hq,hx⟩:=hg;obtain ⟨its,rv,p,hz⟩:=I.tuple hq;obtain ⟨u,hu,ru⟩:=rv.get hx;obtain ⟨f0,f1,f2,f3,f4,f5⟩:=hf it (by simp);refine wpAny_pyNext_tuple_item st (show s.heap.IsTuple a its.toArray from p) (x:=u) (by simpa using hu) fun h' st' sb=>?_;have I1:Inv X pins σ H { s with heap:=h' }:=I.turned (t':=s.toks) (fun b o hb e=>(sb.2 b hb).trans e) f0 f1 f3 f4 f5;obtain ⟨o,e,c,d⟩:=id st';exact ⟨u,rfl,znt (s:={ s with heap:=h' }) e c d (by decide) ⟨x,H,I1,ru,⟨rfl,fun ys hy=>by rw[I.tuple_inj hy hq];exact hx⟩,st',fun b hb=>(hf b hb).1⟩⟩
  done:=by
    intro X hP hw hK hc i pins s σ H E I hf st hg;subst hP hw hK;obtain ⟨xs,hq,hx⟩:=hg;obtain ⟨its,rv,p,hz⟩:=I.tuple hq;obtain ⟨f0,f1,f2,f3,f4,f5⟩:=hf it (by simp);have hl:=rv.length;exact wpAny_pyNext_tuple_end (I.ok.hd hc) st (show s.heap.IsTuple a its.toArray from p) (by simp;omega) fun h' eb=>⟨rfl,I.turned (t':=s.toks) (fun b o hb e=>eb b o hb e) f0 f1 f3 f4 f5⟩
  self:=fun _ _ _ _ _ st h=>wpAny_pyIter_tupleiter st h
theorem zlf {P:Program}{w:World}{K:Frag}{tg:Expr}(it:Addr)(lo:Int)(n:Nat):Turn P w K tg (Itr lo n) [it] it (fun i h=>IsRangeIter h it (lo+(i:Nat) * 1) ((n:Int) - (i:Nat)) 1) where
  mem:=by simp
  obj:=fun i h st b hb=>by
    have e:b=it:=by simpa using hb
    subst e;exact ⟨_,st,fun v z=>by
      have z':Data.fields _=Data.cell v:=z;cases z'⟩
  keep:=fun i h h' st k=>k it (by simp) _ st
  item:=by
    intro X hP hw hK hc i pins s σ H E I hf st hg;subst hP hw hK;obtain ⟨f0,f1,f2,f3,f4,f5⟩:=hf it (by simp);have W:=Walks.range (prog:=X.prog) (w:=X.w) (I.ok.hd hc) it lo 1 n;refine W.item i s _ _ hg st fun v h' tk hv st' kk=>?_;obtain ⟨t,rfl⟩:=hv;have I1:Inv X pins σ H { s with heap:=h',toks:=tk }:=I.turned (fun b o hb e=>kk b o (by simpa using hb) e) f0 f1 f3 f4 f5;refine ⟨_,rfl,znt (s:={ s with heap:=h',toks:=tk }) (n := "range_iterator") st' rfl rfl (by decide) ⟨.int (lo+i),H,I1,⟨t,?_⟩,⟨rfl,rfl⟩,st',fun b hb=>(hf b hb).1⟩⟩;rw[Int.mul_one]
  done:=by
    intro X hP hw hK hc i pins s σ H E I hf st hg;subst hP hw hK;obtain ⟨f0,f1,f2,f3,f4,f5⟩:=hf it (by simp);exact wpAny_pyNext_range_end (I.ok.hd hc) st (by have:n≤i:=hg;omega) fun h' eb=>⟨rfl,I.turned (t':=s.toks) (fun b o hb e=>eb b o hb e) f0 f1 f3 f4 f5⟩
  self:=fun _ _ _ _ _ st h=>wpAny_pyIter_rangeiter st h
end L2
namespace L2
open PySem PySem.Spec PyProof.Rows
section
variable {X:Cx}{tg:Expr}
def zsO (K:Frag)(tl:TE):TI:=fun σ H R=>tl σ H fun x H1=>∃ a,x=.ref a∧(∃ xs,SqL K H1 a xs)∧R (Itl K a) H1
def iTup (K:Frag)(tl:TE):TI:=fun σ H R=>tl σ H fun x H1=>∃ a,x=.ref a∧(∃ xs,SqT K H1 a xs)∧R (Itt K a) H1
theorem zbQ {l:Expr}{tl:TE}(hl:PE X l tl):PI X tg l (zsO X.K tl):=by
  intro pins s σ H R I h;refine thn (hl pins s σ H _ I h) fun v s1 zq0=>?_;obtain ⟨x,H1,I1,r1,q1⟩:=zq0;obtain ⟨a,e,⟨xs,hq⟩,q⟩:=q1;subst e;cases r1
  obtain ⟨its,rv,p,hz⟩:=I1.list hq;refine wpAny_pyIter_list p.isList ?_;refine ⟨s1.heap.objs.size,[s1.heap.objs.size],_,_,H1,rfl,I1.kept (t':=s1.toks) fun b o e=>yai _ e,zir a _,⟨_,yaB _ rfl,rfl,rfl⟩,fun b hb=>?_,q⟩;have e:b=s1.heap.objs.size:=by simpa using hb
  subst e;exact I1.fpOk (yaa _) (I1.hok.fresh (yaa _))
theorem zdF {l:Expr}{tl:TE}(hl:PE X l tl):PI X tg l (iTup X.K tl):=by
  intro pins s σ H R I h;refine thn (hl pins s σ H _ I h) fun v s1 zq0=>?_;obtain ⟨x,H1,I1,r1,q1⟩:=zq0;obtain ⟨a,e,⟨xs,hq⟩,q⟩:=q1;subst e;cases r1
  obtain ⟨its,rv,p,hz⟩:=I1.tuple hq;refine wpAny_pyIter_tuple (show s1.heap.IsTuple a its.toArray from p) ?_;refine ⟨s1.heap.objs.size,[s1.heap.objs.size],_,_,H1,rfl,I1.kept (t':=s1.toks) fun b o e=>yai _ e,zgU a _,⟨_,yaB _ rfl,rfl,rfl⟩,fun b hb=>?_,q⟩;have e:b=s1.heap.objs.size:=by simpa using hb
  subst e;exact I1.fpOk (yaa _) (I1.hok.fresh (yaa _))
theorem zkC {pins:List (Addr×Obj)}{σ:St}{H:Hp}{s:Shared}{R:It→Hp→Prop}{E:Value→Shared→Prop}{lo hi:Int}{t u v:Tok}{tk:Nat}(I:Inv X pins σ H s)(h1:-(2 ^ 62)≤lo)(h2:lo < 2 ^ 62)(h3:-(2 ^ 62)≤hi)(h4:hi < 2 ^ 62)
    (q:R (Itr lo (hi - lo).toNat) H):wpAny (model X.prog X.w) X.A (pyIter (.ref s.heap.objs.size)) (PIE X pins σ tg R) E { s with heap:=s.heap.push { cls:=.type "range",data:=.fields #[.int lo t,.int hi u,.int 1 v] },toks:=tk }:=by
  refine wpAny_pyIter_range (IsRange.new ..) (small_one h1 h2 h3 h4) ?_;have I1:Inv X pins σ H { s with heap:=s.heap.push { cls:=.type "range",data:=.fields #[.int lo t,.int hi u,.int 1 v] },toks:=tk }:=I.kept fun b o e=>yai _ e;refine ⟨(s.heap.push { cls:=.type "range",data:=.fields #[.int lo t,.int hi u,.int 1 v] }).objs.size,[(s.heap.push { cls:=.type "range",data:=.fields #[.int lo t,.int hi u,.int 1 v] }).objs.size],_,_,H,rfl,
    I1.kept (t':=tk) fun b o e=>yai _ e,zlf _ lo (hi - lo).toNat,?_,fun b hb=>?_,q⟩
  · have e1:lo+((0:Nat):Int) * 1=lo:=by simp
    have e2:(((hi - lo).toNat:Nat):Int) - ((0:Nat):Int)=Builtin.Range.rangeSize lo hi 1:=by rw[rangeSize_one];split <;> omega
    show IsRangeIter _ _ (lo+((0:Nat):Int) * 1) ((((hi - lo).toNat:Nat):Int) - ((0:Nat):Int)) 1;rw[e1,e2];exact yaB _ rfl
  · have e:b=(s.heap.push { cls:=.type "range",data:=.fields #[.int lo t,.int hi u,.int 1 v] }).objs.size:=by simpa using hb
    subst e;exact I1.fpOk (yaa _) (I1.hok.fresh (yaa _))
def zsN (ta:TA):TI:=fun σ H R=>ta σ H fun vs H1=>∃ j:Int,vs=[.int j]∧-(2 ^ 62)≤j∧j < 2 ^ 62∧R (Itr 0 j.toNat) H1
def zsM (ta:TA):TI:=fun σ H R=>ta σ H fun vs H1=>∃ i j:Int,vs=[.int i,.int j]∧(-(2 ^ 62)≤i∧i < 2 ^ 62∧-(2 ^ 62)≤j∧j < 2 ^ 62)∧R (Itr i (j - i).toNat) H1
theorem zaY {a:Expr}{ta:TA}{p pos:Pos}(hg:Gl X "range")(hm:X.mg "range" = none)(ha:PA X [a] ta)(hs:starEach [a] X.env=[(false,eval a X.env)]:=by rfl):PI X tg (.Call (.Name "range" p) [a] [] pos) (zsN ta):=by
  intro pins s σ H R I h;refine Call_ (ze1 I hg hm boot_range (PyProof.Rows.callWith_type1 (thn (ha pos pins s σ H _ I h) fun us s1 zq0=>?_) hs rfl));obtain ⟨vs,H1,I1,r1,q1⟩:=zq0;obtain ⟨j,e,q1,q2,q⟩:=q1;subst e;cases r1 with
  | cons r rr=>
    cases rr
    obtain ⟨t,rfl⟩:=r;exact call_range_1 (zkC I1 (by omega) (by omega) q1 q2 (by simpa using q))
theorem zdG {a b:Expr}{ta:TA}{p pos:Pos}(hg:Gl X "range")(hm:X.mg "range" = none)(ha:PA X [a,b] ta)(hs:starEach [a,b] X.env=[(false,eval a X.env),(false,eval b X.env)]:=by rfl)(hs2:starEach [b] X.env=[(false,eval b X.env)]:=by rfl) :
    PI X tg (.Call (.Name "range" p) [a,b] [] pos) (zsM ta):=by
  intro pins s σ H R I h;refine Call_ (ze1 I hg hm boot_range (PyProof.Rows.callWith_type1 (thn (ha pos pins s σ H _ I h) fun us s1 zq0=>?_) (by rw[hs,hs2]) (by rw[hs2];rfl)));obtain ⟨vs,H1,I1,r1,q1⟩:=zq0;obtain ⟨i,j,e,⟨q1,q2,q3,q4⟩,q⟩:=q1;subst e;cases r1 with
  | cons r rr=>
    cases rr with
    | cons r' rr=>
      cases rr
      obtain ⟨t,rfl⟩:=r;obtain ⟨t',rfl⟩:=r';exact call_range_2 (zkC I1 q1 q2 q3 q4 q)
def tFor (wi:TI)(g:TG)(tb:TS):TS:=fun D σ H=>wi σ H fun J H1=>∃ W:Nat→Nat→St→Hp→Prop,(∃ m,W 0 m σ H1)∧∀ i m σ H,W i m σ H→
  (J.stop i H∧D.nx σ H)∨(J.go i H∧∃ N:St→Hp→Prop,(∀ σ' H',N σ' H'→∃ m',m' < m∧W (i+1) m' σ' H')∧∀ x H',J.yld i H x H'→g x σ H' fun σ2 H2=>tb { D with nx:=N,ct:=N,bk:=D.nx } σ2 H2)
def zg2 (fp:List Addr)(h:Heap):List (Addr×Obj):=fp.filterMap fun b=>(h.get? b).map fun o=>(b,o)
theorem zcw {fp:List Addr}{h:Heap}{b:Addr}{o:Obj}(hb:b∈fp)(e:h.get? b=some o):(b,o)∈zg2 fp h:=List.mem_filterMap.mpr ⟨b,hb,by rw[e];rfl⟩
theorem zm2 {fp:List Addr}{h:Heap}{p:Addr×Obj}(hp:p∈zg2 fp h):p.1∈fp∧h.get? p.1=some p.2:=by
  obtain ⟨b,hb,e⟩:=List.mem_filterMap.mp hp;cases q:h.get? b with
  | none=>rw[q]at e;cases e
  | some o=>
    rw[q]at e;have e':(b,o)=p:=yad e;subst e';exact ⟨hb,q⟩
theorem Inv.pinned {pins:List (Addr×Obj)}{σ:St}{H:Hp}{s:Shared}{fp:List Addr}(I:Inv X pins σ H s)(hf:∀ b∈fp,FpOk X pins H b)(ho:∀ b∈fp,∃ o,s.heap.get? b=some o∧∀ v,o.data≠.cell v):Inv X (pins++zg2 fp s.heap) σ H s:=
  I.pins_of fun p hp=>(yaj.mp hp).elim (fun z=>I.pin p (yay _ z)) fun z=>by
    obtain ⟨hb,e⟩:=zm2 z;obtain ⟨f0,f1,f2,_⟩:=hf p.1 hb;obtain ⟨o,e',d⟩:=ho p.1 hb;rw[e]at e';cases e'
    exact ⟨e,f0,f1,f2,d⟩
theorem Inv.unpinned {pins pl:List (Addr×Obj)}{σ:St}{H:Hp}{s:Shared}(I:Inv X (pins++pl) σ H s):Inv X pins σ H s:=I.pins_of fun p hp=>I.pin p (yay _ (ya0 _ hp))
theorem za2 {iter:Expr}{body:List Stmt}{wi:TI}{g:TG}{tb:TS}{pos:Pos}(hp:PassesOwn (model X.prog X.w) X.A X.env X.xe)(hc:X.calm=true)(hi:PI X tg iter wi)(hg:PG X tg g)(hb:PSs X body tb)
    (hs:∀ x,foldedSetIterable iter X.env x=pure x:=by intro _;rfl):PS X (.For tg iter body [] pos) (tFor wi g tb):=by
  intro pins s σ H D I h;refine wpAny_For (thn (hi pins s σ H _ I h) fun v s1 h1=>thn h1 fun itv s2 h2=>?_) hs;obtain ⟨it,fp,tn,J,H2,e,I2,T,st2,f2,W,⟨m0,w0⟩,turn⟩:=h2;subst e;have stat:∀{H':Hp},(∀ b∈fp,H' b=none)→∀ b∈fp,FpOk X pins H' b:=fun hn b hb=>⟨hn b hb,(f2 b hb).2⟩;refine codeAny_forLoop_any (fun n s'=>∃ i σ' H',Inv X pins σ' H' s'∧tn i s'.heap∧(∀ b∈fp,H' b=none)∧W i n σ' H') ?_ m0 ⟨0,σ,H2,I2,st2,fun b hb=>(f2 b hb).1,w0⟩;rintro n s3 ⟨i,σ3,H3,I3,st3,fr3,w3⟩;rcases turn i n σ3 H3 w3 with ⟨stop,qn⟩ | ⟨go,N,hN,step⟩
  · refine wpAny_passesOwn hp (thn (T.done X rfl rfl rfl hc i pins s3 σ3 H3 X.xe I3 (stat fr3) st3 stop) fun r s4 zq0=>?_)
    obtain ⟨hr,I4⟩:=zq0;subst hr;exact wpAny_execs_nil ⟨σ3,H3,I4,qn⟩
  · refine wpAny_passesOwn hp (thn (T.item X rfl rfl rfl hc i pins s3 σ3 H3 X.xe I3 (stat fr3) st3 go) fun r s4 zq0=>?_)
    obtain ⟨u,hr,h4⟩:=zq0;subst hr;refine wpAny_passesOwn hp (thn h4 fun _ s5 zq0=>?_);obtain ⟨x,H5,I5,r5,y5,st5,fr5⟩:=zq0;have I5':=I5.pinned (stat fr5) (T.obj _ _ st5);refine wpAny_passesOwn hp (thn (hg _ s5 σ3 H5 x u _ I5' r5 (step x H5 y5)) fun _ s6 zq0=>?_);obtain ⟨σ6,H6,I6,q6⟩:=zq0;refine wpAny_passesOwn hp (thn (hb _ s6 σ6 H6 _ I6 q6) fun f s7 q7=>?_);have again:∀{σ7:St} {H7:Hp},Inv X (pins++zg2 fp s5.heap) σ7 H7 s7→N σ7 H7→∃ m,m < n∧∃ i σ' H',Inv X pins σ' H' s7∧tn i s7.heap∧(∀ b∈fp,H' b=none)∧W i m σ' H':=fun {σ7 H7} I7 n7=>by
      obtain ⟨m',hm,w7⟩:=hN σ7 H7 n7;refine ⟨m',hm,i+1,σ7,H7,I7.unpinned,T.keep _ _ _ st5 fun b hb o e=>(I7.pin (b,o) (yay _ (yay _ (zcw hb e)))).1,fun b hb=>?_,w7⟩;obtain ⟨o,e,d⟩:=T.obj _ _ st5 b hb;exact (I7.pin (b,o) (yay _ (yay _ (zcw hb e)))).2.1
    cases f with
    | next=>obtain ⟨σ7,H7,I7,n7⟩:=q7;exact again I7 n7
    | cont=>obtain ⟨σ7,H7,I7,n7⟩:=q7;exact again I7 n7
    | brk=>obtain ⟨σ7,H7,I7,q7⟩:=q7;exact ⟨σ7,H7,I7.unpinned,q7⟩
    | ret v=>obtain ⟨x7,σ7,H7,I7,r7,q7⟩:=q7;exact ⟨x7,σ7,H7,I7.unpinned,r7,q7⟩
end
theorem ze6 {K:Frag}{a:Addr}{xs:List V}{g:TG}{tb:TS}{D:Ends}{σ:St}{H:Hp}(Pv:Nat→St→Hp→Prop)(h0:Pv 0 σ H)(hl:∀ i σ H,i≤xs.length→Pv i σ H→SqL K H a xs)
    (hs:∀ i x σ H,xs[i]?=some x→Pv i σ H→g x σ H fun σ2 H2=>tb { D with nx:=Pv (i+1),ct:=Pv (i+1),bk:=D.nx } σ2 H2) (hd:∀ σ H,Pv xs.length σ H→D.nx σ H) :
    ∃ W:Nat→Nat→St→Hp→Prop,(∃ m,W 0 m σ H)∧∀ i m σ H,W i m σ H→
      ((Itl K a).stop i H∧D.nx σ H)∨((Itl K a).go i H∧∃ N:St→Hp→Prop,(∀ σ' H',N σ' H'→∃ m',m' < m∧W (i+1) m' σ' H')∧∀ x H',(Itl K a).yld i H x H'→g x σ H' fun σ2 H2=>tb { D with nx:=N,ct:=N,bk:=D.nx } σ2 H2):=by
  refine ⟨fun i m σ H=>m=xs.length - i∧i≤xs.length∧Pv i σ H,⟨xs.length,by simp,yaC _,h0⟩,?_⟩;rintro i m σ H ⟨rfl,hi,p⟩;have q:=hl i σ H hi p;by_cases hlt:i < xs.length
  · refine .inr ⟨⟨xs,xs[i],q,by simp[hlt]⟩,Pv (i+1),fun σ' H' p'=>⟨xs.length - (i+1),by omega,rfl,hlt,p'⟩,fun x H' y=>?_⟩
    obtain ⟨e,y⟩:=y;subst e;exact hs i x σ _ (y xs q) p
  · have e:i=xs.length:=by omega
    subst e;exact .inl ⟨⟨xs,q,yaa _⟩,hd σ H p⟩
theorem zgx {K:Frag}{a:Addr}{xs:List V}{g:TG}{tb:TS}{D:Ends}{σ:St}{H:Hp}(Pv:Nat→St→Hp→Prop)(h0:Pv 0 σ H)(hl:∀ i σ H,i≤xs.length→Pv i σ H→SqT K H a xs)
    (hs:∀ i x σ H,xs[i]?=some x→Pv i σ H→g x σ H fun σ2 H2=>tb { D with nx:=Pv (i+1),ct:=Pv (i+1),bk:=D.nx } σ2 H2) (hd:∀ σ H,Pv xs.length σ H→D.nx σ H) :
    ∃ W:Nat→Nat→St→Hp→Prop,(∃ m,W 0 m σ H)∧∀ i m σ H,W i m σ H→
      ((Itt K a).stop i H∧D.nx σ H)∨((Itt K a).go i H∧∃ N:St→Hp→Prop,(∀ σ' H',N σ' H'→∃ m',m' < m∧W (i+1) m' σ' H')∧∀ x H',(Itt K a).yld i H x H'→g x σ H' fun σ2 H2=>tb { D with nx:=N,ct:=N,bk:=D.nx } σ2 H2):=by
  refine ⟨fun i m σ H=>m=xs.length - i∧i≤xs.length∧Pv i σ H,⟨xs.length,by simp,yaC _,h0⟩,?_⟩;rintro i m σ H ⟨rfl,hi,p⟩;have q:=hl i σ H hi p;by_cases hlt:i < xs.length
  · refine .inr ⟨⟨xs,xs[i],q,by simp[hlt]⟩,Pv (i+1),fun σ' H' p'=>⟨xs.length - (i+1),by omega,rfl,hlt,p'⟩,fun x H' y=>?_⟩
    obtain ⟨e,y⟩:=y;subst e;exact hs i x σ _ (y xs q) p
  · have e:i=xs.length:=by omega
    subst e;exact .inl ⟨⟨xs,q,yaa _⟩,hd σ H p⟩
theorem za0 {lo:Int}{n:Nat}{g:TG}{tb:TS}{D:Ends}{σ:St}{H:Hp}(Pv:Nat→St→Hp→Prop)(h0:Pv 0 σ H)
    (hs:∀ i σ H,i < n→Pv i σ H→g (.int (lo+i)) σ H fun σ2 H2=>tb { D with nx:=Pv (i+1),ct:=Pv (i+1),bk:=D.nx } σ2 H2) (hd:∀ σ H,Pv n σ H→D.nx σ H) :
    ∃ W:Nat→Nat→St→Hp→Prop,(∃ m,W 0 m σ H)∧∀ i m σ H,W i m σ H→
      ((Itr lo n).stop i H∧D.nx σ H)∨((Itr lo n).go i H∧∃ N:St→Hp→Prop,(∀ σ' H',N σ' H'→∃ m',m' < m∧W (i+1) m' σ' H')∧∀ x H',(Itr lo n).yld i H x H'→g x σ H' fun σ2 H2=>tb { D with nx:=N,ct:=N,bk:=D.nx } σ2 H2):=by
  refine ⟨fun i m σ H=>m=n - i∧i≤n∧Pv i σ H,⟨n,by simp,yaC _,h0⟩,?_⟩;rintro i m σ H ⟨rfl,hi,p⟩;by_cases hlt:i < n
  · refine .inr ⟨hlt,Pv (i+1),fun σ' H' p'=>⟨n - (i+1),by omega,rfl,hlt,p'⟩,fun x H' y=>?_⟩
    obtain ⟨e,y⟩:=y;subst e y;exact hs i σ _ hlt p
  · have e:i=n:=by omega
    subst e;exact .inl ⟨yaa _,hd σ H p⟩
theorem zkh {c:TT}{tb:TS}{D:Ends}{σ:St}{H:Hp}(Pv:St→Hp→Prop)(μ:St→Hp→Nat)(h0:Pv σ H)
    (hs:∀ σ H,Pv σ H→c σ H fun b H1=>if b=true then tb { D with nx:=fun σ' H'=>Pv σ' H'∧μ σ' H' < μ σ H,ct:=fun σ' H'=>Pv σ' H'∧μ σ' H' < μ σ H,bk:=D.nx } σ H1 else D.nx σ H1)
    (mono:∀ σ H Q Q',(∀ b H1,Q b H1→Q' b H1)→c σ H Q→c σ H Q'):zme c tb D σ H:=by
  refine ⟨fun m σ H=>m=μ σ H∧Pv σ H,⟨_,rfl,h0⟩,?_⟩;rintro m σ H ⟨rfl,p⟩;refine mono σ H _ _ (fun b H1 q=>?_) (hs σ H p);cases b with
  | true=>exact ⟨_,fun σ' H' ⟨p',l⟩=>⟨_,l,rfl,p'⟩,q⟩
  | false=>exact q
end L2
namespace L2
open PySem PySem.Spec PyProof.Rows
abbrev R2:=V→V→Hp→VK→Prop
def OpR (X:Cx)(f:Value→Value→Sem Value)(r:R2):Prop:=
  ∀(pins:List (Addr×Obj)) (s:Shared) (σ:St) (H:Hp) (x y:V) (v u:Value) (Q:VK),Inv X pins σ H s→RelV x v→RelV y u→r x y H Q→
    wpAny (model X.prog X.w) X.A (f v u) (EP X pins σ Q) X.xe s
def UnR (X:Cx)(f:Value→Sem Value)(r:V→Hp→VK→Prop):Prop:=
  ∀(pins:List (Addr×Obj)) (s:Shared) (σ:St) (H:Hp) (x:V) (v:Value) (Q:VK),Inv X pins σ H s→RelV x v→r x H Q→
    wpAny (model X.prog X.w) X.A (f v) (EP X pins σ Q) X.xe s
def zdA (X:Cx)(f:Value)(r:List V→Hp→VK→Prop):Prop:=
  ∀(pins:List (Addr×Obj)) (s:Shared) (σ:St) (H:Hp) (xs:List V) (us:List Value) (Q:VK),Inv X pins σ H s→Vals xs us→r xs H Q→
    wpAny (model X.prog X.w) X.A (call f us) (EP X pins σ Q) X.xe s
def tOp (r:R2)(ta tb:TE):TE:=fun σ H Q=>ta σ H fun x H1=>tb σ H1 fun y H2=>r x y H2 Q
def tUn (r:V→Hp→VK→Prop)(ta:TE):TE:=fun σ H Q=>ta σ H fun x H1=>r x H1 Q
def rI (C:Int→Int→Prop)(g:Int→Int→V):R2:=fun x y H Q=>∃ i j,x=.int i∧y=.int j∧C i j∧Q (g i j) H
def rI0 (g:Int→Int→V):R2:=fun x y H Q=>∃ i j,x=.int i∧y=.int j∧Q (g i j) H
def rU (g:Int→V):V→Hp→VK→Prop:=fun x H Q=>∃ i,x=.int i∧Q (g i) H
section
variable {X:Cx}{a b c:Expr}{ta tb tc:TE}{pos:Pos}
theorem binT (ha:PE X a ta)(hb:PE X b tb){pins:List (Addr×Obj)}{s:Shared}{σ:St}{H:Hp}{R:V→V→Hp→Prop}(I:Inv X pins σ H s)
    (h:ta σ H fun x H1=>tb σ H1 fun y H2=>R x y H2) {Q:Value→Shared→Prop} {f:Value→Value→Sem Value}
    (hf:∀ v u s2 x y H2,Inv X pins σ H2 s2→RelV x v→RelV y u→R x y H2→wpAny (model X.prog X.w) X.A (f v u) Q X.xe s2) :
    wpAny (model X.prog X.w) X.A (eval a X.env) (fun v s₁=>wpAny (model X.prog X.w) X.A (eval b X.env) (fun u s₂=>wpAny (model X.prog X.w) X.A (f v u) Q X.xe s₂) X.xe s₁) X.xe s:=by
  refine thn (ha pins s σ H _ I h) fun v s1 zq0=>?_;obtain ⟨x,H1,I1,r1,q1⟩:=zq0;refine thn (hb pins s1 σ H1 _ I1 q1) fun u s2 zq0=>?_;obtain ⟨y,H2,I2,r2,q2⟩:=zq0;exact hf v u s2 x y H2 I2 r1 r2 q2
theorem zaw {op:Operator}{r:R2}(ho:OpR X (binaryOp op) r)(ha:PE X a ta)(hb:PE X b tb):PE X (.BinOp a op b pos) (tOp r ta tb):=by
  intro pins s σ H Q I h;exact wpAny_BinOp (binT ha hb I h fun v u s2 x y H2 I2 rx ry q=>ho pins s2 σ H2 x y v u Q I2 rx ry q)
theorem zmG {op:UnaryOp}{r:V→Hp→VK→Prop}(ho:UnR X (unaryOp op) r)(ha:PE X a ta):PE X (.UnaryOp op a pos) (tUn r ta):=by
  intro pins s σ H Q I h;exact UnaryOp_ (thn (ha pins s σ H _ I h) fun v s1 zq0=>(by obtain ⟨x,H1,I1,r1,q1⟩:=zq0;exact ho pins s1 σ H1 x v Q I1 r1 q1))
theorem opI {f:Value→Value→Sem Value}{C:Int→Int→Prop}{g:Int→Int→Int}
    (rule:∀(i j:Int) (t u:Tok) (s:Shared) (Q:Value→Shared→Prop) (E:Value→Shared→Prop),C i j→Q (.int (g i j) s.toks) { s with toks:=s.toks+1 }→wpAny (model X.prog X.w) X.A (f (.int i t) (.int j u)) Q E s) :
    OpR X f (rI C fun i j=>.int (g i j)):=by
  intro pins s σ H x y v u Q I rx ry h;obtain ⟨i,j,rfl,rfl,hc,q⟩:=h;obtain ⟨t,rfl⟩:=rx;obtain ⟨t',rfl⟩:=ry;exact rule i j t t' s _ _ hc ⟨.int (g i j),H,I.tok _,⟨_,rfl⟩,q⟩
theorem opI0 {f:Value→Value→Sem Value}{g:Int→Int→Int}
    (rule:∀(i j:Int) (t u:Tok) (s:Shared) (Q:Value→Shared→Prop) (E:Value→Shared→Prop),Q (.int (g i j) s.toks) { s with toks:=s.toks+1 }→wpAny (model X.prog X.w) X.A (f (.int i t) (.int j u)) Q E s) :
    OpR X f (rI0 fun i j=>.int (g i j)):=by
  intro pins s σ H x y v u Q I rx ry h;obtain ⟨i,j,rfl,rfl,q⟩:=h;obtain ⟨t,rfl⟩:=rx;obtain ⟨t',rfl⟩:=ry;exact rule i j t t' s _ _ ⟨.int (g i j),H,I.tok _,⟨_,rfl⟩,q⟩
theorem opB0 {f:Value→Value→Sem Value}{g:Int→Int→Bool}
    (rule:∀(i j:Int) (t u:Tok) (s:Shared) (Q:Value→Shared→Prop) (E:Value→Shared→Prop),Q (.bool (g i j)) s→wpAny (model X.prog X.w) X.A (f (.int i t) (.int j u)) Q E s) :
    OpR X f (rI0 fun i j=>.bl (g i j)):=by
  intro pins s σ H x y v u Q I rx ry h;obtain ⟨i,j,rfl,rfl,q⟩:=h;obtain ⟨t,rfl⟩:=rx;obtain ⟨t',rfl⟩:=ry;exact rule i j t t' s _ _ ⟨.bl (g i j),H,I,rfl,q⟩
def CDiv (i j:Int):Prop:=0 < j∧j < 1073741824
def CPow (i j:Int):Prop:=0≤j∧j≤1000000∧i.natAbs < 2 ^ 64
def CMul (i j:Int):Prop:=(-(2 ^ 64) < i∧i < 2 ^ 64)∨(-(2 ^ 64) < j∧j < 2 ^ 64)
theorem CMul.ok {i j:Int}(h:CMul i j):IntMulOk i j:=by
  rcases h with ⟨h1,h2⟩ | ⟨h1,h2⟩
  · exact .of_left (intBits_le_64 h1 h2)
  · exact .of_right (intBits_le_64 h1 h2)
theorem zle (k:Nat):(0:Int)≤2 ^ k:=by
  rw[two_pow_cast];exact ybv _
theorem za7:OpR X (binaryOp .Add) (rI0 fun i j=>.int (i+j)):=opI0 fun _ _ _ _ _ _ _ q=>add_int q
theorem zcb:OpR X (binaryOp .Sub) (rI0 fun i j=>.int (i - j)):=opI0 fun _ _ _ _ _ _ _ q=>sub_int q
theorem zcd:OpR X (binaryOp .Mult) (rI CMul fun i j=>.int (i * j)):=opI fun _ _ _ _ _ _ _ hc q=>mul_int q hc.ok
theorem zgk:OpR X (binaryOp .FloorDiv) (rI CDiv fun i j=>.int (i / j)):=opI fun i j _ _ _ _ _ hc q=>by
  have h1:(0:Int) < j:=hc.1;have h2:j < 1073741824:=hc.2;exact floordiv_int (by omega) (by rw[Int.fdiv_eq_ediv_of_nonneg i (by omega)];exact q) (.inl (PyProof.noPylong_small (by omega)))
theorem zdy:OpR X (binaryOp .Mod) (rI (fun _ j=>0 < j) fun i j=>.int (i % j)):=opI fun i j _ _ _ _ _ hc q=>by
  have h1:(0:Int) < j:=hc;exact mod_int' (by omega) (by rw[Int.fmod_eq_emod_of_nonneg i (by omega)];exact q)
theorem zg4:OpR X (binaryOp .Pow) (rI CPow fun i j=>.int (i ^ j.toNat)):=opI fun _ _ _ _ _ _ _ hc q=>pow_int_small hc.1 hc.2.1 hc.2.2 q
theorem zrJ:OpR X (binaryOp .RShift) (rI (fun _ j=>0≤j) fun i j=>.int (i / 2 ^ j.toNat)):=opI fun i j _ _ _ _ _ hc q=>
  rshift_int hc (by rw[Int.fdiv_eq_ediv_of_nonneg i (zle _)];exact q)
theorem zpD:OpR X (binaryOp .BitAnd) (rI0 fun i j=>.int (Builtin.bitAnd i j)):=opI0 fun _ _ _ _ _ _ _ q=>and_int q
theorem zrI:OpR X (binaryOp .BitXor) (rI0 fun i j=>.int (Builtin.bitXor i j)):=opI0 fun _ _ _ _ _ _ _ q=>xor_int q
theorem unI {f:Value→Sem Value}{g:Int→Int}
    (rule:∀(i:Int) (t:Tok) (s:Shared) (Q:Value→Shared→Prop) (E:Value→Shared→Prop),Q (.int (g i) s.toks) { s with toks:=s.toks+1 }→wpAny (model X.prog X.w) X.A (f (.int i t)) Q E s) :
    UnR X f (rU fun i=>.int (g i)):=by
  intro pins s σ H x v Q I rx h;obtain ⟨i,rfl,q⟩:=h;obtain ⟨t,rfl⟩:=rx;exact rule i t s _ _ ⟨.int (g i),H,I.tok _,⟨_,rfl⟩,q⟩
theorem ziq:UnR X (unaryOp .USub) (rU fun i=>.int (-i)):=unI fun _ _ _ _ _ q=>neg_int q
end
def scal:V→V→Bool
  | .non,.non=>true | .non,.int _=>true | .int _,.non=>true | .non,.bl _=>true | .bl _,.non=>true | .non,.str _=>true | .str _,.non=>true
  | .int _,.int _=>true | .bl _,.bl _=>true | .str _,.str _=>true | .byt _,.byt _=>true
  | .int _,.str _=>true | .str _,.int _=>true | .bl _,.str _=>true | .str _,.bl _=>true
  | _,_=>false
def rEq:R2:=fun x y H Q=>scal x y=true∧Q (.bl (decide (x=y))) H
def rNe:R2:=fun x y H Q=>scal x y=true∧Q (.bl (!decide (x=y))) H
theorem znC {i j:Int}:decide (V.int i=V.int j)=(i == j):=by
  rw[yb6];simp
theorem zpJ {i j:Bool}:decide (V.bl i=V.bl j)=(i == j):=by
  rw[yb6];simp
theorem znB {i j:Str}:decide (V.str i=V.str j)=(i == j):=by
  rw[yb6];simp
theorem znD {i j:Array UInt8}:decide (V.byt i=V.byt j)=(i.toList == j.toList):=by
  rw[yb6];cases i
  cases j
  simp
section
variable {X:Cx}{a b c:Expr}{ta tb tc:TE}{pos:Pos}
theorem zaV {pins:List (Addr×Obj)}{σ:St}{H:Hp}{s:Shared}{Q:VK}{k k':Bool}(I:Inv X pins σ H s)(q:Q (.bl k) H)(e:k=k'):EP X pins σ Q (.bool k') s:=by
  subst e;exact ⟨.bl k,H,I,rfl,q⟩
theorem zfr:OpR X (compareOp .Eq) rEq:=by
  intro pins s σ H x y v u Q I rx ry h;obtain ⟨hs,q⟩:=h;cases x with
  | non=>
    cases rx
    cases y with
    | non=>cases ry;exact PySem.EqNone.eq_none_none (zaV I q (by simp))
    | bl j=>cases ry;exact PySem.EqNone.eq_none_bool (zaV I q (by simp))
    | int j=>obtain ⟨t',rfl⟩:=ry;exact PySem.EqNone.eq_none_int (zaV I q (by simp))
    | str j=>obtain ⟨t',rfl⟩:=ry;exact PySem.EqNone.eq_none_str (zaV I q (by simp))
    | _=>exact absurd (show false=true from hs) yaA
  | bl i=>
    cases rx
    cases y with
    | non=>cases ry;exact PySem.EqNone.eq_bool_none (zaV I q (by simp))
    | bl j=>cases ry;exact eq_bool (zaV I q zpJ)
    | str j=>obtain ⟨t',rfl⟩:=ry;exact PySem.EqMixed.eq_bool_str (zaV I q (by simp))
    | _=>exact absurd (show false=true from hs) yaA
  | int i=>
    obtain ⟨t,rfl⟩:=rx;cases y with
    | non=>cases ry;exact PySem.EqNone.eq_int_none (zaV I q (by simp))
    | int j=>obtain ⟨t',rfl⟩:=ry;exact eq_int (zaV I q znC)
    | str j=>obtain ⟨t',rfl⟩:=ry;exact PySem.EqMixed.eq_int_str (zaV I q (by simp))
    | _=>exact absurd (show false=true from hs) yaA
  | str i=>
    obtain ⟨t,rfl⟩:=rx;cases y with
    | non=>cases ry;exact PySem.EqNone.eq_str_none (zaV I q (by simp))
    | bl j=>cases ry;exact PySem.EqMixed.eq_str_bool (zaV I q (by simp))
    | int j=>obtain ⟨t',rfl⟩:=ry;exact PySem.EqMixed.eq_str_int (zaV I q (by simp))
    | str j=>obtain ⟨t',rfl⟩:=ry;exact eq_str (zaV I q znB)
    | _=>exact absurd (show false=true from hs) yaA
  | byt i=>
    obtain ⟨t,rfl⟩:=rx;cases y with
    | byt j=>obtain ⟨t',rfl⟩:=ry;exact PySem.W.eq_bytes (zaV I q znD)
    | _=>exact absurd (show false=true from hs) yaA
  | _=>cases y <;> exact absurd (show false=true from hs) yaA
theorem zrK:OpR X (compareOp .NotEq) rNe:=by
  intro pins s σ H x y v u Q I rx ry h;obtain ⟨hs,q⟩:=h;cases x with
  | non=>
    cases rx
    cases y with
    | non=>cases ry;exact PySem.EqNone.ne_none_none (zaV I q (by simp))
    | bl j=>cases ry;exact PySem.EqNone.ne_none_bool (zaV I q (by simp))
    | int j=>obtain ⟨t',rfl⟩:=ry;exact PySem.EqNone.ne_none_int (zaV I q (by simp))
    | str j=>obtain ⟨t',rfl⟩:=ry;exact PySem.EqNone.ne_none_str (zaV I q (by simp))
    | _=>exact absurd (show false=true from hs) yaA
  | bl i=>
    cases rx
    cases y with
    | non=>cases ry;exact PySem.EqNone.ne_bool_none (zaV I q (by simp))
    | bl j=>cases ry;exact ne_bool (zaV I q (congrArg not zpJ))
    | str j=>obtain ⟨t',rfl⟩:=ry;exact PySem.EqMixed.ne_bool_str (zaV I q (by simp))
    | _=>exact absurd (show false=true from hs) yaA
  | int i=>
    obtain ⟨t,rfl⟩:=rx;cases y with
    | non=>cases ry;exact PySem.EqNone.ne_int_none (zaV I q (by simp))
    | int j=>obtain ⟨t',rfl⟩:=ry;exact ne_int (zaV I q (congrArg not znC))
    | str j=>obtain ⟨t',rfl⟩:=ry;exact PySem.EqMixed.ne_int_str (zaV I q (by simp))
    | _=>exact absurd (show false=true from hs) yaA
  | str i=>
    obtain ⟨t,rfl⟩:=rx;cases y with
    | non=>cases ry;exact PySem.EqNone.ne_str_none (zaV I q (by simp))
    | bl j=>cases ry;exact PySem.EqMixed.ne_str_bool (zaV I q (by simp))
    | int j=>obtain ⟨t',rfl⟩:=ry;exact PySem.EqMixed.ne_str_int (zaV I q (by simp))
    | str j=>obtain ⟨t',rfl⟩:=ry;exact ne_str (zaV I q (congrArg not znB))
    | _=>exact absurd (show false=true from hs) yaA
  | byt i=>
    obtain ⟨t,rfl⟩:=rx;cases y with
    | byt j=>obtain ⟨t',rfl⟩:=ry;exact PySem.W.ne_bytes (zaV I q (congrArg not znD))
    | _=>exact absurd (show false=true from hs) yaA
  | _=>cases y <;> exact absurd (show false=true from hs) yaA
theorem zhV:OpR X (compareOp .Lt) (rI0 fun i j=>.bl (decide (i < j))):=opB0 fun _ _ _ _ _ _ _ q=>lt_int q
theorem zqi:OpR X (compareOp .LtE) (rI0 fun i j=>.bl (decide (i≤j))):=opB0 fun _ _ _ _ _ _ _ q=>le_int q
theorem zlt:OpR X (compareOp .Gt) (rI0 fun i j=>.bl (decide (j < i))):=opB0 fun _ _ _ _ _ _ _ q=>gt_int q
theorem zqj:OpR X (compareOp .GtE) (rI0 fun i j=>.bl (decide (j≤i))):=opB0 fun _ _ _ _ _ _ _ q=>ge_int q
theorem zjF:OpR X (compareOp .IsNot) (fun x y H Q=>y=.non∧Q (.bl (!decide (x=.non))) H):=by
  intro pins s σ H x y v u Q I rx ry h;obtain ⟨rfl,q⟩:=h;cases ry
  refine isnot_none_gen (zaV I q ?_);cases x <;> first
    | (cases rx;rfl)
    | (obtain ⟨t,rfl⟩:=rx;rfl)
theorem zaH (b:Expr){op:CmpOp}(h:op≠.In:=by decide)(h2:op≠.NotIn:=by decide):behindInMarks op b=false:=by
  have e1:(op == CmpOp.In)=false:=by cases op <;> first | rfl | exact absurd rfl h
  have e2:(op == CmpOp.NotIn)=false:=by cases op <;> first | rfl | exact absurd rfl h2
  cases b <;> simp[behindInMarks,e1,e2]
theorem zhR {op:CmpOp}{r:R2}(ho:OpR X (compareOp op) r)(ha:PE X a ta)(hb:PE X b tb)(hm:behindInMarks op b=false):PE X (.Compare a [op] [b] pos) (tOp r ta tb):=by
  intro pins s σ H Q I h;exact wpAny_Compare1 (binT ha hb I h fun v u s2 x y H2 I2 rx ry q=>ho pins s2 σ H2 x y v u Q I2 rx ry q) hm
def zpV (t:TE):TT:=fun σ H Q=>t σ H fun x H'=>∃ k,x=.bl k∧Q k H'
theorem zav {op:CmpOp}{r:R2}(ho:OpR X (compareOp op) r)(ha:PE X a ta)(hb:PE X b tb)(hm:behindInMarks op b=false):PT X (.Compare a [op] [b] pos) (zpV (tOp r ta tb)):=by
  intro pins s σ H Q I h;refine wpAny_isTrue_Compare1 (thn (ha pins s σ H _ I h) fun v s1 ⟨x,H1,I1,r1,q1⟩=>thn (hb pins s1 σ H1 _ I1 q1) fun u s2 ⟨y,H2,I2,r2,q2⟩=>
    thn (ho pins s2 σ H2 x y v u _ I2 r1 r2 q2) fun c s3 ⟨z,H3,I3,r3,k,e,q3⟩=>?_) hm
  subst e;cases r3
  exact wpAny_truthy_bool ⟨H3,I3,q3⟩
def zpr (r r':R2)(ta tb tc:TE):TE:=fun σ H Q=>ta σ H fun x H1=>tb σ H1 fun y H2=>r x y H2 fun z H3=>∃ k,z=.bl k∧
  (if k=true then tc σ H3 fun w' H4=>r' y w' H4 Q else Q (.bl false) H3)
theorem zol {op op':CmpOp}{r r':R2}(ho:OpR X (compareOp op) r)(ho':OpR X (compareOp op') r')(ha:PE X a ta)(hb:PE X b tb)(hc:PE X c tc)
    (hm:lastMarks [op,op'] [b,c]=false:=by with_unfolding_all rfl):PE X (.Compare a [op,op'] [b,c] pos) (zpr r r' ta tb tc):=by
  intro pins s σ H Q I h;refine Compare_chain (thn (ha pins s σ H _ I h) fun v s1 ⟨x,H1,I1,r1,q1⟩=>chain_link (thn (hb pins s1 σ H1 _ I1 q1) fun u s2 ⟨y,H2,I2,r2,q2⟩=>
    thn (ho pins s2 σ H2 x y v u _ I2 r1 r2 q2) fun d s3 ⟨z,H3,I3,r3,k,e,q3⟩=>?_)) hm
  subst e;cases r3
  refine wpAny_truthy_bool ?_;cases k with
  | false=>exact ite_ff ⟨.bl false,H3,I3,rfl,q3⟩
  | true=>exact ite_tt (chain_last (thn (hc pins s3 σ H3 _ I3 q3) fun w' s4 ⟨z',H4,I4,r4,q4⟩=>ho' pins s4 σ H4 y z' u w' Q I4 r2 r4 q4))
theorem zof {op op':CmpOp}{r r':R2}(ho:OpR X (compareOp op) r)(ho':OpR X (compareOp op') r')(ha:PE X a ta)(hb:PE X b tb)(hc:PE X c tc)
    (hm:lastMarks [op,op'] [b,c]=false:=by with_unfolding_all rfl):PT X (.Compare a [op,op'] [b,c] pos) (zpV (zpr r r' ta tb tc)):=by
  intro pins s σ H Q I h;refine isTrue_chain (thn (ha pins s σ H _ I h) fun v s1 ⟨x,H1,I1,r1,q1⟩=>test_link (thn (hb pins s1 σ H1 _ I1 q1) fun u s2 ⟨y,H2,I2,r2,q2⟩=>
    thn (ho pins s2 σ H2 x y v u _ I2 r1 r2 q2) fun d s3 ⟨z,H3,I3,r3,k,e,q3⟩=>?_)) hm
  subst e;cases r3
  refine wpAny_truthy_bool ?_;cases k with
  | false=>
    obtain ⟨k',e',q'⟩:=q3;cases e'
    exact ite_ff ⟨H3,I3,q'⟩
  | true=>
    refine ite_tt (test_last (thn (hc pins s3 σ H3 _ I3 q3) fun w' s4 zq0=>?_));obtain ⟨z',H4,I4,r4,q4⟩:=zq0;refine thn (ho' pins s4 σ H4 y z' u w' _ I4 r2 r4 q4) fun d' s5 zq1=>?_;obtain ⟨z2,H5,I5,r5,k2,e2,q5⟩:=zq1;subst e2;cases r5
    exact wpAny_truthy_bool ⟨H5,I5,q5⟩
theorem zkR:(sizeLine:Nat) < 2 ^ 63:=by rw[sizeLine_eq];decide
theorem zgb {x:V}{us:List Value}(r:Vals [x] us):∃ u,us=[u]∧RelV x u:=by
  cases r with
  | cons r1 r2=>cases r2;exact ⟨_,rfl,r1⟩
theorem zhu {x y:V}{us:List Value}(r:Vals [x,y] us):∃ u w',us=[u,w']∧RelV x u∧RelV y w':=by
  cases r with
  | cons r1 r2=>
    cases r2 with
    | cons r3 r4=>cases r4;exact ⟨_,_,rfl,r1,r3⟩
theorem zig:zdA X (.builtin "abs") (fun xs H Q=>∃ i,xs=[.int i]∧Q (.int (if i < 0 then -i else i)) H):=by
  intro pins s σ H xs us Q I r h;obtain ⟨i,rfl,q⟩:=h;obtain ⟨u,rfl,t,rfl⟩:=zgb r;exact call_abs_int fun u tk=>⟨.int (if i < 0 then -i else i),H,I.tok _,⟨_,rfl⟩,q⟩
theorem zgH (hc:X.calm=true):zdA X (.builtin "max") (fun xs H Q=>∃ i j,xs=[.int i,.int j]∧Q (.int (if j > i then j else i)) H):=by
  intro pins s σ H xs us Q I r h;obtain ⟨i,j,rfl,q⟩:=h;obtain ⟨u,w',rfl,⟨t,rfl⟩,⟨t',rfl⟩⟩:=zhu r;refine max_two_ints (I.ok.hd hc) fun h' tk k=>⟨_,H,I.kept k,?_,q⟩;by_cases hj:j > i
  · rw[if_pos hj,if_pos hj];exact ⟨_,rfl⟩
  · rw[if_neg hj,if_neg hj];exact ⟨_,rfl⟩
end
end L2
namespace L2
open PySem PySem.Spec PyProof.Rows
structure ObjM (h:Heap)(x dx C:Addr)(mA:Str→Option Value):Prop where
  obj:h.get? x=some (PySem.W.instObj C dx)
  ns:h.Ns1 dx mA
  ne:dx≠x
theorem zm9 {h:Heap}{dx:Addr}{mA:Str→Option Value}(n:h.Ns1 dx mA):∃ od,h.get? dx=some od∧∀ name,PySem.W.lookIn name od=some (mA name):=by
  obtain ⟨o,es,ep,ho,hd,hk,_,hm⟩:=n;refine ⟨o,ho,fun name=>?_⟩;have e:=hm name;unfold nsFind findBy at e;rw[← Array.find?_toList]at e;unfold PySem.W.lookIn;rw[hd];dsimp only;split
  · rename_i y q
    rw[q]at e;exact congrArg some e
  · rename_i q
    rw[q]at e;have a:es.toList.any (·.refKey)=false:=by
      rw[List.any_eq_false];intro y hy;obtain ⟨z,t,hkey⟩:=hk y (Array.mem_toList_iff.mp hy);simp[DictEntry.refKey,hkey]
    have a':¬ es.toList.any (·.refKey)=true:=by rw[a];exact yaA
    rw[if_neg a'];exact congrArg some e
theorem ObjM.look {h:Heap}{x dx C:Addr}{mA:Str→Option Value}(I:ObjM h x dx C mA):∃ od,PySem.W.InstAt h x (PySem.W.instObj C dx) C (some od)∧∀ name,PySem.W.lookIn name od=some (mA name):=
  let ⟨od,ho,hl⟩:=zm9 I.ns
  ⟨od,⟨I.obj,rfl,rfl,ho⟩,hl⟩
section
variable {prog:Program}{w:World}{A:Around}{E:Value→Shared→Prop}{s:Shared}{K:Frag}{x dx C f:Addr}{mA:Str→Option Value}{name:Str}{v:Value}
theorem zqP {expr:Bool}{Q:Value→Shared→Prop}(X:K.In s.heap)(I:ObjM s.heap x dx C mA)(hg:PySem.W.plainGet K C name=true)(hh:PySem.W.hasDictIn K C=true)
    (ha:findIn K (.ref C) name=some none) (hv:mA name=some v) (hv':PySem.W.handedIn v=true) (h:Q v { s with toks:=s.toks+1 }) :
    wpAny (model prog w) A (getAttr (.ref x) name expr) Q E s:=by
  obtain ⟨od,J,hl⟩:=I.look;exact PySem.W.get_value X J (PySem.W.plainGet_of hg).1 (PySem.W.findObj_own hh ha rfl (by rw[hl,hv])) hv' h
theorem zo0 {pl:Sem Bool}{Q:Value×List Value→Shared→Prop}(X:K.In s.heap)(I:ObjM s.heap x dx C mA)(hg:PySem.W.plainGet K C name=true)
    (hf:findIn K (.ref C) name=some (some (.ref f))) (ht:PySem.W.isFn K (.ref f)=true) (hv:mA name=none) (h:Q (.ref f,[.ref x]) s) :
    wpAny (model prog w) A (getMethod (.ref x) name pl) Q E s:=by
  obtain ⟨od,J,hl⟩:=I.look;exact PySem.W.method_fn X J (PySem.W.plainGet_of hg).1 (PySem.W.plainGet_of hg).2 hf (beq_iff_eq.mp ht) (by show (PySem.W.lookIn name od).map (·.isSome)=some false;rw[hl,hv];rfl) h
theorem zp4 {ns:List Str}{Q:Unit→Shared→Prop}(X:K.In s.heap)(I:ObjM s.heap x dx C mA)
    (hs:findIn K (.ref C) "__setattr__" = some (some (.builtin "object.__setattr__"))) (hp:PySem.W.plainOver K C=true) (ht:PySem.W.takerIn K C name=some none) (hh:PySem.W.hasDictIn K C=true)
    (hw:PySem.Within mA ns) (hsz:ns.length≤sizeLine)
    (h:∀ h',ObjM h' x dx C (fun y=>if y=name then some v else mA y)→Heap.SameBut dx s.heap h'→Q () { s with heap:=h',toks:=s.toks+2 }) :
    wpAny (model prog w) A (setAttr (.ref x) name v) Q E s:=by
  obtain ⟨od,J,hl⟩:=I.look;refine PySem.W.set_plain X J hs (PySem.W.osa_open (s:={ s with toks:=s.toks+1 }) (r:=none) X J hp ht fun b=>?_);obtain ⟨cd,hc,hd'⟩:=PySem.W.any_some hh;have hx:s.heap.get? x=some ⟨.ref C,some dx,.plain,#[]⟩:=I.obj;refine wpAny_bind (wpAny_pure (wpAny_bind (wpAny_bind (wpAny_loadPart hx (wpAny_bind (PySem.W.Looks.here (s:={ s with toks:=s.toks+1 }) (PySem.W.looks_clsIn X hc) ?_))))));rw[hd'];refine wpAny_pure (a:=some dx) (wpAny_bind (wpAny_pure (wpAny_bind ?_)));refine wpAny_nsSet1 (s:={ s with toks:=s.toks+1 }) I.ns fun h' hn2 hs2=>?_;obtain ⟨oD,esD,epD,hoD,hdD,hcD⟩:=hn2.count (PySem.Within.cons name v hw);refine wpAny_bind (wpAny_lookBehind hoD (by rw[hdD];exact pastItsLine_dict (yao hcD (by rw[yaL];omega))) ?_);exact wpAny_pure (h _ ⟨(hs2.2 _ (Ne.symm I.ne)).trans I.obj,hn2,I.ne⟩ hs2)
theorem zoO {R:Result→Shared→Prop}{vs:List Value}{kw:List (Str×Value)}(X:K.In s.heap)(hm:PySem.W.makesIn K C=true)
    (hi:findIn K (.ref C) "__init__" = some (some (.ref f))) (hf:PySem.W.typeIn K (.ref f)=some (.type "function"))
    (h:codeAny (model prog w) (A.under (.builtin "type.__call__" ⟨.ref C::vs,kw⟩)) (.call (.ref f) ⟨.ref (s.heap.objs.size+1)::vs,kw⟩) (PySem.W.InitBack (s.heap.objs.size+1) R)
      { s with heap:=(s.heap.push PySem.W.emptyDict).push (PySem.W.instObj C s.heap.objs.size) }) :
    codeAny (model prog w) A (.call (.ref C) ⟨vs,kw⟩) R s:=by
  obtain ⟨hh,g,d,t,os⟩:=s;exact PySem.W.make_core (PySem.W.makes_of X hm) (PySem.W.looks_findIn X hi) (fun self=>PySem.W.bind_fn X self hf) (.inl rfl) h
end
def putF (f:Str)(v:V):List (Str×V)→List (Str×V)
  | []=>[(f,v)]
  | (g,x)::r=>if g=f then (g,v)::r else (g,x)::putF f v r
theorem zgo (f g:Str)(v:V):∀ fs:List (Str×V),(putF f v fs).lookup g=if g=f then some v else fs.lookup g
  | []=>by
    show List.lookup g [(f,v)]=_;by_cases h:g=f
    · have hb:(g == f)=true:=beq_iff_eq.mpr h
      simp only[List.lookup,hb,if_pos h]
    · have hb:(g == f)=false:=beq_eq_false_iff_ne.mpr h
      simp only[List.lookup,hb,if_neg h]
  | (k,x)::r=>by
    have ih:=zgo f g v r;rw[show putF f v ((k,x)::r)=(if k=f then (k,v)::r else (k,x)::putF f v r) from rfl]
    by_cases hk:k=f
    · rw[if_pos hk]
      by_cases h:g=k
      · have hb:(g == k)=true:=beq_iff_eq.mpr h
        simp only[List.lookup,hb,if_pos (h.trans hk)]
      · have hb:(g == k)=false:=beq_eq_false_iff_ne.mpr h
        simp only[List.lookup,hb,if_neg (fun e:g=f=>h (e.trans hk.symm))]
    · rw[if_neg hk]
      by_cases h:g=k
      · have hb:(g == k)=true:=beq_iff_eq.mpr h
        simp only[List.lookup,hb,if_neg (fun e:g=f=>hk (h.symm.trans e))]
      · have hb:(g == k)=false:=beq_eq_false_iff_ne.mpr h
        simp only[List.lookup,hb];exact ih
theorem zgr (f:Str)(v:V):∀ fs:List (Str×V),f∈(putF f v fs).map (·.1)∧∀ g,g∈fs.map (·.1)→g∈(putF f v fs).map (·.1)
  | []=>⟨by simp[putF],fun g h=>by simp at h⟩
  | (k,x)::r=>by
    obtain ⟨i1,i2⟩:=zgr f v r;rw[show putF f v ((k,x)::r)=(if k=f then (k,v)::r else (k,x)::putF f v r) from rfl]
    by_cases hk:k=f
    · rw[if_pos hk]
      subst hk;exact ⟨by simp,fun g h=>by simpa using h⟩
    · rw[if_neg hk]
      refine ⟨?_,fun g h=>?_⟩
      · rw[yau]
        exact yaF _ i1
      · rw[yau]at h ⊢
        rcases yam.mp h with e | e
        · exact yam.mpr (.inl e)
        · exact yaF _ (i2 g e)
theorem zgq (f:Str)(v:V):∀ fs:List (Str×V),(putF f v fs).length≤fs.length+1
  | []=>by simp[putF]
  | (k,x)::r=>by
    have ih:=zgq f v r;rw[show putF f v ((k,x)::r)=(if k=f then (k,v)::r else (k,x)::putF f v r) from rfl]
    by_cases hk:k=f
    · rw[if_pos hk,yaL,yaL];omega
    · rw[if_neg hk,yaL,yaL];omega
theorem RelO.some_of {v:V}{o:Option Value}(r:RelO (some v) o):∃ u,o=some u∧RelV v u:=by
  cases o with
  | none=>exact (show False from r).elim
  | some u=>exact ⟨u,rfl,r⟩
theorem RelO.none_of {o:Option Value}(r:RelO none o):o=none:=by
  cases o with
  | none=>rfl
  | some u=>exact (show False from r).elim
theorem zns {v:V}{u:Value}(r:RelV v u):PySem.W.handedIn u=true:=by
  cases v with
  | non=>cases (show u=Value.none from r);rfl
  | bl b=>cases (show u=Value.bool b from r);rfl
  | int i=>obtain ⟨t,e⟩:=(show ∃ t,u=Value.int i t from r);cases e;rfl
  | str x=>obtain ⟨t,e⟩:=(show ∃ t,u=Value.str x t from r);cases e;rfl
  | byt b=>obtain ⟨t,e⟩:=(show ∃ t,u=Value.bytes b t from r);cases e;rfl
  | flt b=>obtain ⟨t,e⟩:=(show ∃ t,u=Value.float b t from r);cases e;rfl
  | ref a=>cases (show u=Value.ref a from r);rfl
  | ty n=>cases (show u=Value.type n from r);rfl
section
variable {P:Program}{w:World}{H H':Hp}{h h':Heap}{a C dx:Addr}{fs fs':List (Str×V)}
theorem zh9 (hok:HOk P w H h)(e:H a=some (.ins C dx fs)):∃ mA,ObjM h a dx C mA∧(∀ f,RelO (fs.lookup f) (mA f))∧PySem.Within mA (fs.map (·.1))∧fs.length≤1000∧H dx=some (.own a):=by
  obtain ⟨d,z,ne,ob,mA,n,r,q⟩:=(show zbp P w H h a (.ins C dx fs) from hok a _ e);exact ⟨mA,⟨ob,n,ne⟩,r,q,z,d⟩
end
structure Cls (K:Frag)(C:Addr):Prop where
  pg:PySem.W.plainGet K C Str.empty=true
  hd:PySem.W.hasDictIn K C=true
  po:PySem.W.plainOver K C=true
  sa:findIn K (.ref C) "__setattr__" = some (some (.builtin "object.__setattr__"))
theorem Cls.get {K:Frag}{C:Addr}(c:Cls K C)(f:Str):PySem.W.plainGet K C f=true:=c.pg
def zfI (K:Frag)(C:Addr)(f:Str):Prop:=findIn K (.ref C) f=some none
theorem zfI.taker {K:Frag}{C:Addr}{f:Str}(n:zfI K C f):PySem.W.takerIn K C f=some none:=by
  unfold PySem.W.takerIn;rw[show findIn K (.ref C) f=some none from n];rfl
structure Meth (K:Frag)(C:Addr)(m:Str)(f:Addr):Prop where
  at_:findIn K (.ref C) m=some (some (.ref f))
  fn:PySem.W.isFn K (.ref f)=true
  kp:keepIn K (.ref f)=true
section
variable {X:Cx}{pins:List (Addr×Obj)}{σ:St}{H:Hp}{s:Shared}{a C dx:Addr}{fs:List (Str×V)}{f:Str}{v:V}{A:Around}{E:Value→Shared→Prop}
theorem zlI {b:Bool}{Q:Value→Shared→Prop}(I:Inv X pins σ H s)(e:H a=some (.ins C dx fs))(c:Cls X.K C)(n:zfI X.K C f)(l:fs.lookup f=some v)
    (h:∀ u s',Inv X pins σ H s'→RelV v u→Q u s'):wpAny (model X.prog X.w) A (getAttr (.ref a) f b) Q E s:=by
  obtain ⟨mA,O,r,_,_,_⟩:=zh9 I.hok e;obtain ⟨u,hu,ru⟩:=RelO.some_of (v:=v) (o:=mA f) (by rw[← l];exact r f);exact zqP I.kIn O (c.get f) c.hd n hu (zns ru) (h u _ (I.tok _) ru)
theorem zhd {m:Str}{g:Addr}{pl:Sem Bool}{Q:Value×List Value→Shared→Prop}(I:Inv X pins σ H s)(e:H a=some (.ins C dx fs))(c:Cls X.K C)(k:Meth X.K C m g)(l:fs.lookup m=none)
    (h:Q (.ref g,[.ref a]) s):wpAny (model X.prog X.w) A (getMethod (.ref a) m pl) Q E s:=by
  obtain ⟨mA,O,r,_,_,_⟩:=zh9 I.hok e;have hn:mA m=none:=RelO.none_of (by rw[← l];exact r m);exact zo0 I.kIn O (c.get m) k.at_ k.fn hn h
theorem zlj {y:V}{u:Value}{Q:Unit→Shared→Prop}(I:Inv X pins σ H s)(e:H a=some (.ins C dx fs))(c:Cls X.K C)(n:zfI X.K C f)(hl:fs.length < 1000)(ry:RelV y u)
    (h:∀ s',Inv X pins σ (upd H a (.ins C dx (putF f y fs))) s'→Q () s'):wpAny (model X.prog X.w) A (setAttr (.ref a) f u) Q E s:=by
  obtain ⟨mA,O,r,wi,_,ho⟩:=zh9 I.hok e;have hz:(fs.map (·.1)).length≤sizeLine:=by rw[yab,sizeLine_eq];omega
  refine zp4 I.kIn O c.sa c.po n.taker c.hd wi hz fun h' O' sb=>h _ ?_;have hd:∃ o,h'.get? dx=some o:=let ⟨o,_,_,e',_⟩:=O'.ns;⟨o,e'⟩;refine I.write (x:=a) (e:=dx) (by rw[e];exact True.intro) (.inr ho) (fun b q hb z=>(sb.2 b hb).trans z) hd ?_;refine ⟨by rw[zag O.ne];exact ho,?_,O.ne,O'.obj,_,O'.ns,fun g=>?_,fun g hg=>?_⟩
  · have:=zgq f y fs;omega
  · show RelO ((putF f y fs).lookup g) (if g=f then some u else mA g)
    rw[zgo];by_cases q:g=f
    · rw[if_pos q,if_pos q];exact ry
    · rw[if_neg q,if_neg q];exact r g
  · by_cases q:g=f
    · rw[q];exact (zgr f y fs).1
    · refine (zgr f y fs).2 g (wi g fun z=>hg ?_)
      show (if g=f then some u else mA g)=none
      rw[if_neg q];exact z
theorem Inv.made (I:Inv X pins σ H s):Inv X pins σ (upd (upd H s.heap.objs.size (.own (s.heap.objs.size+1))) (s.heap.objs.size+1) (.ins C s.heap.objs.size []))
    { s with heap:=(s.heap.push PySem.W.emptyDict).push (PySem.W.instObj C s.heap.objs.size) }:=by
  have e1:(s.heap.push PySem.W.emptyDict).get? s.heap.objs.size=some PySem.W.emptyDict:=yaB s.heap rfl;have e2:((s.heap.push PySem.W.emptyDict).push (PySem.W.instObj C s.heap.objs.size)).get? (s.heap.objs.size+1)=some (PySem.W.instObj C s.heap.objs.size):=by
    have:=yaB (s.heap.push PySem.W.emptyDict) (o:=PySem.W.instObj C s.heap.objs.size) rfl;rwa[ybw]at this
  have e3:(s.heap.push PySem.W.emptyDict).Ns s.heap.objs.size (fun _=>none):=⟨PySem.W.emptyDict,#[],_,e1,rfl,(fun e he=>absurd he (by simp)),fun _=>rfl⟩;have I1:=I.laid (a:=s.heap.objs.size) (o:=.own (s.heap.objs.size+1)) (h':=s.heap.push PySem.W.emptyDict) (t':=s.toks) (fun b u q=>yai _ q) (yaa _) ⟨_,e1⟩;refine I1.laid (a:=s.heap.objs.size+1) (o:=.ins C s.heap.objs.size []) (t':=s.toks) (fun b u q=>yai _ q) (Nat.le_of_eq (ybw _ _)) ?_;have ne:s.heap.objs.size≠s.heap.objs.size+1:=yan (ybE _);refine ⟨by rw[zag ne,zab],yaC _,ne,e2,fun _=>none,(Heap.Ns1.of_empty e3).at fun o q=>yai _ q,fun _=>True.intro,fun y hy=>absurd rfl hy⟩
theorem zq5 {prog:Program}{w:World}{env:Env}{e:Expr}{f:Str}{pos:Pos}{s:Shared}{Q:Value→Shared→Prop}(hb:attributeBase e f env (eval e env)=eval e env)
    (h:wpAny (model prog w) A (eval e env) (fun o s₁=>wpAny (model prog w) A (getAttr o f true) Q E s₁) E s):wpAny (model prog w) A (eval (.Attribute e f pos) env) Q E s:=
  Attribute_any_ h (by rw[arm_eval_Attribute,hb])
end
def tFld (K:Frag)(ta:TE)(f:Str):TE:=fun σ H Q=>ta σ H fun x H1=>∃ a C dx fs v,x=.ref a∧H1 a=some (.ins C dx fs)∧Cls K C∧zfI K C f∧fs.lookup f=some v∧Q v H1
def sFld (K:Frag)(ta tv:TE)(f:Str):TS:=fun D σ H=>tv σ H fun y H1=>ta σ H1 fun x H2=>∃ a C dx fs,x=.ref a∧H2 a=some (.ins C dx fs)∧Cls K C∧zfI K C f∧fs.length < 1000∧
  D.nx σ (upd H2 a (.ins C dx (putF f y fs)))
section
variable {X:Cx}{o e value:Expr}{f:Str}{pos pos' tpos:Pos}{ta tv:TE}
theorem zc5 (he:PE X e ta)(hb:attributeBase e f X.env (eval e X.env)=eval e X.env):PE X (.Attribute e f pos) (tFld X.K ta f):=by
  intro pins s σ H Q I h;refine zq5 hb (thn (he pins s σ H _ I h) fun u s1 zq0=>?_);obtain ⟨x,H1,I1,rx,a,C,dx,fs,v,ex,ea,c,n,l,q⟩:=zq0;subst ex;obtain rfl:u=Value.ref a:=rx;exact zlI I1 ea c n l fun u' s2 I2 ru=>⟨v,H1,I2,ru,q⟩
theorem zkF (ha:PE X o ta)(hv:PE X value tv)(hs:swapsWith value (some (.Attribute o f pos')) pos.line X.env=pure false):PS X (.Assign [.Attribute o f pos'] value pos) (sFld X.K ta tv f):=by
  intro pins s σ H D I h;refine plainObj_wpAny_Assign_Attribute (thn (hv pins s σ H _ I h) fun u s1 zq0=>?_) hs;obtain ⟨y,H1,I1,ry,q⟩:=zq0;refine thn (ha pins s1 σ H1 _ I1 q) fun ov s2 zq1=>?_;obtain ⟨x,H2,I2,rx,a,C,dx,fs,ex,ea,c,n,l,q2⟩:=zq1;subst ex;obtain rfl:ov=Value.ref a:=rx;exact zlj I2 ea c n l ry fun s3 I3=>⟨σ,_,I3,q2⟩
end
section
variable {X:Cx}{pins:List (Addr×Obj)}{σ:St}{H:Hp}{s:Shared}{A:Around}{E:Value→Shared→Prop}{Q:Value→Shared→Prop}{c:Value}{b:Bool}
inductive TyOf (K:Frag)(H:Hp):V→Value→Prop where
  | non:TyOf K H .non (.type "NoneType")
  | bl (x:Bool):TyOf K H (.bl x) (.type "bool")
  | int (i:Int):TyOf K H (.int i) (.type "int")
  | str (x:Str):TyOf K H (.str x) (.type "str")
  | flt (x:UInt64):TyOf K H (.flt x) (.type "float")
  | lst {a:Addr} {xs:List V} (e:H a=some (.lst xs)):TyOf K H (.ref a) (.type "list")
  | frz {a:Addr} {o:Obj} {xs:List V} (e:H a=some (.frz o (.lst xs))):TyOf K H (.ref a) (.type "list")
  | tup {a:Addr} {xs:List V} (e:H a=some (.tup xs)):TyOf K H (.ref a) (.type "tuple")
  | dK {a:Addr} {kvs:List (Key×V)} (e:H a=some (.dK kvs)):TyOf K H (.ref a) (.type "dict")
  | dT {a:Addr} {kvs:List (List Key×V)} (e:H a=some (.dT kvs)):TyOf K H (.ref a) (.type "dict")
  | ins {a C dx:Addr} {fs:List (Str×V)} (e:H a=some (.ins C dx fs)) (cl:Cls K C) (ha:findIn K (.ref C) "__class__" = some (some (.builtin "object.__class__")))
      (hn:PySem.W.specialIn K (.builtin "object.__class__") "__get__" = some (some (.builtin "getset_descriptor.__get__"))) (htk:PySem.W.takesIn K (.builtin "object.__class__")=some true)
      (hm:mroIn K C (.type "object")=some true):TyOf K H (.ref a) (.ref C)
theorem znj {x:V}{u t:Value}(I:Inv X pins σ H s)(rx:RelV x u)(ty:TyOf X.K H x t)(e:kitOne X.K t c=some b)(h:∀ tk,Q (.bool b) { s with toks:=tk }) :
    wpAny (model X.prog X.w) A (call (.builtin "isinstance") [u,c]) Q E s:=by
  cases ty with
  | non=>cases (show u=Value.none from rx);exact PySem.W.kia_one PySem.W.kitx_none I.kIn True.intro e (fun z=>nomatch z) h
  | bl y=>cases (show u=Value.bool y from rx);exact PySem.W.kia_one PySem.W.kitx_bool I.kIn True.intro e (fun z=>nomatch z) h
  | int i=>obtain ⟨t,q⟩:=(show ∃ t,u=Value.int i t from rx);cases q;exact PySem.W.kia_one PySem.W.kitx_int I.kIn True.intro e (fun z=>nomatch z) h
  | str y=>obtain ⟨t,q⟩:=(show ∃ t,u=Value.str y t from rx);cases q;exact PySem.W.kia_one PySem.W.kitx_str I.kIn True.intro e (fun z=>nomatch z) h
  | flt y=>obtain ⟨t,q⟩:=(show ∃ t,u=Value.float y t from rx);cases q;exact PySem.W.kia_one PySem.W.kitx_float I.kIn True.intro e (fun z=>nomatch z) h
  | @lst a xs ea=>
    cases (show u=Value.ref a from rx)
    obtain ⟨_,_,n,_,h1⟩:=(show zbp X.prog X.w H s.heap a (.lst xs) from I.hok a _ ea);exact PySem.W.kia_one PySem.W.kitx_list I.kIn ⟨_,h1,rfl⟩ e (fun z=>nomatch z) h
  | @frz a ob xs ea=>
    cases (show u=Value.ref a from rx)
    obtain ⟨_,_,_,n,_,h1⟩:=(show zbp X.prog X.w H s.heap a (.frz ob (.lst xs)) from I.hok a _ ea);exact PySem.W.kia_one PySem.W.kitx_list I.kIn ⟨_,h1,rfl⟩ e (fun z=>nomatch z) h
  | @tup a xs ea=>
    cases (show u=Value.ref a from rx)
    obtain ⟨_,_,_,p⟩:=(show zbp X.prog X.w H s.heap a (.tup xs) from I.hok a _ ea);obtain ⟨o,h1,h2,_⟩:=p;exact PySem.W.kia_one PySem.W.kitx_tuple I.kIn ⟨o,h1,h2⟩ e (fun z=>nomatch z) h
  | @dK a kvs ea=>
    cases (show u=Value.ref a from rx)
    obtain ⟨_,_,vs,_,p⟩:=(show zbp X.prog X.w H s.heap a (.dK kvs) from I.hok a _ ea);obtain ⟨o,es,ep,h1,h2,_⟩:=p;exact PySem.W.kia_one PySem.W.kitx_dict I.kIn ⟨o,h1,h2.1⟩ e (fun z=>nomatch z) h
  | @dT a kvs ea=>
    cases (show u=Value.ref a from rx)
    obtain ⟨_,_,xs,_,o,es,ep,h1,h2,_⟩:=(show zbp X.prog X.w H s.heap a (.dT kvs) from I.hok a _ ea);exact PySem.W.kia_one PySem.W.kitx_dict I.kIn ⟨o,h1,h2.1⟩ e (fun z=>nomatch z) h
  | @ins a C dx fs ea cl ha hn htk hm=>
    cases (show u=Value.ref a from rx)
    obtain ⟨mA,O,_⟩:=zh9 I.hok ea;obtain ⟨od,J,_⟩:=O.look;exact PySem.W.kia_one (PySem.W.kitx_own (cl.get _) cl.hd ha hn htk hm) I.kIn J e (fun z=>nomatch z) h
end
end L2
namespace L2
open PySem PySem.Spec PyProof.Rows
structure Room (k:Nat)(A:Around):Prop where
  hd:A.handled=none
  dp:A.depth+3 * k+5 < recursionLimit
  un:A.units+16 * k+200 < cLine
  gd:A.guards=some []
theorem Room.mono {j k:Nat}{A:Around}(r:Room k A)(h:j≤k):Room j A:=⟨r.hd,by have:=r.dp;omega,by have:=r.un;omega,r.gd⟩
theorem Room.deeper {k:Nat}{A:Around}(r:Room (k+1) A)(env:Env):Room k (A.deeper env):=
  ⟨r.hd,by have:=r.dp;show A.depth+1+3 * k+5 < _;omega,by have:=r.un;show A.units+3+16 * k+200 < _;omega,r.gd⟩
theorem zlH {A:Around}{C:Addr}{us:List Value}{kw:List (Str×Value)}:(A.under (.builtin "type.__call__" ⟨.ref C::us,kw⟩)).depth=A.depth+1:=by
  first | rfl | simp[Around.under,Code.weight,Code.isCreation,Code.isGuard,Code.isCaller,Code.frames,Code.isFrame,guardIds]
theorem zlF {A:Around}{C:Addr}{us:List Value}{kw:List (Str×Value)}:(A.under (.builtin "type.__call__" ⟨.ref C::us,kw⟩)).units=A.units+1:=by
  first | rfl | simp[Around.under,Code.cUnits,Code.frames,Code.isFrame]
theorem Room.make {k:Nat}{A:Around}(r:Room (k+1) A)(C:Addr)(us:List Value)(kw:List (Str×Value)):Room k (A.under (.builtin "type.__call__" ⟨.ref C::us,kw⟩)):=
  ⟨r.hd,by have:=r.dp;rw[zlH];omega,by have:=r.un;rw[zlF];omega,by have h:=r.gd;simp[Around.under,Code.guards,Code.isGuard,guardIds,pushGuards,h]⟩
theorem Room.depth {k:Nat}{A:Around}(r:Room k A):A.depth < recursionLimit:=by have:=r.dp;omega
theorem Room.units {k:Nat}{A:Around}(r:Room k A):A.units+64 < cLine:=by have:=r.un;omega
def tNil:TA:=fun _ H Q=>Q [] H
def zpW (ta:TE)(tr:TA):TA:=fun σ H Q=>ta σ H fun x H1=>tr σ H1 fun xs H2=>Q (x::xs) H2
section
variable {X:Cx}{e:Expr}{es:List Expr}{te:TE}{t:TA}{pos:Pos}
theorem zad:PA X [] tNil:=fun _ _ _ _ H Q I h=>Calls.spliced_nil ⟨[],H,I,.nil,h⟩
theorem zaa (ha:PE X e te)(hr:PA X es t)(hs:starEach (e::es) X.env=(false,eval e X.env)::starEach es X.env:=by rfl):PA X (e::es) (zpW te t):=by
  intro pos pins s σ H Q I h;rw[hs];show wpAny _ _ (spliced ((false,eval e X.env)::backTo pos (starEach es X.env))) _ _ s;refine Calls.spliced_cons (thn (ha pins s σ H _ I h) fun u s1 zq0=>?_);obtain ⟨x,H1,I1,r1,q1⟩:=zq0;exact thn (hr pos pins s1 σ H1 _ I1 q1) fun us s2 zq0=>(by obtain ⟨xs,H2,I2,r2,q2⟩:=zq0;exact ⟨x::xs,H2,I2,.cons r1 r2,q2⟩)
def tTup (t:TA):TE:=fun σ H Q=>t σ H fun xs H1=>xs.length≤sizeLine∧∀ p,H1 p=none→Q (.ref p) (upd H1 p (.tup xs))
def tLst (t:TA):TE:=fun σ H Q=>t σ H fun xs H1=>xs.length≤sizeLine∧∀ p,H1 p=none→Q (.ref p) (upd H1 p (.lst xs))
theorem za6 {x1}(h:PA X es t):PE X (.Tuple es x1 pos) (tTup t):=by
  intro pins s σ H Q I hq;refine wpAny_Tuple_spliced (thn (h pos pins s σ H _ I hq) fun us s1 zq0=>?_);obtain ⟨xs,H1,I1,r,z,q⟩:=zq0;refine ⟨by rw[← r.length];exact z,?_⟩;have hf:H1 s1.heap.objs.size=none:=I1.hok.fresh (yaa _);refine ⟨.ref s1.heap.objs.size,upd H1 s1.heap.objs.size (.tup xs),I1.laid (t':=s1.toks) (fun b u e=>yai _ e) (yaa _) ?_,rfl,q _ hf⟩;exact ⟨z,us,r,⟨_,yaB _ rfl,rfl,_,rfl⟩⟩
theorem zca (h:PA X es t):PE X (.List es pos) (tLst t):=by
  intro pins s σ H Q I hq;refine wpAny_List_spliced (thn (h pos pins s σ H _ I hq) fun us s1 zq0=>?_);obtain ⟨xs,H1,I1,r,z,q⟩:=zq0;refine ⟨by rw[← r.length];exact z,?_⟩;have hf:H1 s1.heap.objs.size=none:=I1.hok.fresh (yaa _);refine ⟨.ref s1.heap.objs.size,upd H1 s1.heap.objs.size (.lst xs),I1.laid (t':=s1.toks) (fun b u e=>yai _ e) (yaa _) ?_,rfl,q _ hf⟩;exact ⟨z,us,0,r,yaB _ rfl⟩
end
abbrev Sp:=List V→Hp→VK→XK→Prop
abbrev CXT:=List Env→Hp→Shared→XK→Value→Shared→Prop
structure Env0 (P:Program)(w:World)(K:Frag)(mg:Str→Option Value)(base:Heap)(A:Around)(outer:List Env)(s:Shared)(H:Hp):Prop where
  frames:A.frames=some outer
  mod:Mod K mg base
  bs:∀ b o,base.get? b=some o→s.heap.get? b=some o∧H b=none
  bsz:base.objs.size≤s.heap.objs.size
  funs:s.heap.FunFrames base outer
  frf:∀ b∈frs outer,H b=none
  hok:HOk P w H s.heap
  bare:AllBare s.gens
def CE (outer:List Env)(P:Program)(w:World)(H:Hp)(s:Shared)(Q:VK)(u:Value)(s':Shared):Prop:=
  ∃ v H',s'.os=s.os∧AllBare s'.gens∧Un (frs outer) [] H H' s.heap s'.heap∧HOk P w H' s'.heap∧RelV v u∧Q v H'
def CR (CX:CXT)(outer:List Env)(P:Program)(w:World)(H:Hp)(s:Shared)(Q:VK)(E:XK)(r:Result)(s':Shared):Prop:=
  match r with
  | .ok (.ret u)=>CE outer P w H s Q u s'
  | .ok _=>False
  | .error e=>CX outer H s E e s'
structure FnOk (P:Program)(w:World)(K:Frag)(mg:Str→Option Value)(base:Heap)(CX:CXT)(k:Nat)(f:Addr)(fd:FuncData)(ps:List Str)(sp:Sp):Prop where
  len:∀ vs H Q E,sp vs H Q E→vs.length=ps.length
  run:∀(A:Around) (outer:List Env) (s:Shared) (H:Hp) (args:Args) (us:List Value) (vs:List V) (Q:VK) (E:XK),Room k A→Env0 P w K mg base A outer s H→BindsTo s fd args (ps.zip us)→Vals vs us→sp vs H Q E→
    codeAny (model P w) A (.call (.ref f) args) (CR CX outer P w H s Q E) s
theorem Env0.make {P:Program}{w:World}{K:Frag}{mg:Str→Option Value}{base:Heap}{A:Around}{outer:List Env}{s:Shared}{H:Hp}(e:Env0 P w K mg base A outer s H)(C:Addr)(us:List Value)(kw:List (Str×Value)) :
    Env0 P w K mg base (A.under (.builtin "type.__call__" ⟨.ref C::us,kw⟩)) outer s H:=⟨by first | exact e.frames | (simpa [Around.under,Code.envs,Code.isFrame,pushEnvs] using e.frames),e.mod,e.bs,e.bsz,e.funs,e.frf,e.hok,e.bare⟩
section
variable {X:Cx}{pins:List (Addr×Obj)}{σ:St}{H:Hp}{s s':Shared}
theorem Inv.env0 (I:Inv X pins σ H s):Env0 X.prog X.w X.K X.mg X.base X.A X.stack s H:=
  ⟨I.ok.frames,I.ok.mod,I.bs,yao I.ok.bsz I.sz,I.stack,I.stkFree,I.hok,I.bare⟩
theorem Inv.after {Q:VK}{u:Value}(I:Inv X pins σ H s)(h:CE X.stack X.prog X.w H s Q u s'):EP X pins σ Q u s':=by
  obtain ⟨v,H',os,bare,un,hok,r,q⟩:=h;obtain ⟨hh,g,d,t,os'⟩:=s';obtain rfl:os'=s.os:=os;exact ⟨v,H',I.call (h':=hh) (g':=g) (d':=d) (t':=t) (ch:=[]) un hok bare (fun b z=>absurd z (by simp)),r,q⟩
end
def zrn (sp:Sp)(dvs:List V)(E:XK)(t:TA):TE:=fun σ H Q=>t σ H fun vs H1=>sp (vs++dvs) H1 Q E
def zn4 (C:Addr)(m:Str)(sp:Sp)(dvs:List V)(E:XK)(ta:TE)(t:TA):TE:=fun σ H Q=>ta σ H fun x H1=>∃ a dx fs,x=.ref a∧H1 a=some (.ins C dx fs)∧fs.lookup m=none∧
  t σ H1 fun vs H2=>sp (x::(vs++dvs)) H2 Q E
def zrj (C:Addr)(sp:Sp)(dvs:List V)(E:XK)(t:TA):TE:=fun σ H Q=>t σ H fun vs H1=>∀ x dx,H1 x=none→H1 dx=none→dx≠x→
  sp (.ref x::(vs++dvs)) (upd (upd H1 dx (.own x)) x (.ins C dx [])) (fun v H2=>v=.non∧Q (.ref x) H2) E
def zdT (K:Frag)(fd:FuncData)(ps:List Str)(ds:List Value):Prop:=
  ∀(s:Shared) (us:List Value),K.In s.heap→(us++ds).length=ps.length→BindsTo s fd ⟨us,[]⟩ (ps.zip (us++ds))
theorem zdT.all {K:Frag}{fd:FuncData}{ps:List Str}(h:∀ us:List Value,us.length=ps.length→bindArgs fd ⟨us,[]⟩=pure (ps.zip us)):zdT K fd ps []:=fun s us _ hl=>by
  rw[yaz]at hl ⊢;exact .of_eq (h us hl)
def zgN (CX:CXT)(X:Cx)(E:XK):Prop:=∀(pins:List (Addr×Obj)) (σ:St) (H:Hp) (s:Shared) (e:Value) (s':Shared),Inv X pins σ H s→CX X.stack H s E e s'→X.xe e s'
section
variable {X:Cx}{CX:CXT}{k:Nat}{f C:Addr}{fd:FuncData}{ps:List Str}{sp:Sp}{dvs:List V}{ds:List Value}{E:XK}{x m:Str}{p pos apos:Pos}{e o:Expr}{es:List Expr}{ta:TE}{t:TA}
theorem zkA {pins:List (Addr×Obj)}{σ:St}{H:Hp}{s:Shared}{Q:VK}{us:List Value}{vs:List V}(F:FnOk X.prog X.w X.K X.mg X.base CX k f fd ps sp)(hr:Room k X.A)(hb:zdT X.K fd ps ds)(hd:Vals dvs ds)(hx:zgN CX X E)
    (I:Inv X pins σ H s) (r:Vals vs us) (h:sp (vs++dvs) H Q E):wpAny (model X.prog X.w) X.A (call (.ref f) us) (EP X pins σ Q) X.xe s:=by
  have r2:Vals (vs++dvs) (us++ds):=r.append hd;have hl:(us++ds).length=ps.length:=by rw[← r2.length];exact F.len _ _ _ _ h
  refine wpAny_call (codeAny_mono (F.run X.A X.stack s H ⟨us,[]⟩ (us++ds) (vs++dvs) Q E hr I.env0 (hb s us I.kIn hl) r2 h) fun r s' hq=>?_);cases r with
  | error e=>exact hx pins σ H s e s' I hq
  | ok fl=>
    cases fl with
    | ret u=>exact I.after hq
    | next=>exact False.elim hq
    | brk=>exact False.elim hq
    | cont=>exact False.elim hq
theorem zqh (F:FnOk X.prog X.w X.K X.mg X.base CX k f fd ps sp)(hr:Room k X.A)(hg:Gl X x)(hm:X.mg x=some (.ref f))(hk:keepIn X.K (.ref f)=true)(hb:zdT X.K fd ps ds)(hd:Vals dvs ds)(hx:zgN CX X E)
    (ha:PA X (e::es) t) (hdb:(x == ("__debug__" : Str))=false:=by decide) (he:starEach (e::es) X.env=(false,eval e X.env)::starEach es X.env:=by rfl) (hpl:(backTo pos (starEach es X.env)).any (·.1)=false:=by rfl) :
    PE X (.Call (.Name x p) (e::es) [] pos) (zrn sp dvs E t):=by
  intro pins s σ H Q I h;refine wpAny_Call_Name_kw (zh6 I hg hm ?_ hdb);refine PySem.W.callWith_K (h₀:=X.base) I.ok.mod.kin hk (thn (ha pos pins s σ H _ I h) fun us s1 zq0=>?_) he hpl;obtain ⟨vs,H1,I1,r,q⟩:=zq0;refine ⟨I1.kIn,?_⟩;exact zkA F hr hb hd hx I1 r q
theorem zqd {pl:Sem Bool}(he:PE X o ta)(c:Cls X.K C)(hm:Meth X.K C m f)(F:FnOk X.prog X.w X.K X.mg X.base CX k f fd ps sp)(hr:Room k X.A)(hb:zdT X.K fd ps ds)(hd:Vals dvs ds)(hx:zgN CX X E)(ha:PA X (e::es) t)
    (hst:starEach (e::es) X.env=(false,eval e X.env)::starEach es X.env:=by rfl) (hpl:(backTo pos (starEach es X.env)).any (·.1)=false:=by rfl)
    (ht:eval (.Call (.Attribute o m apos) (e::es) [] pos) X.env=(do
      let ov ← eval o X.env
      standAt apos.atName
      let (f,first) ← holding [ov] (getMethod ov m pl)
      callWith pos f first (backTo pos (starEach (e::es) X.env)) (backToKw pos (keywordEach [] X.env))):=by rfl) :
    PE X (.Call (.Attribute o m apos) (e::es) [] pos) (zn4 C m sp dvs E ta t):=by
  intro pins s σ H Q I h;refine PySem.W.methodCall_KW (pl:=pl) (thn (he pins s σ H _ I h) fun u s1 zq0=>?_) ht;obtain ⟨x,H1,I1,rx,a,dx,fs,ex,ea,l,q⟩:=zq0;subst ex;obtain rfl:u=Value.ref a:=rx;refine zhd I1 ea c hm l ?_;refine PySem.W.callWith_K (first:=[.ref a]) (h₀:=X.base) I.ok.mod.kin hm.kp (thn (ha pos pins s1 σ H1 _ I1 q) fun us s2 zq0=>?_) hst hpl
  obtain ⟨vs,H2,I2,r,q2⟩:=zq0;refine ⟨I2.kIn,?_⟩;exact zkA (us:=.ref a::us) (vs:=.ref a::vs) F hr hb hd hx I2 (.cons rfl r) q2
theorem zoi {pl:Sem Bool}(he:PE X o ta)(c:Cls X.K C)(hm:Meth X.K C m f)(F:FnOk X.prog X.w X.K X.mg X.base CX k f fd ps sp)(hr:Room k X.A)(hb:zdT X.K fd ps ds)(hd:Vals dvs ds)(hx:zgN CX X E)
    (ht:eval (.Call (.Attribute o m apos) [] [] pos) X.env=(do
      let ov ← eval o X.env
      standAt apos.atName
      let (f,first) ← holding [ov] (getMethod ov m pl)
      callWith pos f first (backTo pos (starEach [] X.env)) (backToKw pos (keywordEach [] X.env))):=by rfl) :
    PE X (.Call (.Attribute o m apos) [] [] pos) (zn4 C m sp dvs E ta tNil):=by
  intro pins s σ H Q I h;refine PySem.W.methodCall_KW (pl:=pl) (thn (he pins s σ H _ I h) fun u s1 zq0=>?_) ht;obtain ⟨x,H1,I1,rx,a,dx,fs,ex,ea,l,q⟩:=zq0;subst ex;obtain rfl:u=Value.ref a:=rx;refine zhd I1 ea c hm l ?_;exact PySem.W.callWith_K0 (first:=[.ref a]) I1.kIn hm.kp (zkA (us:=[.ref a]) (vs:=[.ref a]) F hr hb hd hx I1 (.cons rfl .nil) q)
structure Mk (K:Frag)(C f:Addr):Prop where
  makes:PySem.W.makesIn K C=true
  init:findIn K (.ref C) "__init__" = some (some (.ref f))
  fn:PySem.W.isFn K (.ref f)=true
  kp:keepIn K (.ref C)=true
theorem zob {pins:List (Addr×Obj)}{σ:St}{H:Hp}{s:Shared}{Q:VK}{us:List Value}{vs:List V}(M:Mk X.K C f)(F:FnOk X.prog X.w X.K X.mg X.base CX k f fd ps sp)(hr:Room (k+1) X.A)(hb:zdT X.K fd ps ds)(hd:Vals dvs ds)
    (hx:zgN CX X E) (I:Inv X pins σ H s) (r:Vals vs us)
    (h:∀ x dx,H x=none→H dx=none→dx≠x→sp (.ref x::(vs++dvs)) (upd (upd H dx (.own x)) x (.ins C dx [])) (fun v H2=>v=.non∧Q (.ref x) H2) E) :
    wpAny (model X.prog X.w) X.A (call (.ref C) us) (EP X pins σ Q) X.xe s:=by
  have hq:=h (s.heap.objs.size+1) s.heap.objs.size (I.hok.fresh (yaV _)) (I.hok.fresh (yaa _)) (yan (ybE _));have I2:=Inv.made (C:=C) I;have r2:Vals (V.ref (s.heap.objs.size+1)::(vs++dvs)) (Value.ref (s.heap.objs.size+1)::(us++ds)):=.cons rfl (r.append hd);have hl:(Value.ref (s.heap.objs.size+1)::us++ds).length=ps.length:=by
    have e:=r2.length;rw[F.len _ _ _ _ hq]at e;exact e.symm
  refine wpAny_call (zoO (f:=f) I.kIn M.makes M.init (beq_iff_eq.mp M.fn) (codeAny_mono (F.run _ X.stack _ _ ⟨Value.ref (s.heap.objs.size+1)::us,[]⟩ (Value.ref (s.heap.objs.size+1)::(us++ds)) _ _ E (hr.make C us [])
    (I2.env0.make C us []) (hb _ (Value.ref (s.heap.objs.size+1)::us) I2.kIn hl) r2 hq) fun r s' hq'=>?_))
  cases r with
  | error e=>exact hx pins σ _ _ e s' I2 hq'
  | ok fl=>
    cases fl with
    | ret u=>
      obtain ⟨v,H',I3,rv,ev,q3⟩:=I2.after hq';subst ev;exact ⟨rv,⟨V.ref (s.heap.objs.size+1),H',I3,rfl,q3⟩⟩
    | next=>exact False.elim hq'
    | brk=>exact False.elim hq'
    | cont=>exact False.elim hq'
theorem zqe (M:Mk X.K C f)(F:FnOk X.prog X.w X.K X.mg X.base CX k f fd ps sp)(hr:Room (k+1) X.A)(hg:Gl X x)(hm:X.mg x=some (.ref C))(hb:zdT X.K fd ps ds)(hd:Vals dvs ds)(hx:zgN CX X E)
    (ha:PA X (e::es) t) (hdb:(x == ("__debug__" : Str))=false:=by decide) (he:starEach (e::es) X.env=(false,eval e X.env)::starEach es X.env:=by rfl) (hpl:(backTo pos (starEach es X.env)).any (·.1)=false:=by rfl) :
    PE X (.Call (.Name x p) (e::es) [] pos) (zrj C sp dvs E t):=by
  intro pins s σ H Q I h;refine wpAny_Call_Name_kw (zh6 I hg hm ?_ hdb);refine PySem.W.callWith_K (h₀:=X.base) I.ok.mod.kin M.kp (thn (ha pos pins s σ H _ I h) fun us s1 zq0=>?_) he hpl;obtain ⟨vs,H1,I1,r,q⟩:=zq0;refine ⟨I1.kIn,?_⟩;exact zob M F hr hb hd hx I1 r q
end
structure zaq (N P:List Str)(sc:Scope):Prop where
  kind:sc.kind=.function
  co:sc.isCoroutine=false
  gen:sc.isGenerator=false
  nd:N.Nodup
  pre:N.take P.length=P
  par:∀ x∈P,sc.names.lookup x=some .local∨sc.names.lookup x=some .cell
  nofree:∀ y∈sc.names,y.2≠.free
theorem zje {kindOf:Str→Option NameKind}{x:Str}:∀{binds:List (Str×Value)} {m:Str→Option Value},(∀ v,(x,v)∉binds)→bindL kindOf binds m x=m x
  | [],_,_=>rfl
  | (n,v)::r,m,h=>by
    unfold bindL;rw[zje fun w hw=>h w (yaF _ hw)];split
    · have:x≠n:=by rintro rfl;exact h v yaD
      simp[this]
    · rfl
theorem zjg {kindOf:Str→Option NameKind}{x:Str}:∀{binds:List (Str×Value)} {m:Str→Option Value},(∀ v,(x,v)∉binds)→bindC kindOf binds m x=m x
  | [],_,_=>rfl
  | (n,v)::r,m,h=>by
    unfold bindC;rw[zjg fun w hw=>h w (yaF _ hw)];split
    · rfl
    · have:x≠n:=by rintro rfl;exact h v yaD
      simp[this]
theorem zjf {kindOf:Str→Option NameKind}{x:Str}{v:Value}:∀{P:List Str} {vs:List Value} {i:Nat} {m:Str→Option Value},P.Nodup→P[i]?=some x→vs[i]?=some v→kindOf x=some .local→
    bindL kindOf (P.zip vs) m x=some v
  | [],_,_,_,_,h,_,_=>by simp at h
  | _::_,[],_,_,_,_,h,_=>by simp at h
  | p::P,w::vs,0,m,nd,h1,h2,hk=>by
    simp at h1 h2;subst h1;subst h2;show bindL kindOf ((p,w)::P.zip vs) m p=_;unfold bindL;rw[zje fun v hv=>(yaW.mp nd).1 (ybS hv).1,if_pos hk];simp
  | p::P,w::vs,i+1,m,nd,h1,h2,hk=>by
    show bindL kindOf ((p,w)::P.zip vs) m x=_;unfold bindL;exact zjf (i:=i) (yaW.mp nd).2 (by simpa using h1) (by simpa using h2) hk
theorem zjh {kindOf:Str→Option NameKind}{x:Str}{v:Value}:∀{P:List Str} {vs:List Value} {i:Nat} {m:Str→Option Value},P.Nodup→P[i]?=some x→vs[i]?=some v→kindOf x≠some .local→
    bindC kindOf (P.zip vs) m x=some v
  | [],_,_,_,_,h,_,_=>by simp at h
  | _::_,[],_,_,_,_,h,_=>by simp at h
  | p::P,w::vs,0,m,nd,h1,h2,hk=>by
    simp at h1 h2;subst h1;subst h2;show bindC kindOf ((p,w)::P.zip vs) m p=_;unfold bindC;rw[zjg fun v hv=>(yaW.mp nd).1 (ybS hv).1,if_neg hk];simp
  | p::P,w::vs,i+1,m,nd,h1,h2,hk=>by
    show bindC kindOf ((p,w)::P.zip vs) m x=_;unfold bindC;exact zjh (i:=i) (yaW.mp nd).2 (by simpa using h1) (by simpa using h2) hk
def start (N:List Str)(vs:List V):St:=vs.map some++List.replicate (N.length - vs.length) none
def cxOf (CX:CXT)(P:Program)(w:World)(K:Frag)(mg:Str→Option Value)(base:Heap)(N:List Str)(qual:Str)(scope:Scope)(f:Addr)(cd:Value)(A:Around)(outer:List Env)(s:Shared)(H:Hp)(E:XK):Cx where
  prog:=P
  w:=w
  K:=K
  mg:=mg
  base:=base
  A:=A.deeper (envOfC qual scope s.heap.objs.size f cd)
  N:=N
  s₀:=s
  H₀:=H
  env:=envOfC qual scope s.heap.objs.size f cd
  outer:=outer
  stack:=envOfC qual scope s.heap.objs.size f cd::outer
  ex:=[]
  calm:=true
  fn:=fun _=>true
  pn:=[]
  xe:=fun e s'=>wpAny (model P w) (A.deeper (envOfC qual scope s.heap.objs.size f cd)) (leaving (envOfC qual scope s.heap.objs.size f cd) e) (fun _ s''=>CX outer H s E e s'') (fun e' s''=>CX outer H s E e' s'') s'
theorem zk6 {sc:Scope}{n:Nat}{x:Str}(h:sc.names.lookup x=some .cell):∃ c,(cellsFrom n sc.names []).lookup x=some c:=by
  have q:=PySem.W.cellsFrom_some sc.names n [] (.inl h);exact Option.isSome_iff_exists.mp q
theorem znk {CX:CXT}{P:Program}{w:World}{K:Frag}{mg:Str→Option Value}{base:Heap}{N ps:List Str}{qual:Str}{scope:Scope}{f:Addr}{cd:Value}{A:Around}{outer:List Env}{s s1:Shared}{H:Hp}{E:XK}{us:List Value}{vs:List V}
    (S:zaq N ps scope) (hd:A.handled=none) (e0:Env0 P w K mg base A outer s H) (hl:vs.length=ps.length) (r:Vals vs us)
    (x:InCallC s s.heap.objs.size (bindL (envOfC qual scope s.heap.objs.size f cd).kindOf (ps.zip us) fun _=>none) (cellsFrom (s.heap.objs.size+1) scope.names []) (bindC (envOfC qual scope s.heap.objs.size f cd).kindOf (ps.zip us) fun _=>none) s1) :
    Inv (cxOf CX P w K mg base N qual scope f cd A outer s H E) [] (start N vs) H s1:=by
  have hpl:ps.length≤N.length:=by have:=congrArg List.length S.pre;rw[yaq]at this;omega
  obtain ⟨h1,tk,rfl,hk⟩:=x.done;have noA:∀ b:Addr,b∉(cxOf CX P w K mg base N qual scope f cd A outer s H E).ex:=fun b z=>absurd (show b∈([]:List Addr) from z) (by simp);refine ⟨⟨e0.mod,S.kind,rfl,rfl,yaa _,fun y z c h1 h2=>?_,fun y hy=>?_,fun y c _ h=>?_,fun _=>hd,Around.frames_deeper e0.frames,.inr ⟨rfl,rfl⟩,fun b z=>absurd z (noA b),e0.bs,e0.bsz,fun b _ _=>noA b,fun b z=>absurd z (noA b),e0.funs,e0.frf⟩,
    rfl,e0.bare,Un.kept hk,⟨_,x.toInCall.ns,fun i y v h1 h2 h3=>?_⟩,fun y c h=>⟨_,x.cell y c h⟩,e0.hok.fresh (yaa _),fun y c h=>?_,fun p hp=>absurd (show p∈([]:List (Addr×Obj)) from hp) (by simp),e0.hok.kept hk,?_⟩
  · exact name_of_addr x.apart (PySem.mem_of_lookup h1) (PySem.mem_of_lookup h2)
  · have hy:scope.names.lookup y=some .cell∨scope.names.lookup y=some .free:=hy
    rcases hy with hy | hy
    · exact zk6 hy
    · exact absurd rfl (S.nofree _ (PySem.mem_of_lookup hy))
  · exact ya4 (x.above y c (PySem.mem_of_lookup h))
  · have hi:i < vs.length:=by
      unfold start at h2;by_cases hi:i < vs.length
      · exact hi
      · rw[ybj (by simpa using hi)]at h2
        rw[yct]at h2;split at h2 <;> cases h2
    have ha:vs[i]?=some v:=by
      unfold start at h2;rw[ybp (by simpa using hi),yar]at h2;cases e:vs[i]? with
      | none=>rw[e]at h2;cases h2
      | some a=>rw[e]at h2;cases h2;rfl
    obtain ⟨u,hu,rv⟩:=r.get ha;have hp:ps[i]?=some y:=by
      rw[← S.pre,List.getElem?_take_of_lt (by omega)];exact h1
    have ndP:ps.Nodup:=by rw[← S.pre];exact S.nd.sublist (List.take_sublist _ _)
    refine ⟨u,rv,?_⟩;rcases S.par y (yaE hp) with k | k
    · exact .inl ⟨k,zjf ndP hp hu k⟩
    · obtain ⟨c,e⟩:=zk6 (n:=s.heap.objs.size+1) k
      refine .inr ⟨.inl k,c,e,?_⟩;have q:=x.cell y c e;rw[zjh ndP hp hu (by show scope.names.lookup y≠_;rw[k];decide)]at q;exact q
  · exact e0.hok.fresh (ya4 (x.above y c (PySem.mem_of_lookup h)))
  · unfold start
    show _=N.length;rw[yap,yab,ya9];omega
theorem zsj {CX:CXT}{P:Program}{w:World}{K:Frag}{mg:Str→Option Value}{base:Heap}{k:Nat}{f:Addr}{name qual:Str}{params:Arguments}{body:List Stmt}{scope:Scope}{dV kV doc pm cdv ct oc:Value}{an od:Option Addr}
    {osl:Array (Option Value)} {N ps:List Str} {sp:Sp} (lk:K.lookup f=some ⟨oc,od,.func (fnOf name qual params body scope dV kV doc pm an cdv ct),osl⟩) (hcd:codeIn K cdv qual=true) (S:zaq N ps scope)
    (len:∀ vs H Q E,sp vs H Q E→vs.length=ps.length)
    (hbody:∀(A:Around) (outer:List Env) (s:Shared) (H:Hp) (vs:List V) (Q:VK) (E:XK),Room k (A.deeper (envOfC qual scope s.heap.objs.size f cdv))→sp vs H Q E→
      ∃ t,PSs (cxOf CX P w K mg base N qual scope f cdv A outer s H E) body t∧t { nx:=fun _ H'=>Q .non H',rt:=Q } (start N vs) H) :
    FnOk P w K mg base CX (k+1) f (fnOf name qual params body scope dV kV doc pm an cdv ct) ps sp:=by
  refine ⟨len,fun A outer s H args us vs Q E hr e0 hb r hsp=>?_⟩;have hl:=len _ _ _ _ hsp;have KX:K.In s.heap:=e0.mod.kin.keeps fun b o e=>(e0.bs b o e).1;have lim:s.heap.NoLimit:=e0.mod.nolimit.keeps fun b o e=>(e0.bs b o e).1;have hkind:∀ y∈ps.zip us,scope.names.lookup y.1=some .local∨(scope.names.lookup y.1=some .cell∧((cellsFrom (s.heap.objs.size+1) scope.names []).lookup y.1).isSome=true):=fun ⟨n,v⟩ hy=>by
    rcases S.par n (ybS hy).1 with q | q
    · exact .inl q
    · exact .inr ⟨q,PySem.W.cellsFrom_some _ _ _ (.inl q)⟩
  refine codeAny_call_function hr.depth (KX _ _ lk) rfl S.co S.gen rfl (PySem.W.codeRec_of KX hcd) (hb _ _ _ _ ?_);refine wpAny_newFunctionEnv_cells S.kind hkind fun env he s1 x=>?_;subst he;refine ⟨lim.keeps x.toInCall.keep,codeAny_func ?_⟩;obtain ⟨t,ht,hq⟩:=hbody A outer s H vs Q E (hr.deeper _) hsp;have I:Inv (cxOf CX P w K mg base N qual scope f cdv A outer s H E) [] (start N vs) H s1:=znk S hr.hd e0 hl r x;refine wpAny_mono (ht [] s1 (start N vs) H _ I hq) (fun fl s' hs=>?_) fun e s' hs=>hs;have fin:∀{σ':St} {H':Hp} {v:V} {u:Value},Inv (cxOf CX P w K mg base N qual scope f cdv A outer s H E) [] σ' H' s'→RelV v u→Q v H'→CE outer P w H s Q u s':=
    fun {σ' H' v u} J rv q=>⟨v,H',J.os,J.bare,J.base,J.hok,rv,q⟩
  cases fl with
  | ret u=>
    obtain ⟨v,σ',H',J,rv,q⟩:=hs;exact fin J rv q
  | next=>
    obtain ⟨σ',H',J,q⟩:=hs;exact fin (v:=V.non) (u:=Value.none) J rfl q
  | brk=>
    obtain ⟨_,_,_,q⟩:=hs;exact False.elim q
  | cont=>
    obtain ⟨_,_,_,q⟩:=hs;exact False.elim q
end L2
namespace L2
open PySem PySem.Spec PyProof.Rows
section
variable {X:Cx}{x:Str}{p pos:Pos}{e:Expr}{es:List Expr}{t:TA}{id T:String}{r:List V→Hp→VK→Prop}
def tCB (r:List V→Hp→VK→Prop)(t:TA):TE:=fun σ H Q=>t σ H fun vs H1=>r vs H1 Q
theorem zam (hc:zdA X (.builtin id) r)(hg:Gl X x)(hm:X.mg x=none)(hv:bootBuiltins x=some (.builtin id))(ha:PA X (e::es) t)(hn:x ≠ "__name__":=by decide)(hdb:(x == ("__debug__" : Str))=false:=by decide)
    (he:starEach (e::es) X.env=(false,eval e X.env)::starEach es X.env:=by rfl) (hpl:(backTo pos (starEach es X.env)).any (·.1)=false:=by rfl):PE X (.Call (.Name x p) (e::es) [] pos) (tCB r t):=by
  intro pins s σ H Q I h;refine wpAny_Call_Name_kw (ze1 I hg hm hv ?_ hn hdb);exact PyProof.Rows.callWith_builtin1 (thn (ha pos pins s σ H _ I h) fun us s1 zq0=>(by obtain ⟨vs,H1,I1,r1,q1⟩:=zq0;exact hc pins s1 σ H1 vs us Q I1 r1 q1)) he hpl
theorem zaT (hc:zdA X (.type T) r)(hg:Gl X x)(hm:X.mg x=none)(hv:bootBuiltins x=some (.type T))(ha:PA X (e::es) t)(hn:x ≠ "__name__":=by decide)(hdb:(x == ("__debug__" : Str))=false:=by decide)
    (he:starEach (e::es) X.env=(false,eval e X.env)::starEach es X.env:=by rfl) (hpl:(backTo pos (starEach es X.env)).any (·.1)=false:=by rfl):PE X (.Call (.Name x p) (e::es) [] pos) (tCB r t):=by
  intro pins s σ H Q I h;refine wpAny_Call_Name_kw (ze1 I hg hm hv ?_ hn hdb);exact PyProof.Rows.callWith_type1 (thn (ha pos pins s σ H _ I h) fun us s1 zq0=>(by obtain ⟨vs,H1,I1,r1,q1⟩:=zq0;exact hc pins s1 σ H1 vs us Q I1 r1 q1)) he hpl
end
end L2
namespace HT
open PySem PyProof.Rows
section
variable {prog:Program}{w:World}{A:Around}{E:Value→Shared→Prop}{s:Shared}
theorem cat_tup {t b:Addr}{vs ws:List Value}{Q:Value→Shared→Prop}(ht:IsTup s.heap t vs.toArray)(hb:IsTup s.heap b ws.toArray)(hv:vs≠[])
    (h1:ws=[]→Q (.ref t) s) (h2:ws≠[]→Q (.ref s.heap.objs.size) { s with heap:=s.heap.push { cls:=.type "tuple",data:=.seq (vs++ws).toArray } })
    (hsz:vs.length+ws.length≤sizeLine):wpAny (model prog w) A (binaryOp .Add (.ref t) (.ref b)) Q E s:=by
  obtain ⟨⟨cls,dd,data,sl⟩,ho,hc,n,hd⟩:=id ht;obtain ⟨⟨cls2,dd2,data2,sl2⟩,ho2,hc2,n2,hd2⟩:=id hb;simp only at hc hd hc2 hd2;subst hc hd hc2 hd2;have e:vs.toArray++ws.toArray=(vs++ws).toArray:=by simp
  by_cases hw:ws=[]
  · exact concat_meets ⟨_,ho,rfl⟩ ⟨_,ho2,rfl⟩ noFill_tuple_add seq_tuple_add PySem.F.slot_tuple_add PySem.F.entry_tuple_add (PySem.F.args_tuple_add_2 _ _)
      (tuple_addW1 t b vs.toArray ws.toArray n n2 dd dd2 sl sl2 (by simpa using hv) (by simp[hw])) ⟨ho,ho2,h1 hw⟩
  · refine concat_meets ⟨_,ho,rfl⟩ ⟨_,ho2,rfl⟩ noFill_tuple_add seq_tuple_add PySem.F.slot_tuple_add PySem.F.entry_tuple_add (PySem.F.args_tuple_add_2 _ _)
      (tuple_addW2 t b vs.toArray ws.toArray n n2 dd dd2 sl sl2 (by simpa using hv) (by simpa using hw) (by rw[yav,yav];exact hsz)) ⟨ho,ho2,?_⟩
    rw[e];exact h2 hw
def sIx (n d:Nat):Option Int→Nat
  | none=>d
  | some v=>if v < 0 then (v+(n:Int)).toNat else min v.toNat n
theorem zcY (n d k:Nat):sIx n d (some (k:Int))=min k n:=by
  show (if (k:Int) < 0 then ((k:Int)+(n:Int)).toNat else min (k:Int).toNat n)=min k n
  rw[if_neg (by omega),ya5]
theorem zrv (n d:Nat)(hd:d≤n)(o:Option Int):sIx n d o≤n:=by
  cases o with
  | none=>exact hd
  | some v=>
    show (if v < 0 then (v+(n:Int)).toNat else min v.toNat n)≤n
    by_cases hv:v < 0
    · rw[if_pos hv];omega
    · rw[if_neg hv];exact Nat.min_le_right _ _
theorem znJ (v:Int)(n d:Nat):(if v < 0 then max (v+(n:Int)) 0 else min v (n:Int))=((sIx n d (some v):Nat):Int):=by
  show (if v < 0 then max (v+(n:Int)) 0 else min v (n:Int))=(((if v < 0 then (v+(n:Int)).toNat else min v.toNat n):Nat):Int)
  by_cases hv:v < 0
  · simp only[if_pos hv];omega
  · simp only[if_neg hv];omega
theorem zlS (lo hi:Option Int)(n:Nat):Builtin.Slice.sliceAdjust lo hi 1 (n:Int)=(((sIx n 0 lo:Nat):Int),((sIx n n hi:Nat):Int)):=by
  have h1:¬ ((1:Int) < 0):=by omega
  unfold Builtin.Slice.sliceAdjust;simp only[h1,if_false];refine Prod.ext ?_ ?_
  · cases lo with
    | none=>rfl
    | some v=>exact znJ v n 0
  · cases hi with
    | none=>rfl
    | some v=>exact znJ v n n
theorem zlo (i j:Nat):Builtin.Slice.slicePlaces (i:Int) (j:Int) 1=j - i:=by
  unfold Builtin.Slice.slicePlaces;have h1:(1:Int) > 0:=by omega
  simp only[h1,if_true,Int.ediv_one];split <;> omega
theorem zgZ {v:Value}{o:Option Int}{Q:Option Int→Shared→Prop}(p:IsPart v o)(h:Q o s):wpAny (model prog w) A (Builtin.Slice.slicePartIndex v) Q E s:=by
  cases p with
  | none=>exact slicePart_none h
  | int i t=>exact slicePart_int h
theorem zdw {sl:Addr}{vl vu:Value}{lo hi:Option Int}{n:Nat}{Q:Int×Int×Nat→Shared→Prop}(hs:s.heap.IsSliceOf sl vl vu .none)(pl:IsPart vl lo)(pu:IsPart vu hi)
    (h:Q (((sIx n 0 lo:Nat):Int),1,sIx n n hi - sIx n 0 lo) s):wpAny (model prog w) A (Builtin.Slice.sliceApplied (.ref sl) (pure (n:Int))) Q E s:=by
  obtain ⟨os,hos,hcs,hds⟩:=id hs;unfold Builtin.Slice.sliceApplied Builtin.Slice.sliceFields;refine wpAny_bind (wpAny_bind (wpAny_field hos hds (x:=vl) rfl (wpAny_bind (wpAny_field hos hds (x:=vu) rfl (wpAny_bind (wpAny_field hos hds (x:=.none) rfl (wpAny_pure ?_)))))));refine wpAny_bind (slicePart_none ?_);show wpAny _ _ (if ((1:Int) == 0)=true then _ else _) _ _ s
  rw[if_neg (by decide)];refine wpAny_bind (zgZ pl (wpAny_bind (zgZ pu (wpAny_bind (wpAny_pure ?_)))));show wpAny _ _ (match Builtin.Slice.sliceAdjust lo hi 1 (n:Int) with | (lo,hi)=>pure (lo,(1:Int),Builtin.Slice.slicePlaces lo hi 1)) _ _ s
  rw[zlS lo hi n];show wpAny _ _ (pure (((sIx n 0 lo:Nat):Int),(1:Int),Builtin.Slice.slicePlaces ((sIx n 0 lo:Nat):Int) ((sIx n n hi:Nat):Int) 1)) _ _ s;rw[zlo];exact wpAny_pure h
theorem zoh (xs:Array Value)(i k:Nat):((List.range k).filterMap fun (m:Nat)=>xs[((i:Int)+(m:Int) * 1).toNat]?).toArray=((xs.toList.drop i).take k).toArray:=by
  have e:(fun (m:Nat)=>xs[((i:Int)+(m:Int) * 1).toNat]?)=fun m=>xs[i+m]?:=by
    funext m
    have:((i:Int)+(m:Int) * 1).toNat=i+m:=by omega
    rw[this]
  rw[e];have:=pick_run xs i k;rw[List.filterMap_map]at this;have e2:((fun x=>xs[x]?) ∘ fun x=>i+x)=fun m=>xs[i+m]?:=rfl;rw[e2]at this;rw[this]
theorem getItem_tuple_cut {t sl:Addr}{items:Array Value}{vl vu:Value}{lo hi:Option Int}{Q:Value→Shared→Prop}(ht:IsTup s.heap t items)(hs:s.heap.IsSliceOf sl vl vu .none)(pl:IsPart vl lo)(pu:IsPart vu hi)
    (hw:¬ (sIx items.size 0 lo=0∧sIx items.size items.size hi=items.size))
    (h:Q (.ref s.heap.objs.size) { s with heap:=s.heap.push { cls:=.type "tuple",data:=.seq ((items.toList.drop (sIx items.size 0 lo)).take (sIx items.size items.size hi - sIx items.size 0 lo)).toArray } })
    (hsz:items.size≤sizeLine):wpAny (model prog w) A (getItem (.ref t) (.ref sl)) Q E s:=by
  have htake:sizeOk (.seq ((items.toList.drop (sIx items.size 0 lo)).take (sIx items.size items.size hi - sIx items.size 0 lo)).toArray):=by
    show ((items.toList.drop (sIx items.size 0 lo)).take (sIx items.size items.size hi - sIx items.size 0 lo)).toArray.size≤sizeLine;rw[yav,yaq,yaR,yax];omega
  have hj:sIx items.size items.size hi≤items.size:=zrv _ _ (yaa _) hi;obtain ⟨os,hos,hcs,hds⟩:=id hs;have hTs:s.TypeIs (.ref sl) "slice":=⟨os,hos,hcs⟩;unfold getItem
  try with_reducible refine wpAny_holding ?_
  first | refine wpAny_bind (wpAny_pure ?_) | skip
  refine wpAny_bind (wpAny_sequenceKey ht.typeIs (by decide) ?_);refine wpAny_bind (wpAny_callSpecial?_slot (name:=Str.ofString "__getitem__") ht.typeIs PyProof.Rows.slot_tuple_getitem
    (wpAny_call_entry PyProof.Rows.slot_tuple_getitem ht.typeIs entry_tuple_getitem ?_ (args_tuple_getitem _ _)))
  show wpAny _ _ (Builtin.Tuple.tupleItemsOf (.ref t) >>= _) _ _ s;refine wpAny_bind (tupleItemsOf_ ht ?_);refine wpAny_bind (wpAny_typeOf hTs ?_);rw[if_pos (by decide)];refine wpAny_bind (zdw hs pl pu ?_);have hno:¬ ((((sIx items.size 0 lo:Nat):Int) == 0 && (1:Int) == 1 && (sIx items.size items.size hi - sIx items.size 0 lo) == items.size)=true):=by
    intro q;rw[ybk,ybk]at q;have q1:((sIx items.size 0 lo:Nat):Int)=0:=eq_of_beq q.1.1;have q2:sIx items.size items.size hi - sIx items.size 0 lo=items.size:=eq_of_beq q.2;exact hw ⟨by omega,by omega⟩
  show wpAny _ _ (if (((sIx items.size 0 lo:Nat):Int) == 0 && (1:Int) == 1 && (sIx items.size items.size hi - sIx items.size 0 lo) == items.size)=true then _ else _) _ _ s
  rw[if_neg hno,zoh]
  first
    | exact wpAny_bind (m:=Builtin.Tuple.tupleExact _) (wpAny_newObj_type (wpAny_pure ⟨_,rfl,wpAny_pure h⟩) htake)
    | exact wpAny_bind (m:=Builtin.Tuple.tupleExact _) (wpAny_newObj_type (wpAny_bind (wpAny_pure (wpAny_pure ⟨_,rfl,wpAny_pure h⟩))) htake)
    | exact wpAny_bind (wpAny_bind (m:=Builtin.Tuple.tupleExact _) (wpAny_newObj_type (wpAny_pure (wpAny_pure ⟨_,rfl,wpAny_pure h⟩)) htake))
    | exact wpAny_bind (wpAny_bind (m:=Builtin.Tuple.tupleExact _) (wpAny_newObj_type (wpAny_pure ⟨_,rfl,wpAny_pure h⟩) htake))
end
end HT
namespace L2
open PySem PySem.Spec PyProof.Rows
abbrev TO:=St→Hp→(Option Int→Hp→Prop)→Prop
def PO (X:Cx)(e:Option Expr)(t:TO):Prop:=
  ∀(pins:List (Addr×Obj)) (s:Shared) (σ:St) (H:Hp) (Q:Option Int→Hp→Prop),Inv X pins σ H s→t σ H Q→
    wpAny (model X.prog X.w) X.A (evalPart e X.env) (fun u s'=>∃ o H',Inv X pins σ H' s'∧IsPart u o∧Q o H') X.xe s
def zjs:TO:=fun _ H Q=>Q none H
def zmf (t:TE):TO:=fun σ H Q=>t σ H fun x H1=>∃ i,x=.int i∧Q (some i) H1
section
variable {X:Cx}{e:Expr}{te:TE}{lo hi:Option Expr}{tl th:TO}{pos p2:Pos}
theorem zfp:PO X none zjs:=by
  intro pins s σ H Q I h;rw[evalPart_none];exact wpAny_pure ⟨none,H,I,.none,h⟩
theorem zbv (h:PE X e te):PO X (some e) (zmf te):=by
  intro pins s σ H Q I hw;rw[evalPart_some];refine thn (h pins s σ H _ I hw) fun u s1 zq0=>?_;obtain ⟨x,H1,I1,r1,q1⟩:=zq0;obtain ⟨i,rfl,q⟩:=q1;obtain ⟨t,rfl⟩:=r1;exact ⟨some i,H1,I1,.int i t,q⟩
def SlR (X:Cx)(r:V→Option Int→Option Int→Hp→VK→Prop):Prop:=
  ∀(pins:List (Addr×Obj)) (s:Shared) (σ:St) (H:Hp) (x:V) (v vl vu:Value) (lo hi:Option Int) (sl:Addr) (Q:VK),Inv X pins σ H s→RelV x v→s.heap.IsSliceOf sl vl vu .none→IsPart vl lo→IsPart vu hi→r x lo hi H Q→
    ∃ T id,typeLookup (.type T) "__getitem__" = pure (some (.builtin id))∧s.TypeIs v T∧wpAny (model X.prog X.w) X.A (getItem v (.ref sl)) (EP X pins σ Q) X.xe s
def tSl (r:V→Option Int→Option Int→Hp→VK→Prop)(te:TE)(tl th:TO):TE:=fun σ H Q=>te σ H fun x H1=>tl σ H1 fun l H2=>th σ H2 fun u H3=>r x l u H3 Q
theorem zbR {r:V→Option Int→Option Int→Hp→VK→Prop}(hr:SlR X r)(he:PE X e te)(hl:PO X lo tl)(hu:PO X hi th):PE X (.Subscript e (.Slice lo hi none p2) pos) (tSl r te tl th):=by
  intro pins s σ H Q I h;refine Subscript_ (thn (he pins s σ H _ I h) fun v s1 zq0=>?_);obtain ⟨x,H1,I1,r1,q1⟩:=zq0;refine wpAny_Slice (thn (hl pins s1 σ H1 _ I1 q1) fun vl s2 zq0=>?_);obtain ⟨l,H2,I2,pl,q2⟩:=zq0;refine thn (hu pins s2 σ H2 _ I2 q2) fun vu s3 zq1=>?_;obtain ⟨u,H3,I3,pu,q3⟩:=zq1;rw[evalPart_none];refine wpAny_pure ?_;have I4:Inv X pins σ H3 { s3 with heap:=s3.heap.push { cls:=.type "slice",data:=.fields #[vl,vu,.none] } }:=I3.kept (t':=s3.toks) fun b ob q=>yai _ q;obtain ⟨T,id,hT,ht,hg⟩:=hr pins { s3 with heap:=s3.heap.push { cls:=.type "slice",data:=.fields #[vl,vu,.none] } } σ H3 x v vl vu l u s3.heap.objs.size Q I4 r1 (Heap.IsSliceOf.new ..) pl pu q3;show wpAny (model X.prog X.w) X.A (subscriptTail e (.Slice lo hi none p2) v (.ref s3.heap.objs.size)) (EP X pins σ Q) X.xe { s3 with heap:=s3.heap.push { cls:=.type "slice",data:=.fields #[vl,vu,.none] } };exact tail_any (ops:=[.ref s3.heap.objs.size,v]) ht hT hg (by with_unfolding_all rfl)
def cutV (xs:List V)(lo hi:Option Int):List V:=(xs.drop (HT.sIx xs.length 0 lo)).take (HT.sIx xs.length xs.length hi - HT.sIx xs.length 0 lo)
theorem zgA (xs:List V)(lo hi:Option Int):(cutV xs lo hi).length≤xs.length:=by
  unfold cutV;rw[yaq,yaR];omega
def rSlT (K:Frag):V→Option Int→Option Int→Hp→VK→Prop:=fun x lo hi H Q=>∃ a xs,x=.ref a∧SqT K H a xs∧
  ¬ (HT.sIx xs.length 0 lo=0∧HT.sIx xs.length xs.length hi=xs.length)∧∀ p,H p=none→Q (.ref p) (upd H p (.tup (cutV xs lo hi)))
theorem zru:SlR X (rSlT X.K):=by
  intro pins s σ H x v vl vu lo hi sl Q I rx hs pl pu h;obtain ⟨a,xs,rfl,hx,hw,q⟩:=h;cases rx
  obtain ⟨its,r,ht,hz⟩:=I.tuple hx;have hlen:its.toArray.size=xs.length:=by rw[yav];exact r.length.symm
  refine ⟨"tuple",_,PyProof.Rows.slot_tuple_getitem.lookup,ht.typeIs,?_⟩;refine HT.getItem_tuple_cut ht hs pl pu (by rw[hlen];exact hw) ?_ (by rw[hlen];exact hz);rw[hlen];refine ⟨.ref s.heap.objs.size,_,I.laid (t':=s.toks) (o:=.tup (cutV xs lo hi)) (fun b ob q=>yai _ q) (yaa _) ?_,rfl,q _ (I.hok.fresh (yaa _))⟩;exact ⟨yao (zgA xs lo hi) hz,_,(r.drop (HT.sIx xs.length 0 lo)).take (HT.sIx xs.length xs.length hi - HT.sIx xs.length 0 lo),IsTup.new _ _⟩
def zp6 (K:Frag):R2:=fun x y H Q=>∃ a b xs ys,x=.ref a∧y=.ref b∧SqT K H a xs∧SqT K H b ys∧xs≠[]∧xs.length+ys.length≤sizeLine∧
  (ys=[]→Q (.ref a) H)∧(ys≠[]→∀ p,H p=none→Q (.ref p) (upd H p (.tup (xs++ys))))
theorem Vals.nil_iff {xs:List V}{us:List Value}(r:Vals xs us):us=[]↔xs=[]:=by
  cases r with
  | nil=>simp
  | cons _ _=>simp
theorem zhW:OpR X (binaryOp .Add) (zp6 X.K):=by
  intro pins s σ H x y v u Q I rx ry h;obtain ⟨a,b,xs,ys,rfl,rfl,ha,hb,hx,hz,q1,q2⟩:=h;cases rx
  cases ry
  obtain ⟨its,r1,p1,_⟩:=I.tuple ha;obtain ⟨its2,r2,p2,_⟩:=I.tuple hb;refine HT.cat_tup p1 p2 (fun z=>hx (r1.nil_iff.mp z)) (fun z=>⟨.ref a,H,I,rfl,q1 (r2.nil_iff.mp z)⟩) (fun z=>?_) (by rw[← r1.length,← r2.length];exact hz);refine ⟨.ref s.heap.objs.size,_,I.laid (t':=s.toks) (o:=.tup (xs++ys)) (fun b ob q=>yai _ q) (yaa _) ?_,rfl,q2 (fun w=>z (r2.nil_iff.mpr w)) _ (I.hok.fresh (yaa _))⟩;exact ⟨by rw[yap];exact hz,_,r1.append r2,IsTup.new _ _⟩
end
end L2
namespace L2
open PySem PySem.Spec PyProof.Rows
def ixN (n:Nat)(i:Int):Option Nat:=if 0≤i then (if i < n then some i.toNat else none) else if -(n:Int)≤i then some (i+n).toNat else none
def atI {α:Type}(xs:List α)(i:Int):Option α:=(ixN xs.length i).bind fun j=>xs[j]?
theorem zni {n:Nat}{i:Int}{j:Nat}(h:ixN n i=some j):seqIndex? i n=some j∧j < n∧-(n:Int)≤i∧i < n:=by
  unfold ixN at h;by_cases h0:0≤i
  · rw[if_pos h0]at h
    by_cases h1:i < n
    · rw[if_pos h1]at h
      have e:i.toNat=j:=yad h;exact ⟨by rw[seqIndex_of h0 h1,e],by omega,by omega,h1⟩
    · rw[if_neg h1]at h;cases h
  · rw[if_neg h0]at h
    by_cases h1:-(n:Int)≤i
    · rw[if_pos h1]at h
      have e:(i+n).toNat=j:=yad h;exact ⟨by rw[seqIndex_neg (by omega) h1,e],by omega,h1,by omega⟩
    · rw[if_neg h1]at h;cases h
theorem znR {α:Type}{xs:List α}{i:Int}{v:α}(h:atI xs i=some v):∃ j,seqIndex? i xs.length=some j∧xs[j]?=some v∧j < xs.length∧-(xs.length:Int)≤i∧i < xs.length:=by
  unfold atI at h;cases e:ixN xs.length i with
  | none=>rw[e]at h;cases h
  | some j=>
    rw[e]at h;obtain ⟨h1,h2,h3,h4⟩:=zni e;exact ⟨j,h1,h,h2,h3,h4⟩
theorem zeu {α:Type}{xs:List α}{j:Nat}{v:α}(h:xs[j]?=some v):atI xs (j:Int)=some v:=by
  have hj:j < xs.length:=(yak.mp h).1;have e:ixN xs.length (j:Int)=some j:=by
    unfold ixN;rw[if_pos (by omega),if_pos (by omega)];simp
  unfold atI;rw[e];exact h
def zrb (b:Expr):Prop:=∀ o i,subscripted b false o i=operate [o,i] (getItem o i)
def IxR (X:Cx)(r:R2):Prop:=
  ∀(value slice:Expr) (pins:List (Addr×Obj)) (s:Shared) (σ:St) (H:Hp) (x y:V) (v u:Value) (Q:VK),Inv X pins σ H s→RelV x v→RelV y u→r x y H Q→
    subscripted slice false v u=operate [v,u] (getItem v u)→wpAny (model X.prog X.w) X.A (subscriptTail value slice v u) (EP X pins σ Q) X.xe s
def MtR (X:Cx)(id:String)(r:V→List V→Hp→VK→Prop):Prop:=
  ∀(pins:List (Addr×Obj)) (s:Shared) (σ:St) (H:Hp) (x:V) (xs:List V) (v:Value) (us:List Value) (Q:VK),Inv X pins σ H s→RelV x v→Vals xs us→r x xs H Q→
    wpAny (model X.prog X.w) X.A (call (.builtin id) (v::us)) (EP X pins σ Q) X.xe s
section
variable {X:Cx}{a b:Expr}{ta tb:TE}{pos:Pos}
theorem zaD {r:R2}(hr:IxR X r)(ha:PE X a ta)(hb:PE X b tb)(hs:zrb b):PE X (.Subscript a b pos) (tOp r ta tb):=by
  intro pins s σ H Q I h;exact Subscript_ (binT ha hb I h fun v u s2 x y H2 I2 rx ry q=>hr a b pins s2 σ H2 x y v u Q I2 rx ry q (hs _ _))
def rIxL (K:Frag):R2:=fun x y H Q=>∃ p xs i v,x=.ref p∧y=.int i∧SqL K H p xs∧atI xs i=some v∧Q v H
def rIxT (K:Frag):R2:=fun x y H Q=>∃ p xs i v,x=.ref p∧y=.int i∧SqT K H p xs∧atI xs i=some v∧Q v H
theorem zaI:IxR X (rIxL X.K):=by
  intro value slice pins s σ H x y v u Q I rx ry h hs;obtain ⟨p,xs,i,z,rfl,rfl,hq,he,q⟩:=h;cases rx
  obtain ⟨t,rfl⟩:=ry;obtain ⟨its,r,pl,hz⟩:=I.list hq;obtain ⟨j,h1,h2,h3,h4,h5⟩:=znR he;obtain ⟨w,ew,rw'⟩:=r.get h2;have hl:=r.length;have hn:=zkR;have fin:EP X pins σ Q w s:=⟨z,H,I,rw',q⟩;by_cases h0:0≤i
  · have hj:i.toNat=j:=by
      rw[seqIndex_of h0 h5]at h1;exact yad h1
    exact item_listR pl.isList h0 (by omega) (by rw[hj];simpa using ew) fin hs
  · have hj:(i+(its.toArray.size:Int)).toNat=j:=by
      rw[seqIndex_neg (by omega) h4]at h1;rw[yav,← hl];exact yad h1
    exact subscriptTail_builtinR (x:=w) pl.isList.typeIs slot_list_getitem.lookup
      (wpAny_getItem_list_neg (Q:=fun r s'=>r=w∧EP X pins σ Q r s') pl.isList (by omega) (by rw[yav] <;> omega) (by omega) (by rw[hj];simpa using ew) ⟨rfl,fin⟩) hs
theorem zaO:IxR X (rIxT X.K):=by
  intro value slice pins s σ H x y v u Q I rx ry h hs;obtain ⟨p,xs,i,z,rfl,rfl,hq,he,q⟩:=h;cases rx
  obtain ⟨t,rfl⟩:=ry;obtain ⟨its,r,pl,hz⟩:=I.tuple hq;obtain ⟨j,h1,h2,h3,h4,h5⟩:=znR he;obtain ⟨w,ew,rw'⟩:=r.get h2;have hl:=r.length;have hn:=zkR;have fin:EP X pins σ Q w s:=⟨z,H,I,rw',q⟩;exact subscriptTail_builtinR (x:=w) pl.typeIs slot_tuple_getitem.lookup
    (getItem_tuple (j:=j) (Q:=fun r s'=>r=w∧EP X pins σ Q r s') pl (by omega) (by omega) (by rw[yav,← hl];exact h1) (by simpa using ew) ⟨rfl,fin⟩) hs
theorem zlE (its:List Value)(n j:Nat)(u:Value):Obj.mapSeq (·.setIfInBounds j u) { cls:=.type "list",data:=.seq its.toArray n }={ cls:=.type "list",data:=.seq (its.set j u).toArray n }:=by
  simp[Obj.mapSeq]
theorem Inv.lst {pins:List (Addr×Obj)}{σ:St}{H:Hp}{s:Shared}{p:Addr}{xs:List V}(I:Inv X pins σ H s)(h:H p=some (.lst xs)) :
    ∃(its:List Value) (n:Nat),Vals xs its∧s.heap.get? p=some { cls:=.type "list",data:=.seq its.toArray n }∧xs.length≤sizeLine:=by
  obtain ⟨z,its,n,r,e⟩:=I.hok p _ h;exact ⟨its,n,r,e,z⟩
theorem Inv.lstUpd {pins:List (Addr×Obj)}{σ:St}{H:Hp}{s:Shared}{p:Addr}{xs ys:List V}{its its':List Value}{n n':Nat}{f:Obj→Obj}(I:Inv X pins σ H s)(h:H p=some (.lst xs))
    (ho:s.heap.get? p=some { cls:=.type "list",data:=.seq its.toArray n }) (hf:f { cls:=.type "list",data:=.seq its.toArray n }={ cls:=.type "list",data:=.seq its'.toArray n' }) (r:Vals ys its') (hz:ys.length≤sizeLine) (t:Nat) :
    Inv X pins σ (upd H p (.lst ys)) { s with heap:=s.heap.update p f,toks:=t }:=by
  have e:(s.heap.update p f).get? p=some { cls:=.type "list",data:=.seq its'.toArray n' }:=by
    rw[Heap.get?_update_self f ho (by rw[hf] <;> rfl),hf]
  refine I.write (x:=p) (e:=p) (by rw[h];trivial) (.inl rfl) (fun b u hb q=>(ybx _ _ (Ne.symm hb)).trans q) ⟨_,e⟩ ?_;exact ⟨hz,its',n',r,e⟩
def zsI:V→V→V→Hp→(Hp→Prop)→Prop:=fun o i v H Q=>∃ p xs k j,o=.ref p∧i=.int k∧H p=some (.lst xs)∧ixN xs.length k=some j∧Q (upd H p (.lst (xs.set j v)))
theorem zck:PSet X zsI:=by
  intro pins s σ H o i v ov iv u Q I ro ri rv h;obtain ⟨p,xs,k,j,rfl,rfl,hp,hj,q⟩:=h;cases ro
  obtain ⟨t,rfl⟩:=ri;obtain ⟨its,n,r,ho,hz⟩:=I.lst hp;obtain ⟨h1,h2,h3,h4⟩:=zni hj;have hl:=r.length;have hn:=zkR;have I':Inv X pins σ (upd H p (.lst (xs.set j v))) { s with heap:=s.heap.update p (Obj.mapSeq (·.setIfInBounds j u)) }:=
    I.lstUpd hp ho (zlE its n j u) (r.set rv j) (by rw[ybT];exact hz) s.toks
  by_cases h0:0≤k
  · have hk:k.toNat=j:=by
      rw[seqIndex_of h0 h4]at h1;exact yad h1
    exact PySem.W.ki_setAt ho h0 (by omega) (by rw[yav,← hl];exact h4) (by rw[hk];exact ⟨_,I',q⟩)
  · have hk:(k+(its.toArray.size:Int)).toNat=j:=by
      rw[seqIndex_neg (by omega) h3]at h1;rw[yav,← hl];exact yad h1
    exact PySem.W.ki_setBack ho (by omega) (by rw[yav,← hl];exact h3) (by omega) (by rw[hk];exact ⟨_,I',q⟩)
theorem ziF (lo hi:Option Int)(n:Nat):(sliceBounds lo hi none n).1=((HT.sIx n 0 lo:Nat):Int)∧(sliceBounds lo hi none n).2.1=((HT.sIx n n hi:Nat):Int)∧(sliceBounds lo hi none n).2.2=1:=by
  refine ⟨?_,?_,rfl⟩
  · cases lo with
    | none=>simp[sliceBounds,HT.sIx]
    | some i=>
      simp only[sliceBounds,HT.sIx,Option.getD_none,show (1:Int) > 0 by decide,if_true];by_cases h:i < 0
      · simp only[h,if_true] <;> omega
      · simp only[h,if_false] <;> omega
  · cases hi with
    | none=>simp[sliceBounds,HT.sIx]
    | some i=>
      simp only[sliceBounds,HT.sIx,Option.getD_none,show (1:Int) > 0 by decide,if_true];by_cases h:i < 0
      · simp only[h,if_true] <;> omega
      · simp only[h,if_false] <;> omega
theorem zhF (its:List Value)(lo hi:Option Int):slicePick its.toArray lo hi none=((its.drop (HT.sIx its.length 0 lo)).take (HT.sIx its.length its.length hi - HT.sIx its.length 0 lo)).toArray:=by
  obtain ⟨h1,h2,h3⟩:=ziF lo hi its.toArray.size;unfold slicePick;rw[h1,h2,h3];simp only[sliceRange_one,pick_run,yav] <;> rfl
def rSlL (K:Frag):V→Option Int→Option Int→Hp→VK→Prop:=fun x lo hi H Q=>∃ a xs,x=.ref a∧SqL K H a xs∧∀ p,H p=none→Q (.ref p) (upd H p (.lst (cutV xs lo hi)))
theorem zgg:SlR X (rSlL X.K):=by
  intro pins s σ H x v vl vu lo hi sl Q I rx hs pl pu h;obtain ⟨a,xs,rfl,hx,q⟩:=h;cases rx
  obtain ⟨its,r,ht,hz⟩:=I.list hx;have hlen:=r.length;refine ⟨"list",_,slot_list_getitem.lookup,ht.isList.typeIs,?_⟩;refine wpAny_getItem_list_slice ht.isList hs pl pu .none (by simp) ?_ (by rw[yav] <;> omega)
  rw[zhF,← hlen];refine ⟨.ref s.heap.objs.size,_,I.laid (t':=s.toks) (o:=.lst (cutV xs lo hi)) (fun b ob q=>yai _ q) (yaa _) ?_,rfl,q _ (I.hok.fresh (yaa _))⟩;exact ⟨yao (zgA xs lo hi) hz,_,0,(r.drop (HT.sIx xs.length 0 lo)).take (HT.sIx xs.length xs.length hi - HT.sIx xs.length 0 lo),yaB _ rfl⟩
def zfu:V→Bool
  | .non=>true
  | .bl _=>true
  | .int _=>true
  | .str _=>true
  | _=>false
def eqV:V→V→Bool
  | .non,.non=>true
  | .bl a,.bl b=>a == b
  | .bl a,.int b=>(if a then 1 else 0) == b
  | .int a,.bl b=>a == (if b then 1 else 0)
  | .int a,.int b=>a == b
  | .str a,.str b=>a == b
  | _,_=>false
theorem zsp {A:Around}{s:Shared}{y x:V}{u v:Value}(ry:RelV y u)(rx:RelV x v)(fy:zfu y=true)(fx:zfu x=true):SeqAt.EqAt A s u v (eqV y x):=by
  cases y with
  | non=>
    cases ry
    cases x with
    | non=>cases rx;exact SeqAt.EqAt.same _
    | bl b=>cases rx;exact SeqAt.EqAt.none_bool b
    | int b=>obtain ⟨t,rfl⟩:=rx;exact SeqAt.EqAt.none_int b t
    | str b=>obtain ⟨t,rfl⟩:=rx;exact SeqAt.EqAt.none_str b t
    | _=>exact absurd (show false=true from fx) yaA
  | bl a=>
    cases ry
    cases x with
    | non=>cases rx;exact SeqAt.EqAt.bool_none a
    | bl b=>cases rx;exact SeqAt.EqAt.bool_bool a b
    | int b=>obtain ⟨t,rfl⟩:=rx;exact SeqAt.EqAt.bool_int a b t
    | str b=>obtain ⟨t,rfl⟩:=rx;exact SeqAt.EqAt.bool_str a b t
    | _=>exact absurd (show false=true from fx) yaA
  | int a=>
    obtain ⟨t',rfl⟩:=ry;cases x with
    | non=>cases rx;exact SeqAt.EqAt.int_none a t'
    | bl b=>cases rx;exact SeqAt.EqAt.int_bool a t' b
    | int b=>obtain ⟨t,rfl⟩:=rx;exact SeqAt.EqAt.int_int a t' b t
    | str b=>obtain ⟨t,rfl⟩:=rx;exact SeqAt.EqAt.int_str a t' b t
    | _=>exact absurd (show false=true from fx) yaA
  | str a=>
    obtain ⟨t',rfl⟩:=ry;cases x with
    | non=>cases rx;exact SeqAt.EqAt.str_none a t'
    | bl b=>cases rx;exact SeqAt.EqAt.str_bool a t' b
    | int b=>obtain ⟨t,rfl⟩:=rx;exact SeqAt.EqAt.str_int a t' b t
    | str b=>obtain ⟨t,rfl⟩:=rx;exact SeqAt.EqAt.str_str a t' b t
    | _=>exact absurd (show false=true from fx) yaA
  | _=>exact absurd (show false=true from fy) yaA
def eqU (x:V)(u:Value):Bool:=match u with
  | .none=>eqV .non x
  | .bool b=>eqV (.bl b) x
  | .int i _=>eqV (.int i) x
  | .str z _=>eqV (.str z) x
  | _=>false
theorem zpH {x y:V}{u:Value}(r:RelV y u)(f:zfu y=true):eqU x u=eqV y x:=by
  cases y with
  | non=>cases r;rfl
  | bl b=>cases r;rfl
  | int i=>obtain ⟨t,rfl⟩:=r;rfl
  | str z=>obtain ⟨t,rfl⟩:=r;rfl
  | _=>exact absurd (show false=true from f) yaA
theorem zgM {x:V}:∀{xs:List V} {us:List Value},Vals xs us→xs.all zfu=true→us.any (eqU x)=xs.any fun y=>eqV y x
  | _,_,.nil,_=>rfl
  | y::xs,u::us,.cons r t,f=>by
    rw[ybU,ybk]at f;rw[ybf,ybf,zpH r f.1,zgM t f.2]
theorem zeY {A:Around}{s:Shared}{x:V}{v:Value}(rx:RelV x v)(fx:zfu x=true):∀{xs:List V} {us:List Value},Vals xs us→xs.all zfu=true→∀ u∈us,SeqAt.EqAt A s u v (eqU x u)
  | _,_,.nil,_=>fun u hu=>by cases hu
  | y::xs,u::us,.cons r t,f=>fun u' hu=>by
    rw[ybU,ybk]at f;rcases yam.mp hu with rfl | hu
    · rw[zpH r f.1];exact zsp r rx f.1 fx
    · exact zeY rx fx t f.2 u' hu
def inV (x:V)(xs:List V):Bool:=xs.any fun y=>eqV y x
def rIn (K:Frag)(neg:Bool):R2:=fun x y H Q=>∃ p xs,y=.ref p∧(SqL K H p xs∨SqT K H p xs)∧zfu x=true∧xs.all zfu=true∧Q (.bl (if neg then !inV x xs else inV x xs)) H
theorem ziO:OpR X (compareOp .In) (rIn X.K false):=by
  intro pins s σ H x y v u Q I rx ry h;obtain ⟨p,xs,rfl,hq,fx,fs,q⟩:=h;cases ry
  rcases hq with hq | hq
  · obtain ⟨its,r,pl,hz⟩:=I.list hq
    refine SeqAt.in_listAt (eqU x) pl.isList (fun w hw=>zeY rx fx r fs w (by simpa using hw)) ⟨.bl _,H,I,rfl,?_⟩;rw[show its.toArray.any (eqU x)=its.any (eqU x) by simp,zgM r fs];exact q
  · obtain ⟨its,r,pl,hz⟩:=I.tuple hq
    refine SeqAt.in_tupleAt (eqU x) pl (fun w hw=>zeY rx fx r fs w (by simpa using hw)) ⟨.bl _,H,I,rfl,?_⟩;rw[show its.toArray.any (eqU x)=its.any (eqU x) by simp,zgM r fs];exact q
theorem zcc:OpR X (compareOp .NotIn) (rIn X.K true):=by
  intro pins s σ H x y v u Q I rx ry h;obtain ⟨p,xs,rfl,hq,fx,fs,q⟩:=h;cases ry
  rcases hq with hq | hq
  · obtain ⟨its,r,pl,hz⟩:=I.list hq
    refine SeqAt.notIn_listAt (eqU x) pl.isList (fun w hw=>zeY rx fx r fs w (by simpa using hw)) ⟨.bl _,H,I,rfl,?_⟩;rw[show its.toArray.any (eqU x)=its.any (eqU x) by simp,zgM r fs];exact q
  · obtain ⟨its,r,pl,hz⟩:=I.tuple hq
    refine SeqAt.notIn_tupleAt (eqU x) pl (fun w hw=>zeY rx fx r fs w (by simpa using hw)) ⟨.bl _,H,I,rfl,?_⟩;rw[show its.toArray.any (eqU x)=its.any (eqU x) by simp,zgM r fs];exact q
theorem zan:zdA X (.builtin "len") (fun xs H Q=>∃ p ys,xs=[.ref p]∧(SqL X.K H p ys∨SqT X.K H p ys)∧Q (.int ys.length) H):=by
  intro pins s σ H xs us Q I r h;obtain ⟨p,ys,rfl,hq,q⟩:=h;obtain ⟨u,rfl,rx⟩:=zgb r;cases rx
  have hn:=zkR;rcases hq with hq | hq
  · obtain ⟨its,r',pl,hz⟩:=I.list hq
    have hlen:=r'.length;exact Calls.call_len_list pl.isList (by simp only[yav] <;> omega) ⟨.int ys.length,H,I.tok _,⟨s.toks+1,by rw[yav,hlen]⟩,q⟩
  · obtain ⟨its,r',pl,hz⟩:=I.tuple hq
    have hlen:=r'.length;exact len_tuple pl (by simp only[yav] <;> omega) ⟨.int ys.length,H,I.tok _,⟨s.toks+1,by rw[yav,hlen]⟩,q⟩
theorem zcX:zdA X (.type "list") (fun xs H Q=>∃ p ys,xs=[.ref p]∧(SqL X.K H p ys∨SqT X.K H p ys)∧∀ l,H l=none→Q (.ref l) (upd H l (.lst ys))):=by
  intro pins s σ H xs us Q I r h;obtain ⟨p,ys,rfl,hq,q⟩:=h;obtain ⟨u,rfl,rx⟩:=zgb r;cases rx
  have fin:∀(its:List Value),Vals ys its→ys.length≤sizeLine→∀(h':Heap) (c':Nat),(∀ b o',s.heap.get? b=some o'→h'.get? b=some o')→
      h'.get? s.heap.objs.size=some { cls:=.type "list",dict:=none,data:=.seq its.toArray c',slots:=#[] }→EP X pins σ Q (.ref s.heap.objs.size) { s with heap:=h' }:=fun its r' hz h' c' kp e=>
    ⟨.ref s.heap.objs.size,_,I.laid (t':=s.toks) kp (yaa _) (show zbp X.prog X.w _ h' _ (.lst ys) from ⟨hz,its,c',r',e⟩),rfl,q _ (I.hok.fresh (yaa _))⟩
  rcases hq with hq | hq
  · obtain ⟨its,r',pl,hz⟩:=I.list hq
    have hlen:=r'.length;obtain ⟨o,ho,hc,n,hd⟩:=pl.isList;exact call_list_seq p (.inl rfl) ho hc hd (fun h' c' kp e=>fin its r' hz h' c' kp e) (by simp only[yav] <;> omega)
  · obtain ⟨its,r',pl,hz⟩:=I.tuple hq
    have hlen:=r'.length;obtain ⟨o,ho,hc,n,hd⟩:=pl;exact call_list_seq p (.inr rfl) ho hc hd (fun h' c' kp e=>fin its r' hz h' c' kp e) (by simp only[yav] <;> omega)
theorem zaR:zdA X (.type "tuple") (fun xs H Q=>∃ p ys,xs=[.ref p]∧((SqL X.K H p ys∧∀ l,H l=none→Q (.ref l) (upd H l (.tup ys)))∨(SqT X.K H p ys∧Q (.ref p) H))):=by
  intro pins s σ H xs us Q I r h;obtain ⟨p,ys,rfl,h⟩:=h;obtain ⟨u,rfl,rx⟩:=zgb r;cases rx
  rcases h with ⟨hq,q⟩ | ⟨hq,q⟩
  · obtain ⟨its,r',pl,hz⟩:=I.list hq
    have hlen:=r'.length;refine call_tuple_list pl.isList (fun h' kp=>?_) (by simp only[yav] <;> omega)
    have I1:Inv X pins σ H { s with heap:=h' }:=I.kept (t':=s.toks) kp;have I2:Inv X pins σ (upd H h'.objs.size (.tup ys)) { s with heap:=h'.push { cls:=.type "tuple",data:=.seq its.toArray } }:=
      I1.laid (t':=s.toks) (fun b o e=>yai _ e) (yaa _) (show zbp X.prog X.w _ _ _ (.tup ys) from ⟨hz,its,r',IsTup.new _ _⟩)
    exact ⟨.ref h'.objs.size,_,I2,rfl,q _ (I1.hok.fresh (yaa _))⟩
  · obtain ⟨its,r',pl,hz⟩:=I.tuple hq
    exact call_tuple_same pl ⟨.ref p,H,I,rfl,q⟩
def tyV (K:Frag)(T:String)(x:V)(H:Hp):Prop:=match x with
  | .str _=>T = "str"
  | .int _=>T = "int"
  | .ref p=>(T = "list"∧∃ xs,SqL K H p xs)∨(T = "tuple"∧∃ o,K.lookup p=some o∧o.cls=.type "tuple"∧o.dict=none)∨
      (T = "dict"∧((∃ kvs,H p=some (.dK kvs))∨∃ kvs,H p=some (.dT kvs)))∨(T = "set"∧∃ S n,H p=some (.set S n))
  | _=>False
theorem zpq {pins:List (Addr×Obj)}{σ:St}{H:Hp}{s:Shared}{T:String}{x:V}{v:Value}(I:Inv X pins σ H s)(r:RelV x v)(ty:tyV X.K T x H) :
    s.TypeIs v T∧∀ a,v=.ref a→∃ ob,s.heap.get? a=some ob∧ob.dict=none:=by
  cases x with
  | str z=>
    obtain ⟨t,rfl⟩:=r;cases (show T = "str" from ty)
    exact ⟨typeIs_str s z t,fun _ e=>nomatch e⟩
  | int i=>
    obtain ⟨t,rfl⟩:=r;cases (show T = "int" from ty)
    exact ⟨typeIs_int s i t,fun _ e=>nomatch e⟩
  | ref p=>
    cases r
    rcases ty with ⟨rfl,xs,hq⟩ | ⟨rfl,o,hk,hc,hd⟩ | ⟨rfl,hk⟩ | ⟨rfl,S,n,hk⟩
    · obtain ⟨its,_,pl,_⟩:=I.list hq
      refine ⟨pl.isList.typeIs,fun a e=>?_⟩;cases e
      obtain ⟨o,n,e,c,hd,_⟩:=pl;exact ⟨o,e,hd⟩
    · refine ⟨⟨o,I.kIn p o hk,hc⟩,fun a e=>?_⟩
      cases e
      exact ⟨o,I.kIn _ o hk,hd⟩
    · have z:∃ o,s.heap.get? p=some o∧o.ExactDict:=by
        rcases hk with ⟨kvs,hk⟩ | ⟨kvs,hk⟩
        · obtain ⟨_,_,_,_,o,_,_,e,ex,_⟩:=I.hok p _ hk
          exact ⟨o,e,ex⟩
        · obtain ⟨_,_,_,_,o,_,_,e,ex,_⟩:=I.hok p _ hk
          exact ⟨o,e,ex⟩
      obtain ⟨o,e,ex⟩:=z;refine ⟨⟨o,e,ex.1⟩,fun a e2=>?_⟩;cases e2
      exact ⟨o,e,ex.2.1⟩
    · obtain ⟨o,_,_,_,e,ex,_⟩:=I.hok p _ hk
      refine ⟨⟨o,e,ex.1⟩,fun a e2=>?_⟩;cases e2
      exact ⟨o,e,ex.2.1⟩
  | _=>exact False.elim ty
def tBM0 (K:Frag)(T:String)(r:V→List V→Hp→VK→Prop)(to:TE):TE:=fun σ H Q=>to σ H fun x H1=>tyV K T x H1∧r x [] H1 Q
def tBM (K:Frag)(T:String)(r:V→List V→Hp→VK→Prop)(to:TE)(t:TA):TE:=fun σ H Q=>to σ H fun x H1=>tyV K T x H1∧t σ H1 fun xs H2=>r x xs H2 Q
variable {o e:Expr}{es:List Expr}{to:TE}{t:TA}{name:Str}{apos cpos:Pos}{T id:String}{r:V→List V→Hp→VK→Prop}
theorem zpC (pa:PlainAttrs T)(slot:Slot T name id)(hty:typeOf (.builtin id)=pure (.type "method_descriptor"))(hm:MtR X id r)(ho:PE X o to)
    (hbase:attributeBase o name X.env (eval o X.env)=eval o X.env:=by rfl) (hline:(apos.endLine == cpos.line)=true:=by rfl):PE X (.Call (.Attribute o name apos) [] [] cpos) (tBM0 X.K T r to):=by
  intro pins s σ H Q I h;refine wpAny_Call_method0_late hbase hline (thn (ho pins s σ H _ I h) fun v s1 zq0=>?_);obtain ⟨x,H1,I1,r1,ty,q1⟩:=zq0;obtain ⟨h1,h2⟩:=zpq I1 r1 ty;exact ⟨T,id,pa,slot,hty,h1,h2,Calls.callWith_builtin rfl (PySem.evalArgs_none (hm pins s1 σ H1 x [] v [] Q I1 r1 .nil q1))⟩
theorem zeW (pa:PlainAttrs T)(slot:Slot T name id)(hty:typeOf (.builtin id)=pure (.type "method_descriptor"))(hm:MtR X id r)(ho:PE X o to)(ha:PA X (e::es) t)
    (hbase:attributeBase o name X.env (eval o X.env)=eval o X.env:=by rfl)
    (hfew:((backTo cpos (starEach (e::es) X.env)).all (fun x=>!x.1) && (backToKw cpos (keywordEach [] X.env)).all (fun x=>x.1.isSome)
      && decide ((e::es).length+([]:List Keyword).length+(if ([]:List Keyword).isEmpty then 0 else 1) < 30))=true:=by rfl)
    (hline:(apos.endLine == cpos.line)=true:=by rfl) (hs:starEach (e::es) X.env=(false,eval e X.env)::starEach es X.env:=by rfl) (hplain:(backTo cpos (starEach es X.env)).any (·.1)=false:=by rfl) :
    PE X (.Call (.Attribute o name apos) (e::es) [] cpos) (tBM X.K T r to t):=by
  intro pins s σ H Q I h;refine wpAny_Call_method_late hbase hfew hline rfl (thn (ho pins s σ H _ I h) fun v s1 zq0=>?_);obtain ⟨x,H1,I1,r1,ty,q1⟩:=zq0;obtain ⟨h1,h2⟩:=zpq I1 r1 ty;refine ⟨T,id,pa,slot,hty,h1,h2,?_⟩;have hA:=ha cpos pins s1 σ H1 _ I1 q1;rw[hs]at hA ⊢;refine Calls.callWith_builtin (by show (false || (backTo cpos (starEach es X.env)).any (·.1))=false;rw[hplain] <;> rfl) (Calls.evalArgs_plain ?_)
  exact thn hA fun us s2 zq0=>(by obtain ⟨vs,H2,I2,r2,q2⟩:=zq0;exact hm pins s2 σ H2 x vs v us Q I2 r1 r2 q2)
end
end L2
namespace L2
open PySem PySem.Spec PyProof.Rows
def MtM (X:Cx)(id:String)(r:V→List V→Hp→VK→Prop):Prop:=
  ∀(pins:List (Addr×Obj)) (s:Shared) (σ:St) (H:Hp) (x:V) (xs:List V) (v:Value) (us:List Value) (Q:VK),Inv X pins σ H s→RelV x v→Vals xs us→r x xs H Q→
    wpAny (model X.prog X.w) X.A (call (.builtin id) (v::us)) (EP X pins σ Q) X.xe s
theorem Vals.one:∀{x:V} {us:List Value},Vals [x] us→∃ u,us=[u]∧RelV x u
  | _,_,.cons r .nil=>⟨_,rfl,r⟩
theorem Vals.zero:∀{us:List Value},Vals [] us→us=[]
  | _,.nil=>rfl
section
variable {X:Cx}{pins:List (Addr×Obj)}{σ:St}{H:Hp}{s:Shared}{l b:Addr}{xs ys zs:List V}
theorem Inv.lset {its its':List Value}{n:Nat}{f:Array Value→Array Value}{t':Nat}(I:Inv X pins σ H s)(hH:H l=some (.lst xs))
    (e:s.heap.get? l=some { cls:=.type "list",data:=.seq its.toArray n }) (hf:f its.toArray=its'.toArray) (hv:Vals ys its') (hz:ys.length≤sizeLine) :
    Inv X pins σ (upd H l (.lst ys)) { s with heap:=s.heap.update l (Obj.mapSeq f),toks:=t' }:=by
  have q:=PySem.IsL.update e f;rw[hf]at q;refine I.write (x:=l) (e:=l) (by rw[hH];exact trivial) (.inl rfl) (fun b' u hb hu=>(ybx s.heap (Obj.mapSeq f) (Ne.symm hb)).trans hu) ⟨_,q⟩ ?_;exact ⟨hz,its',_,hv,q⟩
theorem Inv.lnew {its:List Value}{t':Nat}(I:Inv X pins σ H s)(hv:Vals ys its)(hz:ys.length≤sizeLine) :
    Inv X pins σ (upd H s.heap.objs.size (.lst ys)) { s with heap:=s.heap.push { cls:=.type "list",data:=.seq its.toArray },toks:=t' }:=
  I.laid (fun _ _ q=>yai _ q) (yaa _) ⟨hz,its,0,hv,yaB _ rfl⟩
theorem Inv.fresh (I:Inv X pins σ H s):H s.heap.objs.size=none:=I.hok.fresh (yaa _)
theorem Inv.lstM (I:Inv X pins σ H s)(hH:H l=some (.lst xs)):xs.length≤sizeLine∧∃(its:List Value) (n:Nat),Vals xs its∧xs.length=its.length∧s.heap.get? l=some { cls:=.type "list",data:=.seq its.toArray n }:=by
  obtain ⟨z,its,n,r,e⟩:=I.hok l _ hH;exact ⟨z,its,n,r,r.length,e⟩
theorem zoJ {n:Nat}(h:n≤sizeLine):Builtin.List.listTooLong n=false:=by
  unfold Builtin.List.listTooLong;exact yah (by omega)
end
section
variable {X:Cx}
def zp8:V→List V→Hp→VK→Prop:=fun x vs H Q=>∃ l xs y,x=.ref l∧vs=[y]∧H l=some (.lst xs)∧xs.length < sizeLine∧Q .non (upd H l (.lst (xs++[y])))
theorem zaU:MtM X "list.append" zp8:=by
  intro pins s σ H x vs v us Q I rx rv h;obtain ⟨l,xs,y,rfl,rfl,hH,hz,q⟩:=h;cases rx
  obtain ⟨u,rfl,ru⟩:=rv.one;obtain ⟨z,its,n,r,hl,e⟩:=I.lstM hH;refine call_meets F.slot_list_append ⟨_,e,rfl⟩ F.entry_list_append (F.args_list_append_2 _ _) (PySem.list_append l its.toArray n u (by rw[yav];omega)) ⟨e,?_⟩;refine ⟨.non,_,I.lset (its':=its++[u]) hH e (by simp) (r.append (.cons ru .nil)) ?_,rfl,q⟩;rw[yap,ybg];omega
def zp5:V→List V→Hp→VK→Prop:=fun x vs H Q=>∃ l b xs zs,x=.ref l∧vs=[.ref b]∧H l=some (.lst xs)∧H b=some (.lst zs)∧xs.length+zs.length≤sizeLine∧Q .non (upd H l (.lst (xs++zs)))
theorem zm3:MtM X "list.extend" zp5:=by
  intro pins s σ H x vs v us Q I rx rv h;obtain ⟨l,b,xs,zs,rfl,rfl,hH,hB,hz,q⟩:=h;cases rx
  obtain ⟨u,rfl,ru⟩:=rv.one;cases ru
  obtain ⟨z,its,n,r,hl,e⟩:=I.lstM hH;obtain ⟨z2,its2,n2,r2,hl2,e2⟩:=I.lstM hB;have hsz:its.toArray.size+its2.toArray.size≤sizeLine:=by rw[yav,yav];omega
  have hlong:¬ (!its.toArray.isEmpty && Builtin.List.listTooLong (its.toArray.size+its2.toArray.size))=true:=by
    rw[zoJ hsz,Bool.and_false];exact yaA
  refine call_meets F.slot_list_extend ⟨_,e,rfl⟩ F.entry_list_extend (F.args_list_extend_2 _ _)
    (AutoSeq1.list_extend_list_list_0 l its.toArray n b its2.toArray n2 hlong (by rw[yav];omega) (by omega)) ⟨e,e2,?_⟩
  refine ⟨.non,_,I.lset (its':=its++its2) hH e (by simp) (r.append r2) ?_,rfl,q⟩;rw[yap];omega
def zrz:V→List V→Hp→VK→Prop:=fun x vs H Q=>∃ l xs,x=.ref l∧vs=[]∧H l=some (.lst xs)∧Q .non (upd H l (.lst []))
theorem zoK:MtM X "list.clear" zrz:=by
  intro pins s σ H x vs v us Q I rx rv h;obtain ⟨l,xs,rfl,rfl,hH,q⟩:=h;cases rx
  have hus:=rv.zero;subst hus;obtain ⟨z,its,n,r,hl,e⟩:=I.lstM hH;refine call_meets F.slot_list_clear ⟨_,e,rfl⟩ F.entry_list_clear (F.args_list_clear_1 _) (AutoSeq1.list_clear_list_0 l its.toArray n (by rw[yav];omega)) ⟨e,?_⟩;exact ⟨.non,_,I.lset (its':=[]) (ys:=[]) hH e rfl .nil (yaC _),rfl,q⟩
def rCat:R2:=fun x y H Q=>∃ l b xs zs,x=.ref l∧y=.ref b∧H l=some (.lst xs)∧H b=some (.lst zs)∧xs.length+zs.length≤sizeLine∧∀ p,H p=none→Q (.ref p) (upd H p (.lst (xs++zs)))
theorem zmP:OpR X (binaryOp .Add) rCat:=by
  intro pins s σ H x y v u Q I rx ry h;obtain ⟨l,b,xs,zs,rfl,rfl,hH,hB,hz,q⟩:=h;cases rx
  cases ry
  obtain ⟨z,its,n,r,hl,e⟩:=I.lstM hH;obtain ⟨z2,its2,n2,r2,hl2,e2⟩:=I.lstM hB;refine PySem.P.add_list e e2 ?_ (by rw[yav,yav];omega);have ea:its.toArray++its2.toArray=(its++its2).toArray:=by simp
  rw[ea];exact ⟨.ref _,_,I.lnew (t':=s.toks) (r.append r2) (by rw[yap];omega),rfl,q _ I.fresh⟩
end
end L2
namespace L2
open PySem PySem.Spec PyProof.Rows
section
variable {κ:Type}[DecidableEq κ]
def valV (kvs:List (κ×V))(k:κ):Option V:=(kvs.find? fun kv=>decide (kv.1=k)).map (·.2)
def putK (kvs:List (κ×V))(k:κ)(v:V):List (κ×V):=
  if (kvs.any fun kv=>decide (kv.1=k))=true then kvs.map (fun kv=>if kv.1=k then (kv.1,v) else kv) else kvs++[(k,v)]
theorem zcM {p:κ×V}{r:List (κ×V)}{k:κ}(e:p.1=k):valV (p::r) k=some p.2:=by simp[valV,ybF,e]
theorem zbz {p:κ×V}{r:List (κ×V)}{k:κ}(e:¬ p.1=k):valV (p::r) k=valV r k:=by simp[valV,ybF,e]
theorem zhv (k:κ):∀ kvs:List (κ×V),(kvs.any fun kv=>decide (kv.1=k))=(valV kvs k).isSome
  | []=>rfl
  | p::r=>by
    rw[ybf];by_cases e:p.1=k
    · simp only[zcM e,yag e,Bool.true_or,Option.isSome_some]
    · rw[zbz e,yah e,Bool.false_or];exact zhv k r
theorem zdp (kvs:List (κ×V))(k:κ)(v:V):(putK kvs k v).length≤kvs.length+1:=by
  unfold putK;split
  · rw[yab];omega
  · rw[yap,yaL,yby];omega
theorem zeJ {kvs:List (κ×V)}{k:κ}(v:V)(h:valV kvs k=none):putK kvs k v=kvs++[(k,v)]:=by
  unfold putK;rw[zhv,h];exact if_neg (by decide)
theorem RelO.isSome_eq {o:Option V}{u:Option Value}(r:RelO o u):o.isSome=u.isSome:=by
  cases o with
  | none=>cases u with
    | none=>rfl
    | some _=>exact (show False from r).elim
  | some _=>cases u with
    | none=>exact (show False from r).elim
    | some _=>rfl
theorem KV.val {kvs:List (κ×V)}{vs:List (κ×Value)}(r:KV kvs vs)(k:κ):RelO (valV kvs k) (valueAt vs k):=by
  unfold KV at r
  induction r with
  | nil=>exact True.intro
  | @cons p q ps qs h t ih=>
    obtain ⟨h1,h2⟩:=h;by_cases e:p.1=k
    · have e':q.1=k:=h1.symm.trans e
      have b:valueAt (q::qs) k=some q.2:=by simp[valueAt,ybF,e']
      rw[zcM e,b];exact h2
    · have e':¬ q.1=k:=fun z=>e (h1.trans z)
      have b:valueAt (q::qs) k=valueAt qs k:=by simp[valueAt,ybF,e']
      rw[zbz e,b];exact ih
theorem KV.any {kvs:List (κ×V)}{vs:List (κ×Value)}(r:KV kvs vs)(k:κ):(kvs.any fun kv=>decide (kv.1=k))=vs.any fun kv=>decide (kv.1=k):=by
  unfold KV at r
  induction r with
  | nil=>rfl
  | cons h t ih=>rw[ybf,ybf,ih,h.1]
theorem KV.repl {kvs:List (κ×V)}{vs:List (κ×Value)}(r:KV kvs vs)(k:κ){y:V}{u:Value}(ry:RelV y u) :
    KV (kvs.map fun kv=>if kv.1=k then (kv.1,y) else kv) (vs.map fun kv=>if kv.1=k then (kv.1,u) else kv):=by
  unfold KV at r ⊢
  induction r with
  | nil=>exact .nil
  | @cons p q ps qs h t ih=>
    rw[yau,yau];refine .cons ?_ ih;obtain ⟨h1,h2⟩:=h;by_cases e:p.1=k
    · rw[if_pos e,if_pos (h1.symm.trans e)];exact ⟨h1,ry⟩
    · rw[if_neg e,if_neg (fun z=>e (h1.trans z))];exact ⟨h1,h2⟩
theorem KV.put {kvs:List (κ×V)}{vs:List (κ×Value)}(r:KV kvs vs)(k:κ){y:V}{u:Value}(ry:RelV y u):KV (putK kvs k y) (stored vs k u):=by
  unfold putK stored;rw[r.any k];by_cases e:(vs.any fun kv=>decide (kv.1=k))=true
  · rw[if_pos e,if_pos e];exact r.repl k ry
  · rw[if_neg e,if_neg e];exact Paired.snoc r ⟨rfl,ry⟩
theorem KV.length {kvs:List (κ×V)}{vs:List (κ×Value)}(r:KV kvs vs):kvs.length=vs.length:=Paired.length r
end
theorem znh {P:Program}{w:World}{k:Key}{u:Value}(r:RelV (kV k) u):(zbc P w).is k u=true:=by
  cases k with
  | inl i=>obtain ⟨t,e⟩:=(show ∃ t,u=Value.int i t from r);subst e;exact zjL P w i t
  | inr x=>obtain ⟨t,e⟩:=(show ∃ t,u=Value.str x t from r);subst e;exact zjK P w x t
theorem ziY {P:Program}{w:World}:∀{ks:List Key} {us:List Value},Vals (ks.map kV) us→ItemsAre (zbc P w) ks us
  | [],_,r=>by rw[ybV]at r;cases r;exact .nil
  | k::ks,_,r=>by
    rw[yau]at r;cases r with
    | cons h t=>exact .cons (znh h) (ziY t)
abbrev KT (H:Hp):List (List Key×V)→List (List Key×Addr×Value)→Prop:=Paired fun p q=>p.1=q.1∧H q.2.1=some (.tup (p.1.map kV))∧RelV p.2 q.2.2
theorem KT.val {H:Hp}{kvs:List (List Key×V)}{xs:List (List Key×Addr×Value)}(r:KT H kvs xs)(k:List Key):RelO (valV kvs k) ((atKey xs k).map (·.2)):=by
  induction r with
  | nil=>exact True.intro
  | @cons p q ps qs h t ih=>
    obtain ⟨h1,_,h2⟩:=h;by_cases e:p.1=k
    · have e':q.1=k:=h1.symm.trans e
      have b:atKey (q::qs) k=some q.2:=by simp[atKey,ybF,e']
      rw[zcM e,b];exact h2
    · have e':¬ q.1=k:=fun z=>e (h1.trans z)
      have b:atKey (q::qs) k=atKey qs k:=by simp[atKey,ybF,e']
      rw[zbz e,b];exact ih
theorem KT.repl {H:Hp}{kvs:List (List Key×V)}{xs:List (List Key×Addr×Value)}(r:KT H kvs xs)(k:List Key){y:V}{u:Value}(ry:RelV y u) :
    KT H (kvs.map fun kv=>if kv.1=k then (kv.1,y) else kv) (xs.map (putAt k u)):=by
  induction r with
  | nil=>exact .nil
  | @cons p q ps qs h t ih=>
    rw[yau,yau];refine .cons ?_ ih;obtain ⟨h1,h2,h3⟩:=h;unfold putAt;by_cases e:p.1=k
    · rw[if_pos e,if_pos (h1.symm.trans e)];exact ⟨h1,h2,ry⟩
    · rw[if_neg e,if_neg (fun z=>e (h1.trans z))];exact ⟨h1,h2,h3⟩
theorem KT.put {H:Hp}{kvs:List (List Key×V)}{xs:List (List Key×Addr×Value)}(r:KT H kvs xs)(k:List Key){b:Addr}{y:V}{u:Value}(hb:H b=some (.tup (k.map kV)))(ry:RelV y u) :
    KT H (putK kvs k y) (storedH xs k b u):=by
  have e:(kvs.any fun kv=>decide (kv.1=k))=(atKey xs k).isSome:=by
    rw[zhv,(r.val k).isSome_eq,Option.isSome_map]
  unfold putK storedH;rw[e];by_cases q:(atKey xs k).isSome=true
  · rw[if_pos q,if_pos q];exact r.repl k ry
  · rw[if_neg q,if_neg q];exact Paired.snoc r ⟨rfl,hb,ry⟩
theorem KT.keeps {H H':Hp}{kvs:List (List Key×V)}{xs:List (List Key×Addr×Value)}(r:KT H kvs xs)(ht:∀ b ys,H b=some (.tup ys)→H' b=some (.tup ys)):KT H' kvs xs:=
  Paired.mapP r fun _ _ z=>⟨z.1,ht _ _ z.2.1,z.2.2⟩
section
variable {P:Program}{w:World}{H:Hp}{h:Heap}{a:Addr}
theorem zrw {u:HO}(ok:HOk P w H h)(e:Rd H a u):zbp P w H h a u:=e.ok ok
theorem zo6 {kvs:List (Key×V)}(ok:HOk P w H h)(e:Rd H a (.dK kvs)):kvs.length≤sizeLine∧(a == sysModules)=false∧∃ vs,KV kvs vs∧h.DictOf (zbc P w) a vs:=
  show zbp P w H h a (.dK kvs) from zrw ok e
theorem zqW {kvs:List (Key×V)}(ok:HOk P w H h)(e:H a=some (.dK kvs)):kvs.length≤sizeLine∧(a == sysModules)=false∧∃ vs,KV kvs vs∧h.DictOf (zbc P w) a vs:=zo6 ok (.inl e)
theorem zkW {ks:List Key}(ok:HOk P w H h)(e:H a=some (.tup (ks.map kV))):(tupleKind (zbc P w)).is h ks a:=by
  obtain ⟨_,its,r,o,h1,h2,n,h3⟩:=(show zbp P w H h a (.tup (ks.map kV)) from ok a _ e);exact ⟨o,its.toArray,n,h1,h2,h3,by simpa using ziY r⟩
theorem zo4 {kvs:List (List Key×V)}(ok:HOk P w H h)(e:Rd H a (.dT kvs)):kvs.length≤sizeLine∧(a == sysModules)=false∧
    ∃ xs,KT H kvs xs∧h.DictOfH (tupleKind (zbc P w)) a xs:=by
  obtain ⟨z,y,xs,r,o,es,ep,h1,h2,h3,h4,h5⟩:=(show zbp P w H h a (.dT kvs) from zrw ok e);refine ⟨z,y,xs,r,o,es,ep,h1,h2,h3,h4,fun x hx=>?_,h5⟩;have all:∀{l:List (List Key×V)} {m:List (List Key×Addr×Value)},KT H l m→∀ x∈m,(tupleKind (zbc P w)).is h x.1 x.2.1:=by
    intro l m q
    induction q with
    | nil=>intro x hx;exact nomatch hx
    | @cons p q ps qs hq t ih=>
      intro x hx;rcases yam.mp hx with e | hx
      · subst e
        exact zkW ok (by rw[← hq.1];exact hq.2.1)
      · exact ih x hx
  exact all r x hx
theorem zsS {kvs:List (List Key×V)}(ok:HOk P w H h)(e:H a=some (.dT kvs)):kvs.length≤sizeLine∧(a == sysModules)=false∧
    ∃ xs,KT H kvs xs∧h.DictOfH (tupleKind (zbc P w)) a xs:=zo4 ok (.inl e)
end
def DGet (H:Hp)(a:Addr)(y:V)(r:Option V):Prop:=
  (∃ kvs k,Rd H a (.dK kvs)∧y=kV k∧r=valV kvs k)∨∃ kvs k b,Rd H a (.dT kvs)∧y=.ref b∧H b=some (.tup (k.map kV))∧r=valV kvs k
def DPut (H:Hp)(a:Addr)(y v:V)(H':Hp):Prop:=
  (∃ kvs k,H a=some (.dK kvs)∧y=kV k∧kvs.length < sizeLine∧H'=upd H a (.dK (putK kvs k v)))∨
  ∃ kvs k b,H a=some (.dT kvs)∧y=.ref b∧H b=some (.tup (k.map kV))∧kvs.length < sizeLine∧H'=upd H a (.dT (putK kvs k v))
theorem DGet.k {H:Hp}{a:Addr}{kvs:List (Key×V)}{k:Key}(e:H a=some (.dK kvs)):DGet H a (kV k) (valV kvs k):=.inl ⟨kvs,k,.inl e,rfl,rfl⟩
theorem DGet.t {H:Hp}{a b:Addr}{kvs:List (List Key×V)}{k:List Key}(e:H a=some (.dT kvs))(eb:H b=some (.tup (k.map kV))):DGet H a (.ref b) (valV kvs k):=.inr ⟨kvs,k,b,.inl e,rfl,eb,rfl⟩
theorem DPut.k {H:Hp}{a:Addr}{kvs:List (Key×V)}{k:Key}{v:V}(e:H a=some (.dK kvs))(hl:kvs.length < sizeLine):DPut H a (kV k) v (upd H a (.dK (putK kvs k v))):=.inl ⟨kvs,k,e,rfl,hl,rfl⟩
theorem DPut.t {H:Hp}{a b:Addr}{kvs:List (List Key×V)}{k:List Key}{v:V}(e:H a=some (.dT kvs))(eb:H b=some (.tup (k.map kV)))(hl:kvs.length < sizeLine) :
    DPut H a (.ref b) v (upd H a (.dT (putK kvs k v))):=.inr ⟨kvs,k,b,e,rfl,eb,hl,rfl⟩
section
variable {X:Cx}{pins:List (Addr×Obj)}{σ:St}{H:Hp}{s:Shared}{a:Addr}{y v:V}{u r:Value}{o:Option V}{A:Around}{E:Value→Shared→Prop}
theorem Inv.big (I:Inv X pins σ H s):sysModules < s.heap.objs.size:=by
  have h:mainGlobals < s.heap.objs.size:=(I.mod.glob.keeps I.bk).lt;exact Nat.lt_trans (by decide) h
theorem znF {Q:Value→Shared→Prop}(hu:A.units+1 < cLine)(I:Inv X pins σ H s)(g:DGet H a y (some v))(ry:RelV y u)(h:∀ w' s',Inv X pins σ H s'→RelV v w'→Q w' s') :
    wpAny (model X.prog X.w) A (getItem (.ref a) u) Q E s:=by
  rcases g with ⟨kvs,k,e,ey,l⟩ | ⟨kvs,k,b,e,ey,eb,l⟩
  · subst ey
    obtain ⟨z,hd,vs,rel,dd⟩:=zo6 I.hok e;obtain ⟨w',hw,rw'⟩:=RelO.some_of (v:=v) (o:=valueAt vs k) (by rw[l];exact rel.val k);exact wpAny_getItem_of (znh ry) dd.mapOf hw (h w' _ (I.tok _) rw')
  · subst ey
    cases (show u=Value.ref b from ry)
    obtain ⟨z,hd,xs,rel,dd⟩:=zo4 I.hok e;obtain ⟨w',hw,rw'⟩:=RelO.some_of (v:=v) (o:=(atKey xs k).map (·.2)) (by rw[l];exact rel.val k);obtain ⟨p,hp,hp2⟩:=ybq.mp hw;refine wpAny_getItem_heap (tupleKind_room_in1 hu) (zkW I.hok eb) dd hp ?_;rw[hp2];exact h w' _ (I.tok _) rw'
theorem zqX {Q:Value→Shared→Prop}(hu:A.units+1 < cLine)(I:Inv X pins σ H s)(g:DGet H a y o)(ry:RelV y u)(h:∀ s',Inv X pins σ H s'→Q (.bool (!o.isSome)) s') :
    wpAny (model X.prog X.w) A (compareOp .NotIn u (.ref a)) Q E s:=by
  rcases g with ⟨kvs,k,e,ey,l⟩ | ⟨kvs,k,b,e,ey,eb,l⟩
  · subst ey
    obtain ⟨z,hd,vs,rel,dd⟩:=zo6 I.hok e;refine wpAny_notIn_of (znh ry) hd dd.mapOf ?_;rw[← (rel.val k).isSome_eq,← l];exact h _ (I.tok _)
  · subst ey
    cases (show u=Value.ref b from ry)
    obtain ⟨z,hd,xs,rel,dd⟩:=zo4 I.hok e;refine wpAny_notIn_heap (tupleKind_room_in1 hu) (zkW I.hok eb) hd dd ?_;have q:=(rel.val k).isSome_eq;rw[Option.isSome_map]at q;rw[← q,← l];exact h _ (I.tok _)
theorem zj2 {h':Heap}{t':Nat}{ob:HO}(I:Inv X pins σ H s)(mu:Mut (H a))(hs:Heap.SameBut a s.heap h')(he:∃ q,h'.get? a=some q)(new:zbp X.prog X.w (upd H a ob) h' a ob) :
    Inv X pins σ (upd H a ob) { s with heap:=h',toks:=t' }:=
  I.write (x:=a) (e:=a) mu (.inl rfl) (fun b q hb z=>(hs.2 b hb).trans z) he new
theorem zpI {P:Program}{w:World}{H':Hp}{h':Heap}{kvs:List (Key×V)}{vs:List (Key×Value)}(z:kvs.length≤sizeLine)(hd:(a == sysModules)=false)(rel:KV kvs vs)(dd:h'.DictOf (zbc P w) a vs) :
    zbp P w H' h' a (.dK kvs):=⟨z,hd,vs,rel,dd⟩
theorem znE {H':Hp}{Q:Unit→Shared→Prop}(hu:A.units+1 < cLine)(I:Inv X pins σ H s)(g:DPut H a y v H')(ry:RelV y u)(rv:RelV v r)(h:∀ s',Inv X pins σ H' s'→Q () s') :
    wpAny (model X.prog X.w) A (setItem (.ref a) u r) Q E s:=by
  rcases g with ⟨kvs,k,e,ey,l,eH⟩ | ⟨kvs,k,b,e,ey,eb,l,eH⟩
  · subst ey eH
    obtain ⟨z,hd,vs,rel,dd⟩:=zqW I.hok e;have hz:vs.length≤sizeLine:=by rw[← rel.length];exact z
    have hl:(putK kvs k v).length≤sizeLine:=by have:=zdp kvs k v;omega
    refine wpAny_setItem_pairs (hsz:=hz) (znh ry) dd fun h' dd' hs=>h _ ?_;have he:∃ q,h'.get? a=some q:=let ⟨q,_,_,hq,_⟩:=dd';⟨q,hq⟩;exact zj2 I (by rw[e];exact True.intro) hs he (zpI hl hd (rel.put k rv) dd')
  · subst ey eH
    cases (show u=Value.ref b from ry)
    obtain ⟨z,hd,xs,rel,dd⟩:=zsS I.hok e;have hz:xs.length≤sizeLine:=by rw[← Paired.length rel];exact z
    have hl:(putK kvs k v).length≤sizeLine:=by have:=zdp kvs k v;omega
    refine wpAny_setItem_heap (hsz:=hz) (tupleKind_room_in1 hu) (zkW I.hok eb) dd fun h' dd' hs=>h _ ?_;obtain ⟨q,es,ep,hq,h2,h3,h4,_,h5⟩:=dd';refine zj2 I (by rw[e];exact True.intro) hs ⟨q,hq⟩ ⟨hl,hd,_,(rel.put k eb rv).keeps fun c ys ec=>?_,q,es,ep,hq,h2,h3,h4,h5⟩;rw[zag (zrW ec e (fun z=>nomatch z))];exact ec
end
def NoSl (i:Expr):Prop:=∀ ov iv,subscripted i false ov iv=operate [ov,iv] (getItem ov iv)
theorem zpZ {prog:Program}{w:World}{A:Around}{E:Value→Shared→Prop}{s:Shared}{env:Env}{value slice:Expr}{pos:Pos}{T id:String}{Q:Value→Shared→Prop}
    (hl:typeLookup (.type T) "__getitem__" = pure (some (.builtin id))) (hs:NoSl slice)
    (h:wpAny (model prog w) A (eval value env) (fun o s₁=>wpAny (model prog w) A (eval slice env) (fun i s₂=>s₂.TypeIs o T∧wpAny (model prog w) A (getItem o i) Q E s₂) E s₁) E s) :
    wpAny (model prog w) A (eval (.Subscript value slice pos) env) Q E s:=by
  refine Subscript_ (wpAny_mono h (fun o s₁ h₁=>wpAny_mono h₁ (fun i s₂ h₂=>?_) fun _ _ x=>x) fun _ _ x=>x);obtain ⟨hT,h₂⟩:=h₂;unfold subscriptTail;refine wpAny_bind ?_;rw[getitemInPython_of_ne hT.not_modules];refine wpAny_bind (wpAny_specialOf hT hl ?_);have fin:wpAny (model prog w) A (subscripted slice false o i) (fun r s₃=>wpAny (model prog w) A (letTemporaryGo value o r >>= fun _=>pure r) Q E s₃) E s₂:=by
    rw[hs o i];exact wpAny_operating (wpAny_mono h₂ (fun r s₃ h₃=>wpAny_bind (wpAny_letTemporaryGo (wpAny_pure h₃))) fun _ _ x=>x)
  first
    | exact wpAny_pure (wpAny_bind fin)
    | exact wpAny_bind (wpAny_pure (wpAny_bind fin))
    | exact wpAny_bind fin
theorem zj1 {X:Cx}{pins:List (Addr×Obj)}{σ:St}{H:Hp}{s:Shared}{a:Addr}{y:V}{o:Option V}(I:Inv X pins σ H s)(g:DGet H a y o):s.TypeIs (.ref a) "dict":=by
  rcases g with ⟨kvs,k,e,_,_⟩ | ⟨kvs,k,b,e,_,_,_⟩
  · obtain ⟨_,_,vs,_,dd⟩:=zo6 I.hok e
    exact dd.typeIs
  · obtain ⟨_,_,xs,_,dd⟩:=zo4 I.hok e
    exact dd.typeIs
def zsE (td ty:TE):TE:=fun σ H Q=>td σ H fun x H1=>ty σ H1 fun y H2=>∃ a v,x=.ref a∧DGet H2 a y (some v)∧Q v H2
def zsG (td ty tv:TE):TS:=fun D σ H=>tv σ H fun v H1=>td σ H1 fun x H2=>ty σ H2 fun y H3=>∃ a H4,x=.ref a∧DPut H3 a y v H4∧D.nx σ H4
section
variable {X:Cx}{o i e value:Expr}{pos pos' tpos:Pos}{td ty tv:TE}
theorem zeo (hu:X.A.units+1 < cLine)(ho:PE X o td)(hi:PE X i ty)(hs:NoSl i):PE X (.Subscript o i pos) (zsE td ty):=by
  intro pins s σ H Q I h;refine zpZ PySem.F.slot_dict_getitem.lookup hs (thn (ho pins s σ H _ I h) fun u s1 zq0=>?_);obtain ⟨x,H1,I1,rx,q1⟩:=zq0;refine thn (hi pins s1 σ H1 _ I1 q1) fun iv s2 zq1=>?_;obtain ⟨y,H2,I2,ry,a,v,ex,g,q2⟩:=zq1;subst ex;obtain rfl:u=Value.ref a:=rx;exact ⟨zj1 I2 g,znF hu I2 g ry fun w' s3 I3 rw'=>⟨v,H2,I3,rw',q2⟩⟩
theorem zfo (hu:X.A.units+1 < cLine)(ho:PE X o td)(hi:PE X i ty)(hv:PE X value tv)(hs:swapsWith value (some (.Subscript o i pos')) pos.line X.env=pure false) :
    PS X (.Assign [.Subscript o i pos'] value pos) (zsG td ty tv):=by
  intro pins s σ H D I h;refine wpAny_Assign_Subscript (thn (hv pins s σ H _ I h) fun r s1 zq0=>?_) hs;obtain ⟨v,H1,I1,rv,q1⟩:=zq0;refine thn (ho pins s1 σ H1 _ I1 q1) fun u s2 zq1=>?_;obtain ⟨x,H2,I2,rx,q2⟩:=zq1;refine thn (hi pins s2 σ H2 _ I2 q2) fun iv s3 zq2=>?_;obtain ⟨y,H3,I3,ry,a,H4,ex,g,q3⟩:=zq2;subst ex;obtain rfl:u=Value.ref a:=rx;exact znE hu I3 g ry rv fun s4 I4=>⟨σ,H4,I4,q3⟩
end
theorem zk3 {P:Program}{w:World}{H:Hp}(h:Heap)(hb:sysModules < h.objs.size):zbp P w H (h.push { cls:=.type "dict",data:=.dict #[] }) h.objs.size (.dK []):=
  ⟨yaC _,beq_eq_false_iff_ne.mpr (Ne.symm (yan hb)),[],.nil,Heap.DictOf.new h⟩
theorem zo5 {P:Program}{w:World}{H:Hp}(h:Heap)(hb:sysModules < h.objs.size):zbp P w H (h.push { cls:=.type "dict",data:=.dict #[] }) h.objs.size (.dT []):=
  ⟨yaC _,beq_eq_false_iff_ne.mpr (Ne.symm (yan hb)),[],.nil,_,#[],0,yaB _ rfl,⟨rfl,rfl,rfl⟩,rfl,rfl,ybr⟩
def zrl:TE:=fun _ H Q=>∀ p,H p=none→Q (.ref p) (upd H p (.dK []))
def zrk:TE:=fun _ H Q=>∀ p,H p=none→Q (.ref p) (upd H p (.dT []))
section
variable {X:Cx}{pos:Pos}
theorem zkH:PE X (.Dict [] [] pos) zrl:=fun pins s σ H Q I h=>
  wpAny_Dict_empty ⟨.ref s.heap.objs.size,_,I.laid (a:=s.heap.objs.size) (o:=.dK []) (t':=s.toks) (fun _ _ q=>yai _ q) (yaa _) (zk3 s.heap I.big),rfl,h _ (I.hok.fresh (yaa _))⟩
theorem zok:PE X (.Dict [] [] pos) zrk:=fun pins s σ H Q I h=>
  wpAny_Dict_empty ⟨.ref s.heap.objs.size,_,I.laid (a:=s.heap.objs.size) (o:=.dT []) (t':=s.toks) (fun _ _ q=>yai _ q) (yaa _) (zo5 s.heap I.big),rfl,h _ (I.hok.fresh (yaa _))⟩
end
def zmg:List (TE×TE)→St→Hp→(List (V×V)→Hp→Prop)→Prop
  | [],_,H,Q=>Q [] H
  | (tk,tv)::r,σ,H,Q=>tk σ H fun x H1=>tv σ H1 fun y H2=>zmg r σ H2 fun ps H3=>Q ((x,y)::ps) H3
abbrev VV:List (V×V)→List (Value×Value)→Prop:=Paired fun p q=>RelV p.1 q.1∧RelV p.2 q.2
def PPs (X:Cx)(pos:Pos)(keys:List (Option Expr))(values:List Expr)(trs:List (TE×TE)):Prop:=
  ∀(pins:List (Addr×Obj)) (s:Shared) (σ:St) (H:Hp) (Q:List (V×V)→Hp→Prop),Inv X pins σ H s→zmg trs σ H Q→
    wpAny (model X.prog X.w) X.A (evalPairs (pairTrees keys values X.env pos)) (fun vs s'=>∃ ps H',Inv X pins σ H' s'∧VV ps vs∧Q ps H') X.xe s
theorem zqa {X:Cx}{pos:Pos}:PPs X pos [] [] []:=fun pins s σ H Q I h=>pairTrees_nil_walk ⟨[],H,I,.nil,h⟩
theorem zhQ {X:Cx}{pos:Pos}{k v:Expr}{ks:List (Option Expr)}{vs:List Expr}{tk tv:TE}{trs:List (TE×TE)}(hk:PE X k tk)(hv:PE X v tv)(hr:PPs X pos ks vs trs) :
    PPs X pos (some k::ks) (v::vs) ((tk,tv)::trs):=fun pins s σ H Q I h=>
  pairTrees_cons_walk (thn (hk pins s σ H _ I h) fun u s1 ⟨x,H1,I1,rx,q1⟩=>thn (hv pins s1 σ H1 _ I1 q1) fun w2 s2 ⟨y,H2,I2,ry,q2⟩=>
    thn (hr pins s2 σ H2 _ I2 q2) fun ws s3 ⟨ps,H3,I3,rel,q3⟩=>⟨(x,y)::ps,H3,I3,.cons ⟨rx,ry⟩ rel,q3⟩)
def zfD (kvs more:List (Key×V)):List (Key×V):=more.foldl (fun acc kv=>putK acc kv.1 kv.2) kvs
theorem KV.merge:∀{more:List (Key×V)} {rs:List (Key×Value)} {kvs:List (Key×V)} {vs:List (Key×Value)},KV more rs→KV kvs vs→KV (zfD kvs more) (merged vs rs):=by
  intro more rs kvs vs r;unfold KV at r
  induction r generalizing kvs vs with
  | nil=>intro q;exact q
  | @cons p q ps qs h t ih=>
    intro r0;have e:KV (putK kvs p.1 p.2) (stored vs q.1 q.2):=by
      have:=r0.put p.1 h.2;rw[← h.1];exact this
    exact ih e
theorem ze0:∀(more kvs:List (Key×V)),(zfD kvs more).length≤kvs.length+more.length
  | [],kvs=>by show kvs.length≤kvs.length+0;omega
  | p::r,kvs=>by
    have h1:=ze0 r (putK kvs p.1 p.2);have h2:=zdp kvs p.1 p.2;show (zfD (putK kvs p.1 p.2) r).length≤_;rw[yaL];omega
theorem zho {P:Program}{w:World}:∀{kvs:List (Key×V)} {ws:List (Value×Value)},VV (kvs.map fun kv=>(kV kv.1,kv.2)) ws→∃ rs,Carries (zbc P w) ws rs∧KV kvs rs
  | [],_,r=>by rw[ybV]at r;cases r;exact ⟨[],True.intro,.nil⟩
  | p::kvs,_,r=>by
    rw[yau]at r;cases r with
    | @cons a b as bs h t=>
      obtain ⟨rs,c,q⟩:=zho (P:=P) (w:=w) t;obtain ⟨b1,b2⟩:=b;exact ⟨(p.1,b2)::rs,⟨znh h.1,rfl,c⟩,.cons ⟨rfl,h.2⟩ q⟩
def zsD (trs:List (TE×TE)):TE:=fun σ H Q=>∀ p,H p=none→zmg trs σ (upd H p (.dK [])) fun ps H2=>H2 p=some (.dK [])∧∃ kvs:List (Key×V),ps=kvs.map (fun kv=>(kV kv.1,kv.2))∧kvs.length≤15∧Q (.ref p) (upd H2 p (.dK (zfD [] kvs)))
theorem zqg {X:Cx}{pos:Pos}{keys:List (Option Expr)}{values:List Expr}{trs:List (TE×TE)}(h:PPs X pos keys values trs)(hall:keys.all (·.isSome)=true)(hl:keys.length=values.length)(h0:keys≠[])
    (h15:keys.length≤15):PE X (.Dict keys values pos) (zsD trs):=by
  intro pins s σ H Q I q;have hn:=I.hok.fresh (yaa s.heap.objs.size);have I1:=I.laid (a:=s.heap.objs.size) (o:=.dK []) (h':=s.heap.push { cls:=.type "dict",data:=.dict #[] }) (t':=s.toks) (fun _ _ q=>yai _ q) (yaa _) (zk3 s.heap I.big);refine wpAny_Dict_walk (knd:=zbc X.prog X.w) hall hl h0 h15 (thn (h pins _ σ _ _ I1 (q _ hn)) fun ws s2 zq0=>?_);obtain ⟨ps,H2,I2,rel,e,kvs,ep,lk,q2⟩:=zq0;subst ep;obtain ⟨rs,c,rk⟩:=zho (P:=X.prog) (w:=X.w) rel;obtain ⟨z,hd,vs0,r0,dd⟩:=zqW I2.hok e;cases r0
  refine ⟨rs,c,dd,fun h' dd' hs=>⟨.ref s.heap.objs.size,_,?_,rfl,q2⟩⟩;have hz:(zfD [] kvs).length≤sizeLine:=by
    have h1:=ze0 kvs [];rw[yby]at h1;rw[sizeLine_eq];omega
  have he:∃ q,h'.get? s.heap.objs.size=some q:=let ⟨q,_,_,hq,_⟩:=dd';⟨q,hq⟩;exact zj2 I2 (by rw[e];exact True.intro) hs he (zpI hz hd (rk.merge .nil) dd')
end L2
namespace Att
open PySem PySem.W PySem.Calls PyProof.Rows
theorem zgt {P:Params}{h:Heap}:∀(ns:List Int) (vs:List Value),WellAll P h vs (ns.map WData.int)→IntsAre vs ns:=by
  intro ns
  induction ns with
  | nil=>
    intro vs w;rw[ybV]at w;cases w
    exact .nil
  | cons n ns ih=>
    intro vs w;rw[yau]at w;cases w with
    | cons a b=>
      cases a
      exact .cons _ _ (ih _ b)
theorem zmy {l:OpenLaw}{n:Nat}(hn:l.most=some n){P:Params}{h:Heap}{args:List WData}{vals:List Value}
    (hpre:l.row.toRowW.claim.pre args=true) (hwl:WellAll P h vals args) :
    ∃ a vs ns,vals=[Value.ref a]∧args=[WData.list (ns.map WData.int)]∧h.get? a=some { cls:=.type "list",data:=.seq vs.toArray }∧IntsAre vs ns∧ns.length≤n:=by
  have hsh:WShape.hasAll [] args [.list .int]=true:=(pre_splitW hpre).1;have hc:l.pre.holds [] { args:=args }=true:=(pre_splitW hpre).2;obtain ⟨d,r,rfl,h1,h2⟩:=hasAllW_cons hsh;obtain rfl:=hasAllW_nil h2;obtain ⟨xs,rfl,h3⟩:=hasW_list h1;obtain ⟨ns,rfl⟩:=items_int h3;have hlen:ns.length≤n:=by
    unfold OpenLaw.pre at hc;have h4:(WTm.not (.lt (.lit (.int (n:Int))) (.len (.arg 0)))).holds [] { args:=[.list (ns.map .int)] }=true:=by
      have h4:=(holds_andW hc).1;rw[hn]at h4;exact h4
    have h5:=condW_of h4 (w_not (w_lt w_lit (w_len_list (w_arg rfl))));rw[yab]at h5;refine Nat.le_of_not_lt fun q=>?_;have q':(n:Int) < ((ns.length:Nat):Int):=by omega
    first
      | (rw[yag q']at h5;exact absurd h5 (by decide))
      | (simp at h5;omega)
  cases hwl with
  | cons w1 w2=>
    cases w2
    cases w1 with
    | list ho hall=>exact ⟨_,_,ns,rfl,rfl,ho,zgt ns _ hall,hlen⟩
theorem zmE (l:OpenLaw)(args:List WData):l.row.toRowW.claim.post args (.bool true) args=true:=
  postW_of (r:=l.row.toRowW) (X:=(true == true))
    (show WShape.has [] (.bool true) .bool=true by first | rfl | decide | simp[WShape.has,WShape.arms,WShape.armsAll])
    (show (WTm.eq .res (.lit (.bool true))).value [] { args:=args,res:=some (.bool true),after:=args }=some (.bool (true == true)) from w_eq_bool (w_res rfl) w_lit) rfl
theorem attach_call {l:OpenLaw}{n:Nat}{q:Program}{loose:List Str}{XP:(Str→Option Value)→Heap→Prop}{YP:World→Heap→Prop}{d:DefRec}
    (hn:l.most=some n) (hdf:d.params.defaults=[])
    (call:∀(w:World) (s₀ s₁:Shared) (mg mb:Str→Option Value) (fa:Addr) (o:Obj) (pm cd doc:Value) (a:Addr) (vs:List Value) (ns:List Int),
      Ground q loose [] XP w s₀ mg mb s₁.heap→YP w s₁.heap→
      s₁.heap.get? fa=some o→o.data=.func (docDef d.name d.params d.body d.scope pm cd doc)→s₁.heap.CodeRec cd d.name→mg d.name=some (.ref fa)→
      s₁.heap.get? a=some { cls:=.type "list",data:=.seq vs.toArray }→IntsAre vs ns→ns.length≤n→s₁.gens=#[]→
      codeAny (model l.prog w) callerA (.call (.ref fa) ⟨[.ref a],[]⟩) (fun r s'=>r=.ok (.ret (.bool true))∧OldK s₁.heap s'.heap∧s'.os=s₁.os∧AllBare s'.gens) s₁) :
    WalkO q loose XP YP l.row.toRowW d [] (fun f vs=>PySem.call f vs):=by
  intro w s₀ s₁ mg mb G Y fa o pm cd doc dV kV ho hd hcd hD hmg hg args vals as hpre hlay hrd hwl hlo;obtain rfl:dV=.none:=Dflts.none hD hdf;obtain rfl:kV=.none:=Dflts.noKw hD;obtain ⟨a,vs,ns,rfl,rfl,hobj,hints,hlen⟩:=zmy hn hpre hwl;refine enter_call (codeAny_mono (call w s₀ s₁ mg mb fa o pm cd doc a vs ns G Y ho (fd_plain hd) hcd hmg hobj hints hlen hg) fun r s' hq=>?_);obtain ⟨rfl,h2,h3,h4⟩:=hq;exact ⟨.inl ⟨.bool true,.bool true,[],rfl,fun _=>rfl,.bool true,zmE l _,fun _=>⟨List.Pairwise.nil,fun _ hm=>(nomatch hm)⟩⟩,h2,h3,h4⟩
end Att
namespace L2
open PySem PySem.Spec PyProof.Rows
theorem zio:∀{vs:List Value} {ns:List Int},IntsAre vs ns→Vals (ns.map V.int) vs
  | _,_,.nil=>.nil
  | _,_,.cons n t h=>.cons ⟨t,rfl⟩ (zio h)
end L2
namespace L2
open PySem PySem.Spec PyProof.Rows
def zer (s:Stmt)(j:Nat):Stmt:=match s with
  | .ClassDef _ _ _ body _ _ _ _ _ _ _=>body.getD j (.Pass ⟨0,0,0,0⟩)
  | _=>.Pass ⟨0,0,0,0⟩
def zbV (s:Stmt):Arguments:=match s with
  | .FunctionDef _ a _ _ _ _ _ _ _ _=>a
  | _=>{ posonlyargs:=[],args:=[],vararg:=none,kwonlyargs:=[],kw_defaults:=[],kwarg:=none,defaults:=[] }
def zbd (s:Stmt):List Stmt:=match s with
  | .FunctionDef _ _ b _ _ _ _ _ _ _=>b
  | _=>[]
def zaj (s:Stmt):Scope:=match s with
  | .FunctionDef _ _ _ _ _ _ sc _ _ _=>sc
  | _=>{ kind:=.function,names:=[],isGenerator:=false,isCoroutine:=false }
abbrev CX0:CXT:=fun _ _ _ _ _ _=>False
abbrev E0:XK:=fun _ _ _=>False
theorem zmJ {X:Cx}:zgN CX0 X E0:=fun _ _ _ _ _ _ _ h=>h.elim
structure Fun (K:Frag)(x qual:Str)(st:Stmt)(f:Addr)(fd:FuncData):Prop where
  ex:∃(oc:Value) (od:Option Addr) (kV doc pm:Value) (an:Option Addr) (cdv ct:Value) (osl:Array (Option Value)),
    fd=fnOf x qual (zbV st) (zbd st) (zaj st) .none kV doc pm an cdv ct∧K.lookup f=some ⟨oc,od,.func fd,osl⟩∧codeIn K cdv qual=true
  kp:keepIn K (.ref f)=true
section
variable {P:Program}{w:World}{K:Frag}{mg:Str→Option Value}{base:Heap}
theorem Fun.ok {x qual:Str}{st:Stmt}{f:Addr}{fd:FuncData}{N ps:List Str}{k:Nat}{sp:Sp}(F:Fun K x qual st f fd)(S:zaq N ps (zaj st))(len:∀ vs H Q E,sp vs H Q E→vs.length=ps.length)
    (hbody:∀(cdv:Value) (A:Around) (outer:List Env) (s:Shared) (H:Hp) (vs:List V) (Q:VK) (E:XK),Room k (A.deeper (envOfC qual (zaj st) s.heap.objs.size f cdv))→sp vs H Q E→
      ∃ t,PSs (cxOf CX0 P w K mg base N qual (zaj st) f cdv A outer s H E).nox (zbd st) t∧t { nx:=fun _ H'=>Q .non H',rt:=Q } (start N vs) H):FnOk P w K mg base CX0 (k+1) f fd ps sp:=by
  obtain ⟨oc,od,kV,doc,pm,an,cdv,ct,osl,rfl,lk,hcd⟩:=F.ex;refine zsj lk hcd S len fun A outer s H vs Q E hr hsp=>?_;obtain ⟨t,h,q⟩:=hbody cdv A outer s H vs Q E hr hsp;exact ⟨t,h.nox,q⟩
theorem Fun.binds {x qual:Str}{st:Stmt}{f:Addr}{fd:FuncData}{ps:List Str}(F:Fun K x qual st f fd)
    (h:∀(kV doc pm:Value) (an:Option Addr) (cdv ct:Value) (us:List Value),us.length=ps.length→bindArgs (fnOf x qual (zbV st) (zbd st) (zaj st) .none kV doc pm an cdv ct) ⟨us,[]⟩=pure (ps.zip us)):zdT K fd ps []:=by
  obtain ⟨oc,od,kV,doc,pm,an,cdv,ct,osl,rfl,lk,hcd⟩:=F.ex;exact .all (h kV doc pm an cdv ct)
theorem zgv {x qual:Str}{st:Stmt}{f:Addr}{oc:Value}{od an:Option Addr}{osl:Array (Option Value)}{kV doc pm cdv ct:Value}(l:K.lookup f=some ⟨oc,od,.func (fnOf x qual (zbV st) (zbd st) (zaj st) .none kV doc pm an cdv ct),osl⟩)
    (c:codeIn K cdv qual=true) (k:keepIn K (.ref f)=true):Fun K x qual st f (fnOf x qual (zbV st) (zbd st) (zaj st) .none kV doc pm an cdv ct):=⟨⟨oc,od,kV,doc,pm,an,cdv,ct,osl,rfl,l,c⟩,k⟩
end
theorem ze4 {A:Around}{k:Nat}(hr:Room k A):A.units+1 < cLine:=ya1 (ycu (by decide:1≤64) _) hr.units
theorem zao {n:Nat}(h:n≤1000):n < sizeLine:=ya1 h (by decide)
section
variable {X:Cx}
theorem pv (i:Nat){x:Str}{pos:Pos}(hN:X.N[i]?=some x:=by rfl)(hv:Vis X.env.scope x:=by first | exact Or.inl rfl | exact Or.inr (Or.inl rfl) | exact Or.inr (Or.inr rfl))(hd:(x == ("__debug__" : Str))=false:=by decide)
    (hcd:(x == ("__classdict__" : Str))=false:=by decide):PE X (.Name x pos) (tVar i):=zrE hN hv hd hcd
end
theorem iteF {A B:Prop}(h:B):if false=true then A else B:=by
  rw[if_neg yaA];exact h
theorem iteT {A B:Prop}(h:A):if true=true then A else B:=by
  rw[if_pos rfl];exact h
theorem ite2 {c A B:Prop}[Decidable c](h1:c→A)(h2:¬ c→B):if c then A else B:=by
  by_cases h:c
  · rw[if_pos h]
    exact h1 h
  · rw[if_neg h]
    exact h2 h
theorem ziZ {c A B:Prop}[Decidable c](hc:c)(h:B):if (!decide c)=true then A else B:=by
  rw[yag hc];exact iteF h
def Same (H H':Hp):Prop:=∀ b o,H b=some o→H' b=some o
theorem Same.trans {H H1 H2:Hp}(a:Same H H1)(b:Same H1 H2):Same H H2:=fun c o h=>b c o (a c o h)
theorem Same.free {H H':Hp}(e:Same H H'){l:Addr}(h:H' l=Option.none):H l=Option.none:=by
  cases q:H l with
  | none=>rfl
  | some o=>
    rw[e l o q]at h;cases h
theorem Same.seq {K:Frag}{H H':Hp}{a:Addr}{xs:List V}(e:Same H H')(h:SqL K H a xs):SqL K H' a xs:=by
  rcases h with (h | ⟨o,h⟩) | h
  · exact .inl (.inl (e _ _ h))
  · exact .inl (.inr ⟨o,e _ _ h⟩)
  · exact .inr h
end L2
namespace Tim
open PySem PyProof.Rows
set_option autoImplicit false
section
variable {prog:Program}{w:World}{A:Around}{E:Value→Shared→Prop}{s:Shared}{κ:KeyKind}{kd:SortKind}{a₀:Array Keyed}
def LtG (prog:Program)(w:World)(A:Around)(s:Shared)(κ:KeyKind)(kd:SortKind):Prop:=
 ∀(E:Value→Shared→Prop) (x y:Value) (a b:κ.α) (Q:Bool→Shared→Prop),κ.keyOf x=some a→κ.keyOf y=some b→Q (κ.blt a b) s→wpAny (model prog w) A (keyLt' kd x y) Q E s
def ky (κ:KeyKind)(p:Keyed):κ.α:=(κ.keyOf p.1).getD κ.dflt
def Keyd (κ:KeyKind)(p:Keyed):Prop:=∃ a,κ.keyOf p.1=some a
theorem Keyd.eq {p:Keyed}(h:Keyd κ p):κ.keyOf p.1=some (ky κ p):=by
 obtain ⟨a,e⟩:=h;unfold ky;rw[e];rfl
theorem lt_G {x y:Keyed}{st:SortSt}{Q:Option Bool→SortSt→Prop}(hO:LtG prog w A s κ kd)(hk:kindOf st=kd)(hx:Keyd κ x)(hy:Keyd κ y)(h:Q (some (κ.blt (ky κ x) (ky κ y))) st):wpS (model prog w) A E s (lt' x y) Q st:=by
 rw[lt'_eq];refine wpS_bind (wpS_get ?_);rw[hk];refine wpS_bind (wpS_lift (wpAny_attempt (hO _ x.1 y.1 _ _ _ hx.eq hy.eq ⟨rfl,?_⟩)));exact wpS_pure h
theorem zbh {xs:Array Keyed}{i:Nat}{st:SortSt}{Q:Keyed→SortSt→Prop}(hi:i < xs.size)(h:Q xs[i] st):wpS (model prog w) A E s (elem' xs i) Q st:=by
 rw[elem'_eq,ya6 hi];exact wpS_pure h
structure TB (κ:KeyKind)(kd:SortKind)(n:Nat)(st:SortSt):Prop where
 kind:kindOf st=kd
 keys:∀ p∈(arrOf st).toList,Keyd κ p
 failed:failedOf st=none
 size:(arrOf st).size=n
def kAt (κ:KeyKind)(xs:Array Keyed)(i:Nat):κ.α:=match xs[i]? with
 | some p=>ky κ p
 | none=>κ.dflt
theorem zbk {xs:Array Keyed}{i:Nat}(h:i < xs.size):kAt κ xs i=ky κ xs[i]:=by
 unfold kAt;rw[ya6 h]
theorem zby {xs ys:Array Keyed}{i j:Nat}(h:xs[i]?=ys[j]?):kAt κ xs i=kAt κ ys j:=by
 unfold kAt;rw[h]
theorem ziV {i j n:Nat}{st:SortSt}{Q:Option Bool→SortSt→Prop}(hO:LtG prog w A s κ kd)(hB:TB κ kd n st)(hi:i < n)(hj:j < n)(h:Q (some (κ.blt (kAt κ (arrOf st) i) (kAt κ (arrOf st) j))) st):wpS (model prog w) A E s (ltAt' i j) Q st:=by
 have hi':i < (arrOf st).size:=by rw[hB.size];exact hi
 have hj':j < (arrOf st).size:=by rw[hB.size];exact hj
 rw[ltAt'_eq];refine wpS_bind (wpS_get ?_);refine wpS_bind (zbh hi' (wpS_bind (zbh hj' ?_)));refine lt_G hO hB.kind (hB.keys _ (by simp)) (hB.keys _ (by simp)) ?_;rw[zbk hi',zbk hj']at h;exact h
def Up (κ:KeyKind)(xs:Array Keyed)(lo hi:Nat):Prop:=∀ i j,lo≤i→i≤j→j < hi→κ.kle (kAt κ xs i) (kAt κ xs j)
def Dn (κ:KeyKind)(xs:Array Keyed)(lo hi:Nat):Prop:=∀ i j,lo≤i→i≤j→j < hi→κ.kle (kAt κ xs j) (kAt κ xs i)
structure Off (xs ys:Array Keyed)(lo hi:Nat):Prop where
 perm:ys.Perm xs
 out:∀ k,k < lo∨hi≤k→ys[k]?=xs[k]?
theorem Off.refl (xs:Array Keyed)(lo hi:Nat):Off xs xs lo hi:=⟨Array.Perm.refl _,fun _ _=>rfl⟩
theorem Off.trans {xs ys zs:Array Keyed}{lo hi:Nat}(a:Off xs ys lo hi)(b:Off ys zs lo hi):Off xs zs lo hi:=⟨b.perm.trans a.perm,fun k h=>(b.out k h).trans (a.out k h)⟩
theorem Off.wide {xs ys:Array Keyed}{lo hi lo' hi':Nat}(a:Off xs ys lo hi)(h1:lo'≤lo)(h2:hi≤hi'):Off xs ys lo' hi':=⟨a.perm,fun k h=>a.out k (by omega)⟩
theorem Off.size {xs ys:Array Keyed}{lo hi:Nat}(a:Off xs ys lo hi):ys.size=xs.size:=a.perm.size_eq
theorem TB.off {n lo hi:Nat}{st:SortSt}{ys:Array Keyed}(hB:TB κ kd n st)(h:Off (arrOf st) ys lo hi):TB κ kd n (setArr st ys):=
 ⟨hB.kind,fun p hp=>hB.keys p ((ycv.mp h.perm).mem_iff.mp hp),hB.failed,h.size.trans hB.size⟩
theorem zc6 {xs:Array Keyed}{i j:Nat}(hj:j≤xs.size):Off xs (mirror xs i j ((j - i) / 2)) i j:=⟨mirror_perm _ _ _ _,fun k hk=>by rw[getElem?_mirror_all hj,if_neg (by omega)]⟩
theorem zfs {xs:Array Keyed}{i j k:Nat}(hj:j≤xs.size)(hk:i≤k∧k < j):kAt κ (mirror xs i j ((j - i) / 2)) k=kAt κ xs (i+j - 1 - k):=by
 apply zby
 rw[getElem?_mirror_all hj,if_pos hk]
theorem zjT {xs ys:Array Keyed}{lo hi k:Nat}(h:Off xs ys lo hi)(hk:k < lo∨hi≤k):kAt κ ys k=kAt κ xs k:=zby (h.out k hk)
theorem zh8 {xs:Array Keyed}{i j:Nat}(hj:j≤xs.size)(he:∀ k,i≤k→k < j→kAt κ xs k=kAt κ xs (j - 1))(k:Nat):kAt κ (mirror xs i j ((j - i) / 2)) k=kAt κ xs k:=by
 by_cases hk:i≤k∧k < j
 ·rw[zfs hj hk,he _ (by omega) (by omega),he k hk.1 hk.2]
 ·exact zjT (zc6 hj) (by omega)
theorem zht {i j:Nat}{st:SortSt}{Q:Unit→SortSt→Prop}(h:Q () (setArr st (mirror (arrOf st) i j ((j - i) / 2)))):wpS (model prog w) A E s (reverseSlice' i j) Q st:=by
 rw[reverseSlice'_eq];exact wpS_modify h
theorem zda {σ:Type}{n:String}{Q:Unit→σ→Prop}{st:σ}(h:Q () st):wpS (model prog w) A E s (liftM (rule n):StateT σ Sem Unit) Q st:=wpS_lift (wpAny_rule ⟨rfl,h⟩)
end
end Tim
namespace Tim
open PySem PyProof.Rows
set_option autoImplicit false
section
variable {prog:Program}{w:World}{A:Around}{E:Value→Shared→Prop}{s:Shared}{κ:KeyKind}{kd:SortKind}
def zkc (κ:KeyKind)(st:SortSt)(lo least nrem:Nat)(r:Option Nat)(st':SortSt):Prop:=
 ∃ n ys,r=some n∧least≤n∧n≤nrem∧st'=setArr st ys∧Off (arrOf st) ys lo (lo+n)∧Up κ ys lo (lo+n)
theorem zrh {xs:Array Keyed}{lo:Nat}:Up κ xs lo (lo+1):=fun i j h1 h2 h3=>by
 have:i=j:=by omega
 subst this;exact KeyOrd.kle_refl _
theorem Up.more {xs:Array Keyed}{lo hi:Nat}(h:Up κ xs lo hi)(hlo:lo < hi)(hn:κ.kle (kAt κ xs (hi - 1)) (kAt κ xs hi)):Up κ xs lo (hi+1):=fun i j h1 h2 h3=>by
 by_cases hj:j < hi
 ·exact h i j h1 h2 hj
 ·have e:j=hi:=by omega
  subst e;by_cases hi':i=j
  ·subst hi';exact KeyOrd.kle_refl _
  ·exact KeyOrd.kle_trans (h i (j - 1) h1 (by omega) (by omega)) hn
theorem Dn.more {xs:Array Keyed}{lo hi:Nat}(h:Dn κ xs lo hi)(hlo:lo < hi)(hn:κ.kle (kAt κ xs hi) (kAt κ xs (hi - 1))):Dn κ xs lo (hi+1):=fun i j h1 h2 h3=>by
 by_cases hj:j < hi
 ·exact h i j h1 h2 hj
 ·have e:j=hi:=by omega
  subst e;by_cases hi':i=j
  ·subst hi';exact KeyOrd.kle_refl _
  ·exact KeyOrd.kle_trans hn (h i (j - 1) h1 (by omega) (by omega))
theorem zpo {st:SortSt}{N lo n nrem:Nat}{Q:Option (Option Nat)×Nat→SortSt→Prop}(hO:LtG prog w A s κ kd)(hB:TB κ kd N st)(hlo:lo+nrem≤N)(h1:1≤n)(hn:n≤nrem)(hU:Up κ (arrOf st) lo (lo+n))
  (h:∀ m,n≤m→m≤nrem→Up κ (arrOf st) lo (lo+m)→(m < nrem→κ.klt (kAt κ (arrOf st) (lo+m)) (kAt κ (arrOf st) (lo+m - 1)))→Q (none,m) st) :
  wpS (model prog w) A E s (forIn [n:nrem] ((none,n):Option (Option Nat)×Nat) fun _ __s=>do
   let __x ← ltAt' (lo+__s.snd) (lo+__s.snd - 1)
   match __x with
   | some smaller=>if smaller=true then pure (ForInStep.done (none,__s.snd)) else pure (ForInStep.yield (none,__s.snd+1))
   | _=>pure (ForInStep.done (some none,__s.snd))) Q st:=by
 refine wpS_forRange (I:=fun i c st'=>st'=st∧c=(none,i)∧n≤i∧i≤nrem∧Up κ (arrOf st) lo (lo+i)) ?_ ?_ ⟨rfl,rfl,yaa _,hn,hU⟩
 ·rintro i c st' hi1 hi2 ⟨rfl,rfl,h3,h4,hU'⟩;refine wpS_bind (ziV hO hB (by omega) (by omega) ?_);dsimp only;cases e:κ.blt (kAt κ (arrOf st') (lo+i)) (kAt κ (arrOf st') (lo+i - 1)) with
  | true=>exact wpS_pure (h i h3 h4 hU' fun _=>e)
  | false=>exact wpS_pure ⟨rfl,rfl,by omega,by omega,hU'.more (by omega) e⟩
 ·rintro c st' ⟨rfl,rfl,h3,h4,hU'⟩;exact h _ h3 h4 hU' fun z=>absurd z (by omega)
theorem zlX {st:SortSt}{N lo n nrem:Nat}{Q:Option Nat→SortSt→Prop}{k:Option (Option Nat)×Nat→StateT SortSt Sem (Option Nat)}(hk:∀ m,k (none,m)=pure (some m))(hO:LtG prog w A s κ kd)(hB:TB κ kd N st)(hlo:lo+nrem≤N)(h1:1≤n)(hn:n≤nrem)(hD:Dn κ (arrOf st) lo (lo+n))
  (h:∀ r st',zkc κ st lo n nrem r st'→Q r st') :
  wpS (model prog w) A E s (do
   reverseSlice' lo (lo+n)
   let c ← forIn [n:nrem] ((none,n):Option (Option Nat)×Nat) fun _ __s=>do
    let __x ← ltAt' (lo+__s.snd) (lo+__s.snd - 1)
    match __x with
    | some smaller=>if smaller=true then pure (ForInStep.done (none,__s.snd)) else pure (ForInStep.yield (none,__s.snd+1))
    | _=>pure (ForInStep.done (some none,__s.snd))
   k c) Q st:=by
 have hz:lo+n≤(arrOf st).size:=by rw[hB.size];omega
 have hoff:=zc6 (xs:=arrOf st) (i:=lo) (j:=lo+n) hz;refine wpS_bind (zht ?_);refine wpS_bind (zpo hO (hB.off hoff) hlo h1 hn (fun i j q1 q2 q3=>?_) fun m m1 m2 hU _=>?_)
 ·rw[zfs hz (by omega),zfs hz (by omega)];exact hD _ _ (by omega) (by omega) (by omega)
 ·rw[hk];exact wpS_pure (h _ _ ⟨m,_,rfl,m1,m2,rfl,hoff.wide (yaa _) (by omega),hU⟩)
theorem zlY {st:SortSt}{N lo n nrem:Nat}{Q:Option (Option Nat)×Nat×Nat→SortSt→Prop}(hO:LtG prog w A s κ kd)(hB:TB κ kd N st)(hlo:lo+nrem≤N)(h1:1≤n)(hn:n≤nrem)(hD:Dn κ (arrOf st) lo (lo+n))
  (h:∀ m neq ys,n≤m→m≤nrem→neq < m→Off (arrOf st) ys lo (lo+m)→Dn κ ys lo (lo+m)→(∀ k,lo+m - (neq+1)≤k→k < lo+m→kAt κ ys k=kAt κ ys (lo+m - 1))→Q (none,m,neq) (setArr st ys)) :
  wpS (model prog w) A E s (forIn [n:nrem] ((none,n,0):Option (Option Nat)×Nat×Nat) fun _ __s=>do
   let __x ← ltAt' (lo+__s.snd.fst) (lo+__s.snd.fst - 1)
   match __x with
   | some smaller=>
    if smaller=true then
     if __s.snd.snd > 0 then do
      let _ ← reverseSlice' (lo+__s.snd.fst - (__s.snd.snd+1)) (lo+__s.snd.fst)
      pure (ForInStep.yield (none,__s.snd.fst+1,0))
     else pure (ForInStep.yield (none,__s.snd.fst+1,0))
    else do
     let __x ← ltAt' (lo+__s.snd.fst - 1) (lo+__s.snd.fst)
     match __x with
     | some larger=>
      if larger=true then pure (ForInStep.done (none,__s.snd.fst,__s.snd.snd))
      else pure (ForInStep.yield (none,__s.snd.fst+1,__s.snd.snd+1))
     | _=>pure (ForInStep.done (some none,__s.snd.fst,__s.snd.snd))
   | _=>pure (ForInStep.done (some none,__s.snd.fst,__s.snd.snd))) Q st:=by
 refine wpS_forRange (I:=fun i c st'=>∃ neq ys,st'=setArr st ys∧c=(none,i,neq)∧n≤i∧i≤nrem∧neq < i∧Off (arrOf st) ys lo (lo+i)∧Dn κ ys lo (lo+i)∧∀ k,lo+i - (neq+1)≤k→k < lo+i→kAt κ ys k=kAt κ ys (lo+i - 1)) ?_ ?_ ⟨0,arrOf st,rfl,rfl,yaa _,hn,h1,Off.refl _ _ _,hD,fun k q1 q2=>by rw[show k=lo+n - 1 by omega]⟩
 ·rintro i c st' hi1 hi2 ⟨neq,ys,rfl,rfl,h3,h4,h5,ho,hD',he⟩;have hB':TB κ kd N (setArr st ys):=hB.off ho;have hz:lo+i≤ys.size:=by rw[ho.size,hB.size];omega
  dsimp only;refine wpS_bind (ziV hO hB' (by omega) (by omega) ?_);dsimp only;cases e:κ.blt (kAt κ ys (lo+i)) (kAt κ ys (lo+i - 1)) with
  | true=>
   simp only[if_true];by_cases hq:neq > 0
   ·rw[if_pos hq];have hoff:=zc6 (xs:=ys) (i:=lo+i - (neq+1)) (j:=lo+i) hz;have hk:=zh8 (κ:=κ) hz he;refine wpS_bind (zht (wpS_pure ⟨0,_,rfl,rfl,by omega,by omega,by omega,ho.wide (yaa _) (by omega) |>.trans (hoff.wide (by omega) (by omega)),?_,fun k q1 q2=>by rw[show k=lo+(i+1) - 1 by omega]⟩));have:Dn κ (mirror ys (lo+i - (neq+1)) (lo+i) ((lo+i - (lo+i - (neq+1))) / 2)) lo (lo+i):=fun a b q1 q2 q3=>by rw[hk,hk];exact hD' a b q1 q2 q3
    exact this.more (by omega) (by rw[hk,hk];exact KeyOrd.kle_of_klt e)
   ·rw[if_neg hq];exact wpS_pure ⟨0,ys,rfl,rfl,by omega,by omega,by omega,ho.wide (yaa _) (by omega),hD'.more (by omega) (KeyOrd.kle_of_klt e),fun k q1 q2=>by rw[show k=lo+(i+1) - 1 by omega]⟩
  | false=>
   simp only[yaX,if_false];refine wpS_bind (ziV hO hB' (by omega) (by omega) ?_);dsimp only;cases e2:κ.blt (kAt κ ys (lo+i - 1)) (kAt κ ys (lo+i)) with
   | true=>exact wpS_pure (h i neq ys h3 h4 h5 ho hD' he)
   | false=>
    have eq:kAt κ ys (lo+i)=kAt κ ys (lo+i - 1):=κ.total _ _ e e2;refine wpS_pure ⟨neq+1,ys,rfl,rfl,by omega,by omega,by omega,ho.wide (yaa _) (by omega),hD'.more (by omega) (by rw[eq];exact KeyOrd.kle_refl _),fun k q1 q2=>?_⟩;rw[show lo+(i+1) - 1=lo+i by omega,eq];by_cases hk:k=lo+i
    ·rw[hk];exact eq
    ·exact he k (by omega) (by omega)
 ·rintro c st' ⟨neq,ys,rfl,rfl,h3,h4,h5,ho,hD',he⟩;exact h _ neq ys h3 h4 h5 ho hD' he
theorem zkg {st:SortSt}{N lo n nrem m neq:Nat}{ys:Array Keyed}{Q:Option Nat→SortSt→Prop}{t:StateT SortSt Sem (Option Nat)}(hB:TB κ kd N st)(hlo:lo+nrem≤N)(m1:n+1≤m)(m2:m≤nrem)(m3:neq < m)
  (ho:Off (arrOf st) ys lo (lo+m)) (hD:Dn κ ys lo (lo+m)) (he:∀ k,lo+m - (neq+1)≤k→k < lo+m→kAt κ ys k=kAt κ ys (lo+m - 1)) (h:∀ r st',zkc κ st lo (n+1) nrem r st'→Q r st')
  (ht:∀ st',TB κ kd N st'→Dn κ (arrOf st') lo (lo+m)→(∀ r st'',zkc κ st' lo m nrem r st''→Q r st'')→wpS (model prog w) A E s t Q st') :
  wpS (model prog w) A E s (if neq > 0 then do
   let _ ← reverseSlice' (lo+m - (neq+1)) (lo+m)
   t else t) Q (setArr st ys):=by
 have hz:lo+m≤ys.size:=by rw[ho.size,hB.size];omega
 have back:∀ zs,Off (arrOf st) zs lo (lo+m)→∀ r st',zkc κ (setArr st zs) lo m nrem r st'→Q r st':=fun zs hz r st' hr=>by
  obtain ⟨q,vs,e1,e2,e3,e4,e5,e6⟩:=hr;exact h r st' ⟨q,vs,e1,by omega,e3,e4,(hz.wide (yaa _) (by omega)).trans e5,e6⟩
 by_cases hq:neq > 0
 ·rw[if_pos hq];have hoff:=zc6 (xs:=ys) (i:=lo+m - (neq+1)) (j:=lo+m) hz;have hk:=zh8 (κ:=κ) hz he;have ho2:=ho.trans (hoff.wide (by omega) (yaa _));refine wpS_bind (zht ?_);refine ht _ (hB.off ho2) (fun a b q1 q2 q3=>?_) (back _ ho2);show κ.kle (kAt κ (mirror ys (lo+m - (neq+1)) (lo+m) ((lo+m - (lo+m - (neq+1))) / 2)) b) (kAt κ (mirror ys (lo+m - (neq+1)) (lo+m) ((lo+m - (lo+m - (neq+1))) / 2)) a);rw[hk,hk];exact hD a b q1 q2 q3
 ·rw[if_neg hq];exact ht _ (hB.off ho) hD (back _ ho)
theorem zjp {st:SortSt}{N lo nrem:Nat}{Q:Option Nat→SortSt→Prop}(hO:LtG prog w A s κ kd)(hB:TB κ kd N st)(hlo:lo+nrem≤N)(h1:1≤nrem)(h:∀ r st',zkc κ st lo 1 nrem r st'→Q r st') :
  wpS (model prog w) A E s (countRun' lo nrem) Q st:=by
 rw[countRun'_eq];refine wpS_bind (zpo hO hB hlo (yaa 1) h1 zrh fun m m1 m2 hU hnext=>?_);dsimp only;by_cases hm:m=nrem
 ·rw[if_pos (by simpa using hm)];exact wpS_pure (h _ _ ⟨m,arrOf st,rfl,m1,m2,rfl,Off.refl _ _ _,hU⟩)
 ·rw[if_neg (by simpa using hm)];have hnx:=hnext (by omega);by_cases hm1:m > 1
  ·rw[if_pos hm1];refine wpS_bind (ziV hO hB (by omega) (by omega) ?_);cases e:κ.blt (kAt κ (arrOf st) lo) (kAt κ (arrOf st) (lo+m - 1)) with
   | true=>
    simp only[if_true];exact wpS_pure (h _ _ ⟨m,arrOf st,rfl,m1,m2,rfl,Off.refl _ _ _,hU⟩)
   | false=>
    simp only[yaX,if_false];have hz:lo+m≤(arrOf st).size:=by rw[hB.size];omega
    have hoff:=zc6 (xs:=arrOf st) (i:=lo) (j:=lo+m) hz;have all:∀ k,lo≤k→k < lo+m→kAt κ (arrOf st) k=kAt κ (arrOf st) (lo+m - 1):=fun k q1 q2=>
     KeyOrd.kle_antisymm (hU k (lo+m - 1) q1 (by omega) (by omega)) (KeyOrd.kle_trans (show κ.kle (kAt κ (arrOf st) (lo+m - 1)) (kAt κ (arrOf st) lo) from e) (hU lo k (yaa _) q1 q2))
    have hk:=zh8 (κ:=κ) hz all;refine wpS_bind (zht ?_);have fin:∀ r st',zkc κ (setArr st (mirror (arrOf st) lo (lo+m) ((lo+m - lo) / 2))) lo (m+1) nrem r st'→Q r st':=fun r st' hr=>by
     obtain ⟨q,vs,e1,e2,e3,e4,e5,e6⟩:=hr;exact h r st' ⟨q,vs,e1,by omega,e3,e4,(hoff.wide (yaa _) (by omega)).trans e5,e6⟩
    refine wpS_bind (zda (wpS_bind (zlY hO (hB.off hoff) hlo (by omega) (by omega) ?_ fun m' neq ys p1 p2 p3 ho hD' he=>?_)))
    rotate_left
    ·dsimp only;exact zkg (n:=m) (hB.off hoff) hlo p1 p2 p3 ho hD' he fin fun st' hB' hDD hh=>zlX (fun _=>rfl) hO hB' hlo (by omega) p2 hDD hh
    ·have d0:Dn κ (arrOf st) lo (lo+m):=fun a b q1 q2 q3=>by rw[all a q1 (by omega),all b (by omega) q3];exact KeyOrd.kle_refl _
     have d1:=d0.more (by omega) (KeyOrd.kle_of_klt hnx);intro a b q1 q2 q3;show κ.kle (kAt κ (mirror (arrOf st) lo (lo+m) ((lo+m - lo) / 2)) b) (kAt κ (mirror (arrOf st) lo (lo+m) ((lo+m - lo) / 2)) a);rw[hk,hk];exact d1 a b q1 q2 (by omega)
  ·rw[if_neg hm1];have e1:m=1:=by omega
   subst e1;have fin:∀ r st',zkc κ st lo (1+1) nrem r st'→Q r st':=fun r st' hr=>by
    obtain ⟨q,vs,e1,e2,e3,e4,e5,e6⟩:=hr;exact h r st' ⟨q,vs,e1,by omega,e3,e4,e5,e6⟩
   refine wpS_bind (zda (wpS_bind (zlY hO hB hlo (by omega) (by omega) ?_ fun m' neq ys p1 p2 p3 ho hD' he=>?_)))
   rotate_left
   ·dsimp only;exact zkg (n:=1) hB hlo p1 p2 p3 ho hD' he fin fun st' hB' hDD hh=>zlX (fun _=>rfl) hO hB' hlo (by omega) p2 hDD hh
   ·intro a b q1 q2 q3;by_cases hab:a=b
    ·subst hab;exact KeyOrd.kle_refl _
    ·have ea:a=lo+1 - 1:=by omega
     have eb:b=lo+1:=by omega
     rw[ea,eb];exact KeyOrd.kle_of_klt hnx
end
end Tim
namespace Tim
open PySem PyProof.Rows
set_option autoImplicit false
section
variable {prog:Program}{w:World}{A:Around}{E:Value→Shared→Prop}{s:Shared}{κ:KeyKind}{kd:SortKind}
theorem zlz {xs:Array Keyed}{src dst hi:Nat}(hs:src < xs.size)(hd:dst≤src)(hh:src < hi):Off xs (bubble xs src (src - dst)) dst hi:=
 ⟨bubble_perm _ _ _,fun k hk=>by
  rw[getElem?_bubble hs _ (by omega)];rw[if_neg (by omega),if_neg (by omega)]⟩
theorem zhc {xs:Array Keyed}{src dst:Nat}(hs:src < xs.size)(hd:dst≤src)(k:Nat):kAt κ (bubble xs src (src - dst)) k=if k=dst then kAt κ xs src else if dst < k∧k≤src then kAt κ xs (k - 1) else kAt κ xs k:=by
 have e:=getElem?_bubble hs (src - dst) (by omega) k;rw[show src - (src - dst)=dst by omega]at e;by_cases h1:k=dst
 ·rw[if_pos h1]at e ⊢;exact zby e
 ·rw[if_neg h1]at e ⊢;by_cases h2:dst < k∧k≤src
  ·rw[if_pos h2]at e ⊢;exact zby e
  ·rw[if_neg h2]at e ⊢;exact zby e
theorem zhs {st:SortSt}{N lo n ok:Nat}{Q:Bool→SortSt→Prop}(hO:LtG prog w A s κ kd)(hB:TB κ kd N st)(hlo:lo+n≤N)(hok:ok≤n)(hU:Up κ (arrOf st) lo (lo+ok))
  (h:∀ ys,Off (arrOf st) ys lo (lo+n)→Up κ ys lo (lo+n)→Q true (setArr st ys)):wpS (model prog w) A E s (binarySort' lo n ok) Q st:=by
 rw[binarySort'_eq];refine wpS_bind (wpS_mono (wpS_forRange (I:=fun k c st'=>c=(none,())∧∃ ys,st'=setArr st ys∧Off (arrOf st) ys lo (lo+n)∧Up κ ys lo (lo+min k n))
  (Q:=fun c st'=>c=(none,())∧∃ ys,st'=setArr st ys∧Off (arrOf st) ys lo (lo+n)∧Up κ ys lo (lo+n)) ?step ?fin ?init) ?post)
 case post=>
  rintro c st' ⟨rfl,ys,rfl,ho,hu⟩;exact wpS_pure (h ys ho hu)
 case init=>
  refine ⟨rfl,arrOf st,rfl,Off.refl _ _ _,fun i j h1 h2 h3=>?_⟩;by_cases hz:j < lo+ok
  ·exact hU i j h1 h2 hz
  ·have:i=j:=by omega
   subst this;exact KeyOrd.kle_refl _
 case fin=>
  rintro c st' ⟨rfl,ys,rfl,ho,hu⟩;refine ⟨rfl,ys,rfl,ho,?_⟩;rwa[show min (max (max ok 1) n) n=n by omega]at hu
 case step=>
  rintro k c st' hk1 hk2 ⟨rfl,ys,rfl,ho,hu⟩;rw[show min k n=k by omega]at hu;have hB':TB κ kd N (setArr st ys):=hB.off ho;have hz:ys.size=N:=by rw[ho.size,hB.size]
  refine wpS_bind (wpS_mono (wpS_forRange (I:=fun x c st''=>st''=setArr st ys∧∃ l r,c=(none,l,r)∧l≤r∧r≤k∧r - l≤k - x∧
    (∀ i,i < l→κ.kle (kAt κ ys (lo+i)) (kAt κ ys (lo+k)))∧(∀ i,r≤i→i < k→κ.klt (kAt κ ys (lo+k)) (kAt κ ys (lo+i))))
   (Q:=fun c st''=>st''=setArr st ys∧∃ l r,c=(none,l,r)∧l≤k∧
    (∀ i,i < l→κ.kle (kAt κ ys (lo+i)) (kAt κ ys (lo+k)))∧(∀ i,l≤i→i < k→κ.klt (kAt κ ys (lo+k)) (kAt κ ys (lo+i)))) ?istep ?ifin ?iinit) ?ipost)
  case iinit=>exact ⟨rfl,0,k,rfl,by omega,by omega,by omega,fun i hi=>by omega,fun i h1 h2=>by omega⟩
  case ifin=>
   rintro c st'' ⟨rfl,l,r,rfl,hlr,hrk,hm,a1,a2⟩;have:l=r:=by omega
   subst this;exact ⟨rfl,l,l,rfl,hrk,a1,a2⟩
  case istep=>
   rintro x c st'' _ hxk ⟨rfl,l,r,rfl,hlr,hrk,hm,a1,a2⟩;dsimp only;by_cases hge:l ≥ r
   ·rw[if_pos hge];have:l=r:=by omega
    subst this;exact wpS_pure ⟨rfl,l,l,rfl,hrk,a1,a2⟩
   ·rw[if_neg hge];refine wpS_bind (ziV hO hB' (by omega) (by omega) ?_);dsimp only;cases e:κ.blt (kAt κ ys (lo+k)) (kAt κ ys (lo+(l+r) / 2)) with
    | true=>
     refine wpS_pure ⟨rfl,l,(l+r) / 2,rfl,by omega,by omega,by omega,a1,fun i h1 h2=>?_⟩;exact KeyOrd.klt_of_klt_of_kle e (hu _ _ (by omega) (by omega) (by omega))
    | false=>
     refine wpS_pure ⟨rfl,(l+r) / 2+1,r,rfl,by omega,by omega,by omega,fun i h1=>?_,a2⟩;exact KeyOrd.kle_trans (hu (lo+i) (lo+(l+r) / 2) (by omega) (by omega) (by omega)) (show κ.kle (kAt κ ys (lo+(l+r) / 2)) (kAt κ ys (lo+k)) from e)
  case ipost=>
   rintro c st'' ⟨rfl,l,r,rfl,hlk,a1,a2⟩;dsimp only;rw[moveDown'_eq];refine wpS_bind (wpS_modify (wpS_pure ⟨rfl,_,rfl,ho.trans ((zlz (hi:=lo+n) (by rw[hz];omega) (by omega) (by omega)).wide (by omega) (yaa _)),?_⟩));rw[show min (k+1) n=k+1 by omega];intro i j h1 h2 h3;show κ.kle (kAt κ (bubble ys (lo+k) (lo+k - (lo+l))) i) (kAt κ (bubble ys (lo+k) (lo+k - (lo+l))) j);rw[zhc (by rw[hz];omega) (by omega),zhc (by rw[hz];omega) (by omega)];have lowS:∀ i,lo≤i→i < lo+l→κ.kle (kAt κ ys i) (kAt κ ys (lo+k)):=fun i q1 q2=>by
    have:=a1 (i - lo) (by omega);rw[show lo+(i - lo)=i by omega]at this;exact this
   have highS:∀ i,lo+l≤i→i < lo+k→κ.kle (kAt κ ys (lo+k)) (kAt κ ys i):=fun i q1 q2=>by
    have:=a2 (i - lo) (by omega) (by omega);rw[show lo+(i - lo)=i by omega]at this;exact KeyOrd.kle_of_klt this
   by_cases i1:i=lo+l
   ·rw[if_pos i1];by_cases j1:j=lo+l
    ·rw[if_pos j1];exact KeyOrd.kle_refl _
    ·rw[if_neg j1,if_pos (by omega)];exact highS _ (by omega) (by omega)
   ·rw[if_neg i1];by_cases i2:lo+l < i∧i≤lo+k
    ·rw[if_pos i2,if_neg (by omega),if_pos (by omega)];exact hu _ _ (by omega) (by omega) (by omega)
    ·rw[if_neg i2];by_cases j1:j=lo+l
     ·rw[if_pos j1];exact lowS i h1 (by omega)
     ·rw[if_neg j1];by_cases j2:lo+l < j∧j≤lo+k
      ·rw[if_pos j2];exact hu _ _ h1 (by omega) (by omega)
      ·rw[if_neg j2];exact hu _ _ h1 h2 (by omega)
end
end Tim
namespace Tim
open PySem PyProof.Rows
set_option autoImplicit false
section
variable {M:Model}{A:Around}{E:Value→Shared→Prop}{s:Shared}{st:SortSt}{n hint:Nat}{p:Nat→Bool}
abbrev C2:=Option (Option Nat)×Nat×Nat
theorem znV {Q:C2→SortSt→Prop}{f:Nat→C2→StateT SortSt Sem (ForInStep C2)}(hn:hint < n)(hp:p hint=true)
  (f1:∀ x l o,o ≥ n - hint→f x (none,l,o)=pure (.done (none,l,o)))
  (f2:∀ x l o (R:ForInStep C2→SortSt→Prop),o < n - hint→(p (hint+o)=true→R (.yield (none,o,2 * o+1)) st)→(p (hint+o)=false→R (.done (none,l,o)) st)→wpS M A E s (f x (none,l,o)) R st)
  (h:∀ l o,l < o→hint+l < n→p (hint+l)=true→(o < n - hint→p (hint+o)=false)→Q (none,l,o) st):wpS M A E s (forIn [:n] ((none,0,1):C2) f) Q st:=by
 refine wpS_forRange (I:=fun i c st'=>st'=st∧∃ l o,c=(none,l,o)∧l < o∧i+1≤o∧hint+l < n∧p (hint+l)=true) ?_ ?_ ⟨rfl,0,1,rfl,by omega,by omega,by omega,hp⟩
 ·rintro i c st' _ hi ⟨rfl,l,o,rfl,h1,h2,h3,h4⟩;by_cases ho:o ≥ n - hint
  ·rw[f1 i l o ho];exact wpS_pure (h l o h1 h3 h4 fun z=>absurd z (by omega))
  ·refine f2 i l o _ (by omega) (fun e=>?_) fun e=>?_
   ·exact ⟨rfl,o,2 * o+1,rfl,by omega,by omega,by omega,e⟩
   ·exact h l o h1 h3 h4 fun _=>e
 ·rintro c st' ⟨rfl,l,o,rfl,h1,h2,h3,h4⟩;exact h l o h1 h3 h4 fun z=>absurd z (by omega)
theorem zpM {Q:C2→SortSt→Prop}{f:Nat→C2→StateT SortSt Sem (ForInStep C2)}(hn:hint < n)(hp:p hint=false)
  (f1:∀ x l o,o ≥ hint+1→f x (none,l,o)=pure (.done (none,l,o)))
  (f2:∀ x l o (R:ForInStep C2→SortSt→Prop),o < hint+1→(p (hint - o)=false→R (.yield (none,o,2 * o+1)) st)→(p (hint - o)=true→R (.done (none,l,o)) st)→wpS M A E s (f x (none,l,o)) R st)
  (h:∀ l o,l < o→l≤hint→p (hint - l)=false→(o < hint+1→p (hint - o)=true)→Q (none,l,o) st):wpS M A E s (forIn [:n] ((none,0,1):C2) f) Q st:=by
 refine wpS_forRange (I:=fun i c st'=>st'=st∧∃ l o,c=(none,l,o)∧l < o∧i+1≤o∧l≤hint∧p (hint - l)=false) ?_ ?_ ⟨rfl,0,1,rfl,by omega,by omega,by omega,hp⟩
 ·rintro i c st' _ hi ⟨rfl,l,o,rfl,h1,h2,h3,h4⟩;by_cases ho:o ≥ hint+1
  ·rw[f1 i l o ho];exact wpS_pure (h l o h1 h3 h4 fun z=>absurd z (by omega))
  ·refine f2 i l o _ (by omega) (fun e=>?_) fun e=>?_
   ·exact ⟨rfl,o,2 * o+1,rfl,by omega,by omega,by omega,e⟩
   ·exact h l o h1 h3 h4 fun _=>e
 ·rintro c st' ⟨rfl,l,o,rfl,h1,h2,h3,h4⟩;exact h l o h1 h3 h4 fun z=>absurd z (by omega)
theorem zkf {Q:Option Nat→SortSt→Prop}{lo hi:Nat}{f:Nat→C2→StateT SortSt Sem (ForInStep C2)}{k:C2→StateT SortSt Sem (Option Nat)}
  (anti:∀ i j,i≤j→j < n→p j=true→p i=true) (h1:lo≤hi) (h2:hi≤n) (hl:∀ i,i < lo→p i=true) (hh:∀ i,hi≤i→i < n→p i=false)
  (f1:∀ x l r,l ≥ r→f x (none,l,r)=pure (.done (none,l,r)))
  (f2:∀ x l r (R:ForInStep C2→SortSt→Prop),l < r→r≤n→(p (l+(r - l) / 2)=true→R (.yield (none,l+(r - l) / 2+1,r)) st)→(p (l+(r - l) / 2)=false→R (.yield (none,l,l+(r - l) / 2)) st)→wpS M A E s (f x (none,l,r)) R st)
  (hk:∀ l r,k (none,l,r)=pure (some r))
  (h:∀ m,m≤n→(∀ i,i < m→p i=true)→(∀ i,m≤i→i < n→p i=false)→Q (some m) st):wpS M A E s (do let c ← forIn [:n] ((none,lo,hi):C2) f;k c) Q st:=by
 refine wpS_bind (wpS_mono (wpS_forRange (I:=fun x c st'=>st'=st∧∃ l r,c=(none,l,r)∧l≤r∧r≤n∧r - l≤n - x∧(∀ i,i < l→p i=true)∧∀ i,r≤i→i < n→p i=false)
  (Q:=fun c st'=>st'=st∧∃ m,c=(none,m,m)∧m≤n∧(∀ i,i < m→p i=true)∧∀ i,m≤i→i < n→p i=false) ?_ ?_ ⟨rfl,lo,hi,rfl,h1,h2,by omega,hl,hh⟩) ?_)
 ·rintro x c st' _ hx ⟨rfl,l,r,rfl,a1,a2,a3,a4,a5⟩;by_cases hge:l ≥ r
  ·rw[f1 x l r hge];have:l=r:=by omega
   subst this;exact wpS_pure ⟨rfl,l,rfl,a2,a4,a5⟩
  ·refine f2 x l r _ (by omega) a2 (fun e=>?_) fun e=>?_
   ·exact ⟨rfl,_,r,rfl,by omega,a2,by omega,fun i hi=>anti i _ (by omega) (by omega) e,a5⟩
   ·refine ⟨rfl,l,_,rfl,by omega,by omega,by omega,a4,fun i q1 q2=>?_⟩;cases z:p i with
    | false=>rfl
    | true=>rw[anti _ i q1 q2 z]at e;cases e
 ·rintro c st' ⟨rfl,l,r,rfl,a1,a2,a3,a4,a5⟩;have:l=r:=by omega
  subst this;exact ⟨rfl,l,rfl,a2,a4,a5⟩
 ·rintro c st' ⟨rfl,m,rfl,a2,a4,a5⟩;rw[hk];exact wpS_pure (h m a2 a4 a5)
end
def zjW:Bool→Keyed→Array Keyed→Nat→Nat→Nat→StateT SortSt Sem (Option Nat):=sortPriv% PySem.Builtin.gallop
section
variable {prog:Program}{w:World}{A:Around}{E:Value→Shared→Prop}{s:Shared}{κ:KeyKind}{kd:SortKind}
def bey (κ:KeyKind)(left:Bool)(key:Keyed)(arr:Array Keyed)(base i:Nat):Bool:=if left=true then κ.blt (kAt κ arr (base+i)) (ky κ key) else !κ.blt (ky κ key) (kAt κ arr (base+i))
theorem zc1 {st:SortSt}{left:Bool}{key:Keyed}{arr:Array Keyed}{base n hint:Nat}{Q:Option Nat→SortSt→Prop}(hO:LtG prog w A s κ kd)(hkd:kindOf st=kd)(hkey:Keyd κ key)(hks:∀ q∈arr.toList,Keyd κ q)
  (hz:base+n≤arr.size) (hn:hint < n) (hU:Up κ arr base (base+n))
  (h:∀ m,m≤n→(∀ i,i < m→bey κ left key arr base i=true)→(∀ i,m≤i→i < n→bey κ left key arr base i=false)→Q (some m) st):wpS (model prog w) A E s (zjW left key arr base n hint) Q st:=by
 have anti:∀ i j,i≤j→j < n→bey κ left key arr base j=true→bey κ left key arr base i=true:=by
  intro i j hij hj;have hle:=hU (base+i) (base+j) (by omega) (by omega) (by omega);unfold bey;cases left with
  | true=>
   simp only[if_true];intro e;exact KeyOrd.klt_of_kle_of_klt hle e
  | false=>
   simp only[yaX,if_false];intro e;cases z:κ.blt (ky κ key) (kAt κ arr (base+i)) with
   | false=>rfl
   | true=>
    have:κ.blt (ky κ key) (kAt κ arr (base+j))=true:=KeyOrd.klt_of_klt_of_kle z hle;rw[this]at e;cases e
 have hb:∀ i (R:Option Bool→SortSt→Prop),i < n→R (some (bey κ left key arr base i)) st→wpS (model prog w) A E s (do
   let x ← elem' arr (base+i)
   if left=true then lt' x key else do
    let r ← lt' key x
    pure (Option.map (fun b=>!b) r)) R st:=fun i R hi hR=>by
  have hi':base+i < arr.size:=by omega
  refine wpS_bind (zbh hi' ?_);have hkx:Keyd κ arr[base+i]:=hks _ (by simp);unfold bey at hR;rw[zbk hi']at hR;cases left with
  | true=>
   rw[if_pos rfl]at hR ⊢;exact lt_G hO hkd hkx hkey hR
  | false=>
   rw[if_neg (by decide)]at hR ⊢;exact wpS_bind (lt_G hO hkd hkey hkx (wpS_pure hR))
 refine wpS_bind (hb hint _ hn ?_);dsimp only;generalize bey κ left key arr base=p at *;cases e0:p hint with
 | true=>
  simp only[if_true];refine wpS_bind (znV (p:=p) hn e0 (fun x l o ho=>?_) (fun x l o R ho r1 r2=>?_) fun l o a1 a2 a3 a4=>?_)
  ·dsimp only;rw[if_pos ho]
  ·dsimp only;rw[if_neg (by omega)];refine wpS_bind (hb (hint+o) _ (by omega) ?_);dsimp only;cases e:p (hint+o) with
   | true=>exact wpS_pure (r1 e)
   | false=>exact wpS_pure (r2 e)
  ·dsimp only;refine zkf (p:=p) anti (by omega) (by omega) (fun i hi=>anti i (hint+l) (by omega) a2 a3) (fun i q1 q2=>?_) (fun x l r hge=>?_) (fun x l r R q1 q2 r1 r2=>?_) (fun _ _=>rfl) h
   ·by_cases ho:o < n - hint
    ·cases z:p i with
     | false=>rfl
     | true=>
      have:=anti (hint+o) i (by omega) q2 z;rw[a4 ho]at this;cases this
    ·exact absurd q2 (by omega)
   ·dsimp only;rw[if_pos hge]
   ·dsimp only;rw[if_neg (by omega)];refine wpS_bind (hb _ _ (by omega) ?_);dsimp only;cases e:p (l+(r - l) / 2) with
    | true=>exact wpS_pure (r1 e)
    | false=>exact wpS_pure (r2 e)
 | false=>
  simp only[yaX,if_false];refine wpS_bind (zpM (p:=p) hn e0 (fun x l o ho=>?_) (fun x l o R ho r1 r2=>?_) fun l o a1 a2 a3 a4=>?_)
  ·dsimp only;rw[if_pos ho]
  ·dsimp only;rw[if_neg (by omega)];refine wpS_bind (hb (hint - o) _ (by omega) ?_);dsimp only;cases e:p (hint - o) with
   | true=>exact wpS_pure (r2 e)
   | false=>exact wpS_pure (r1 e)
  ·dsimp only;refine zkf (p:=p) anti (by omega) (by omega) (fun i hi=>?_) (fun i q1 q2=>?_) (fun x l r hge=>?_) (fun x l r R q1 q2 r1 r2=>?_) (fun _ _=>rfl) h
   ·by_cases ho:o < hint+1
    ·exact anti i (hint - o) (by omega) (by omega) (a4 ho)
    ·exact absurd hi (by omega)
   ·cases z:p i with
    | false=>rfl
    | true=>
     have:=anti (hint - l) i (by omega) q2 z;rw[a3]at this;cases this
   ·dsimp only;rw[if_pos hge]
   ·dsimp only;rw[if_neg (by omega)];refine wpS_bind (hb _ _ (by omega) ?_);dsimp only;cases e:p (l+(r - l) / 2) with
    | true=>exact wpS_pure (r1 e)
    | false=>exact wpS_pure (r2 e)
end
end Tim
namespace Tim
open PySem PyProof.Rows
set_option autoImplicit false
section
variable {κ:KeyKind}
def le (κ:KeyKind)(x y:Keyed):Prop:=κ.kle (ky κ x) (ky κ y)
theorem le_refl (x:Keyed):le κ x x:=KeyOrd.kle_refl _
theorem le_trans {x y z:Keyed}(h1:le κ x y)(h2:le κ y z):le κ x z:=KeyOrd.kle_trans h1 h2
abbrev SL (κ:KeyKind)(l:List Keyed):Prop:=l.Pairwise (le κ)
theorem SL.drop {l:List Keyed}(h:SL κ l)(n:Nat):SL κ (l.drop n):=h.sublist (yb7 n l)
theorem SL.take {l:List Keyed}(h:SL κ l)(n:Nat):SL κ (l.take n):=h.sublist (List.take_sublist n l)
theorem ze7 {xs:Array Keyed}{i:Nat}(h:i < xs.size):xs.toList.drop i=xs[i]::xs.toList.drop (i+1):=by
 have h':i < xs.toList.length:=by simpa using h
 rw[ybW h'];simp
theorem zdO {xs:Array Keyed}{i:Nat}(hs:SL κ xs.toList)(h:i < xs.size):∀ y∈xs.toList.drop i,le κ xs[i] y:=by
 intro y hy;have q:=hs.drop i;rw[ze7 h]at q hy;rcases yam.mp hy with rfl | hy
 ·exact le_refl _
 ·exact (yb8.mp q).1 y hy
theorem zex {xs:Array Keyed}{i k:Nat}{x:Keyed}(h:x∈(xs.toList.drop i).take k):∃ j,j < k∧i+j < xs.size∧xs[i+j]?=some x:=by
 obtain ⟨j,hj,e⟩:=List.mem_iff_getElem.mp h;have hj':=hj;rw[yaq,yaR,yax]at hj';refine ⟨j,by omega,by omega,?_⟩;rw[List.getElem_take,List.getElem_drop]at e;rw[ya6 (by omega)];simpa using e
theorem zdr {xs:Array Keyed}{i:Nat}{x:Keyed}(h:xs[i]?=some x):kAt κ xs i=ky κ x:=by
 unfold kAt;rw[h]
theorem zhw {xs:Array Keyed}(hs:SL κ xs.toList)(lo hi:Nat)(hh:hi≤xs.size):Up κ xs lo hi:=by
 intro i j h1 h2 h3;have hj:j < xs.size:=by omega
 have hi:i < xs.size:=by omega
 rw[zbk hi,zbk hj];refine zdO hs hi _ ?_;rw[List.mem_iff_getElem];refine ⟨j - i,by rw[yaR,yax];omega,?_⟩;rw[List.getElem_drop];simp[show i+(j - i)=j by omega]
theorem zqA {xs:Array Keyed}(h:Up κ xs 0 xs.size):SL κ xs.toList:=by
 rw[SL,yaY];intro i j hi hj hij;have hi':i < xs.size:=by simpa using hi
 have hj':j < xs.size:=by simpa using hj
 have:=h i j (yaC _) (by omega) hj';rw[zbk hi',zbk hj']at this;simpa [le] using this
structure MI (κ:KeyKind)(a b:Array Keyed)(out:Array Keyed)(ia ib:Nat):Prop where
 perm:(out.toList++(a.toList.drop ia++b.toList.drop ib)).Perm (a.toList++b.toList)
 srt:SL κ out.toList
 low:∀ x∈out.toList,∀ y∈a.toList.drop ia++b.toList.drop ib,le κ x y
variable {a b out:Array Keyed}{ia ib:Nat}
theorem MI.goA {out':Array Keyed}{k:Nat}(h:MI κ a b out ia ib)(sa:SL κ a.toList)(ho:out'.toList=out.toList++(a.toList.drop ia).take k)(hle:∀ x∈(a.toList.drop ia).take k,∀ y∈b.toList.drop ib,le κ x y):MI κ a b out' (ia+k) ib:=by
 have e:a.toList.drop ia=(a.toList.drop ia).take k++a.toList.drop (ia+k):=by
  rw[← ybG,yaS]
 have s1:=sa.drop ia;rw[e]at s1;obtain ⟨p1,p2,p3⟩:=yaI.mp s1;refine ⟨?_,?_,?_⟩
 ·have q:=h.perm;rw[e]at q;rw[ho];simpa [yaM] using q
 ·rw[ho];exact yaI.mpr ⟨h.srt,p1,fun x hx y hy=>h.low x hx y (ya0 _ (ybH hy))⟩
 ·intro x hx y hy;rw[ho]at hx;rcases yaj.mp hx with hx | hx
  ·refine h.low x hx y ?_;rcases yaj.mp hy with hy | hy
   ·refine ya0 _ ?_;rw[e];exact yay _ hy
   ·exact yay _ hy
  ·rcases yaj.mp hy with hy | hy
   ·exact p3 x hx y hy
   ·exact hle x hx y hy
theorem MI.goB {out':Array Keyed}{k:Nat}(h:MI κ a b out ia ib)(sb:SL κ b.toList)(ho:out'.toList=out.toList++(b.toList.drop ib).take k)(hle:∀ x∈(b.toList.drop ib).take k,∀ y∈a.toList.drop ia,le κ x y):MI κ a b out' ia (ib+k):=by
 have e:b.toList.drop ib=(b.toList.drop ib).take k++b.toList.drop (ib+k):=by
  rw[← ybG,yaS]
 have s1:=sb.drop ib;rw[e]at s1;obtain ⟨p1,p2,p3⟩:=yaI.mp s1;refine ⟨?_,?_,?_⟩
 ·have q:=h.perm;rw[e]at q;rw[ho];refine List.Perm.trans ?_ q;rw[yaM];refine List.Perm.append_left _ ?_;rw[← yaM,← yaM];exact List.Perm.append_right _ ybX
 ·rw[ho];exact yaI.mpr ⟨h.srt,p1,fun x hx y hy=>h.low x hx y (yay _ (ybH hy))⟩
 ·intro x hx y hy;rw[ho]at hx;rcases yaj.mp hx with hx | hx
  ·refine h.low x hx y ?_;rcases yaj.mp hy with hy | hy
   ·exact ya0 _ hy
   ·refine yay _ ?_;rw[e];exact yay _ hy
  ·rcases yaj.mp hy with hy | hy
   ·exact hle x hx y hy
   ·exact p3 x hx y hy
theorem zew {xs:Array Keyed}{i:Nat}(h:i < xs.size):(xs.toList.drop i).take 1=[xs[i]]:=by
 rw[ze7 h];rfl
theorem MI.pa (h:MI κ a b out ia ib)(sa:SL κ a.toList)(hia:ia < a.size)(hle:∀ y∈b.toList.drop ib,le κ a[ia] y):MI κ a b (out.push a[ia]) (ia+1) ib:=
 h.goA (k:=1) sa (by rw[zew hia,ybY]) (by
  rw[zew hia];intro x hx;rw[yal.mp hx];exact hle)
theorem MI.pb (h:MI κ a b out ia ib)(sb:SL κ b.toList)(hib:ib < b.size)(hle:∀ y∈a.toList.drop ia,le κ b[ib] y):MI κ a b (out.push b[ib]) ia (ib+1):=
 h.goB (k:=1) sb (by rw[zew hib,ybY]) (by
  rw[zew hib];intro x hx;rw[yal.mp hx];exact hle)
structure zci (κ:KeyKind)(a b m:Array Keyed):Prop where
 perm:m.toList.Perm (a.toList++b.toList)
 srt:SL κ m.toList
theorem zfv {xs:Array Keyed}{i k:Nat}:(xs.extract i (i+k)).toList=(xs.toList.drop i).take k:=by
 rw[yb9,yca,Nat.add_sub_cancel_left]
theorem zfw {xs:Array Keyed}{i:Nat}:(xs.extract i xs.size).toList=xs.toList.drop i:=by
 rw[yb9,yca];exact yas (by rw[yaR,yax];exact yaa _)
theorem MI.done (h:MI κ a b out ia ib)(sa:SL κ a.toList)(hib:b.size≤ib):zci κ a b (out++a.extract ia a.size++b.extract ib b.size):=by
 have e:b.toList.drop ib=[]:=yaZ (by rw[yax];exact hib);have e2:(out++a.extract ia a.size++b.extract ib b.size).toList=out.toList++(a.toList.drop ia++b.toList.drop ib):=by
  rw[yaT,yaT,zfw,zfw,yaM]
 refine ⟨by rw[e2];exact h.perm,?_⟩;rw[e2,e,yaz];refine yaI.mpr ⟨h.srt,sa.drop ia,fun x hx y hy=>h.low x hx y (ya0 _ hy)⟩
theorem MI.doneA (h:MI κ a b out ia ib)(sb:SL κ b.toList)(hia:a.size≤ia):zci κ a b (out++a.extract ia a.size++b.extract ib b.size):=by
 have e:a.toList.drop ia=[]:=yaZ (by rw[yax];exact hia);have e2:(out++a.extract ia a.size++b.extract ib b.size).toList=out.toList++(a.toList.drop ia++b.toList.drop ib):=by
  rw[yaT,yaT,zfw,zfw,yaM]
 refine ⟨by rw[e2];exact h.perm,?_⟩;rw[e2,e,List.nil_append];refine yaI.mpr ⟨h.srt,sb.drop ib,fun x hx y hy=>h.low x hx y (yay _ hy)⟩
theorem MI.last (h:MI κ a b out ia ib)(sa:SL κ a.toList)(sb:SL κ b.toList)(hl:∀ y∈b.toList,∀ x∈a.toList.drop ia,le κ y x):zci κ a b (out++b.extract ib b.size++a.extract ia a.size):=by
 have e2:(out++b.extract ib b.size++a.extract ia a.size).toList=out.toList++(b.toList.drop ib++a.toList.drop ia):=by
  rw[yaT,yaT,zfw,zfw,yaM]
 refine ⟨?_,?_⟩
 ·rw[e2];exact (List.Perm.append_left _ ybX).trans h.perm
 ·rw[e2];refine yaI.mpr ⟨h.srt,yaI.mpr ⟨sb.drop ib,sa.drop ia,fun x hx y hy=>hl x (ybI hx) y hy⟩,fun x hx y hy=>h.low x hx y ?_⟩;rcases yaj.mp hy with q | q
  ·exact yay _ q
  ·exact ya0 _ q
end
end Tim
namespace Tim
open PySem PyProof.Rows
set_option autoImplicit false
def zkO:Array Keyed→Array Keyed→StateT SortSt Sem (Array Keyed):=sortPriv% PySem.Builtin.mergeLo
def zll:Nat→StateT SortSt Sem Unit:=sortPriv% PySem.Builtin.setMinGallop
structure SG (st st':SortSt):Prop where
 kind:kindOf st'=kindOf st
 arr:arrOf st'=arrOf st
 pend:pendingOf st'=pendingOf st
 failed:failedOf st'=failedOf st
theorem SG.refl (st:SortSt):SG st st:=⟨rfl,rfl,rfl,rfl⟩
theorem SG.trans {s1 s2 s3:SortSt}(h:SG s1 s2)(g:SG s2 s3):SG s1 s3:=⟨g.kind.trans h.kind,g.arr.trans h.arr,g.pend.trans h.pend,g.failed.trans h.failed⟩
section
variable {prog:Program}{w:World}{A:Around}{E:Value→Shared→Prop}{s:Shared}{κ:KeyKind}{kd:SortKind}
theorem zcK {g:Nat}{st st0:SortSt}{Q:Unit→SortSt→Prop}(hg:SG st0 st)(h:∀ st',SG st0 st'→Q () st'):wpS (model prog w) A E s (zll g) Q st:=by
 refine wpS_modify (h _ (hg.trans ⟨rfl,rfl,rfl,rfl⟩))
theorem mp2 {P g:Prop}(k:P)(m:P→g):g:=m k
set_option maxHeartbeats 4000000 in
theorem zlb {st:SortSt}{a b:Array Keyed}{Q:Array Keyed→SortSt→Prop}(hO:LtG prog w A s κ kd)(hkd:kindOf st=kd)(ka:∀ q∈a.toList,Keyd κ q)(kb:∀ q∈b.toList,Keyd κ q)(sa:SL κ a.toList)(sb:SL κ b.toList)
  (ha:0 < a.size) (hb:0 < b.size) (h0:∀ y∈a.toList,le κ b[0] y) (hl:∀ y∈b.toList,∀ i,i+1=a.size→∀ x∈a.toList.drop i,le κ y x)
  (h:∀ m st',zci κ a b m→SG st st'→Q m st'):wpS (model prog w) A E s (zkO a b) Q st:=by
 have m0:MI κ a b #[b[0]] 0 1:=by
  have z:MI κ a b #[] 0 0:=⟨by simp,by simp,by simp⟩;have:=z.pb sb hb (by simpa using h0);simpa using this
 refine wpS_bind (zda ?_);dsimp only;refine wpS_bind (zbh hb ?_);by_cases e1:1=b.size
 ·rw[if_pos (by simpa using e1)];exact wpS_pure (h _ _ (m0.done sa (by omega)) (SG.refl st))
 rw[if_neg (by simpa using e1)];by_cases e2:0+1=a.size
 ·rw[if_pos (by simpa using e2)];exact wpS_pure (h _ _ (m0.last sa sb (fun y hy x hx=>hl y hy 0 e2 x hx)) (SG.refl st))
 rw[if_neg (by simpa using e2)];refine wpS_bind (wpS_get ?_);refine wpS_bind (wpS_mono (wpS_forRange (I:=fun i c st'=>SG st st'∧∃ out ia ib g,c=(none,out,ia,ib,g)∧MI κ a b out ia ib∧ia+1 < a.size∧ib < b.size∧i+1≤ia+ib)
  (Q:=fun c st'=>SG st st'∧∃ m r,c=(some m,r)∧zci κ a b m) ?step ?fin ⟨SG.refl st,_,0,1,_,rfl,m0,by omega,by omega,by omega⟩) ?post)
 case post=>
  rintro c st' ⟨g,m,r,rfl,hm⟩;exact wpS_pure (h m st' hm g)
 case fin=>
  rintro c st' ⟨g,out,ia,ib,gg,rfl,hm,q1,q2,q3⟩;exact absurd q3 (by omega)
 case step=>
  rintro i c st1 _ hi ⟨g1,out,ia,ib,gg,rfl,hm,q1,q2,q3⟩;dsimp only;refine wpS_bind (wpS_mono (wpS_forRange (I:=fun x c st'=>st'=st1∧∃ out' ia' ib' ca cb,c=(none,out',ia',ib',ca,cb)∧MI κ a b out' ia' ib'∧ia'+1 < a.size∧ib' < b.size∧ia+ib+x≤ia'+ib')
   (Q:=fun c st'=>st'=st1∧((∃ m r,c=(some m,r)∧zci κ a b m)∨∃ out' ia' ib' ca cb,c=(none,out',ia',ib',ca,cb)∧MI κ a b out' ia' ib'∧ia'+1 < a.size∧ib' < b.size∧ia+ib+1≤ia'+ib')) ?istep ?ifin ⟨rfl,out,ia,ib,0,0,rfl,hm,q1,q2,by omega⟩) ?ipost)
  case ifin=>
   rintro c st' ⟨rfl,out',ia',ib',ca,cb,rfl,hm',r1,r2,r3⟩;exact ⟨rfl,.inr ⟨out',ia',ib',ca,cb,rfl,hm',r1,r2,by omega⟩⟩
  case istep=>
   rintro x c st' _ hx ⟨rfl,out',ia',ib',ca,cb,rfl,hm',r1,r2,r3⟩;dsimp only;refine wpS_bind (zbh r2 (wpS_bind (zbh (show ia' < a.size by omega) (wpS_bind (lt_G hO (by rw[g1.kind];exact hkd) (kb _ (by simp)) (ka _ (by simp)) ?_)))));dsimp only;cases e:κ.blt (ky κ b[ib']) (ky κ (a[ia']'(by omega))) with
   | true=>
    simp only[if_true];have hm2:=hm'.pb sb r2 (fun y hy=>le_trans (show le κ b[ib'] (a[ia']'(by omega)) from KeyOrd.kle_of_klt e) (zdO sa (by omega) y hy));refine wpS_bind (zbh r2 ?_);by_cases z:ib'+1=b.size
    ·rw[if_pos (by simpa using z)];exact wpS_pure ⟨rfl,.inl ⟨_,_,rfl,hm2.done sa (by omega)⟩⟩
    ·rw[if_neg (by simpa using z)];split
     ·exact wpS_pure ⟨rfl,.inr ⟨_,_,_,_,_,rfl,hm2,by omega,by omega,by omega⟩⟩
     ·exact wpS_pure ⟨rfl,_,_,_,_,_,rfl,hm2,by omega,by omega,by omega⟩
   | false=>
    simp only[yaX,if_false];have hm2:=hm'.pa sa (show ia' < a.size by omega) (fun y hy=>le_trans (show le κ (a[ia']'(by omega)) b[ib'] from e) (zdO sb r2 y hy));refine wpS_bind (zbh (show ia' < a.size by omega) ?_);by_cases z:ia'+1+1=a.size
    ·rw[if_pos (by simpa using z)];exact wpS_pure ⟨rfl,.inl ⟨_,_,rfl,hm2.last sa sb (fun y hy x hx=>hl y hy _ z x hx)⟩⟩
    ·rw[if_neg (by simpa using z)];split
     ·exact wpS_pure ⟨rfl,.inr ⟨_,_,_,_,_,rfl,hm2,by omega,by omega,by omega⟩⟩
     ·exact wpS_pure ⟨rfl,_,_,_,_,_,rfl,hm2,by omega,by omega,by omega⟩
  case ipost=>
   rintro c st' ⟨rfl,⟨m,r,rfl,hmm⟩ | ⟨out,ia',ib',ca,cb,rfl,hm,q1,q2,q4⟩⟩
   ·exact wpS_pure ⟨g1,m,_,rfl,hmm⟩
   dsimp only;refine wpS_bind (zda ?_);refine wpS_bind (wpS_mono (wpS_forRange (I:=fun x c st''=>SG st st''∧∃ out1 ia1 ib1 gg ca cb,c=(none,out1,ia1,ib1,gg,ca,cb)∧MI κ a b out1 ia1 ib1∧ia1+1 < a.size∧ib1 < b.size∧ia+ib+1≤ia1+ib1)
    (Q:=fun c st''=>SG st st''∧((∃ m r,c=(some m,r)∧zci κ a b m)∨∃ out1 ia1 ib1 gg ca cb,c=(none,out1,ia1,ib1,gg,ca,cb)∧MI κ a b out1 ia1 ib1∧ia1+1 < a.size∧ib1 < b.size∧ia+ib+1≤ia1+ib1)) ?jstep ?jfin ⟨g1,_,_,_,_,_,_,rfl,hm,q1,q2,q4⟩) ?jpost)
   case jfin=>
    rintro c st'' ⟨g2,out1,ia1,ib1,gg1,ca1,cb1,rfl,r⟩;exact ⟨g2,.inr ⟨_,_,_,_,_,_,rfl,r⟩⟩
   case jpost=>
    rintro c st'' ⟨g2,⟨m,r,rfl,hmm⟩ | ⟨out1,ia1,ib1,gg1,ca1,cb1,rfl,hm1,t1,t2,t3⟩⟩
    ·exact wpS_pure ⟨g2,m,_,rfl,hmm⟩
    ·dsimp only;exact wpS_bind (zcK g2 fun st3 g3=>wpS_pure ⟨g3,_,_,_,_,rfl,hm1,t1,t2,by omega⟩)
   case jstep=>
    rintro x c st'' _ hx ⟨g2,out1,ia1,ib1,gg1,ca1,cb1,rfl,hm1,t1,t2,t3⟩;dsimp only;apply mp2
    case m=>
     intro key;by_cases hg:gg1 > 1
     ·rw[if_pos hg];generalize gg1 - 1=gg2
      revert gg2
      exact key
     ·rw[if_neg hg];generalize gg1=gg2
      revert gg2
      exact key
    intro gg2;refine wpS_bind (zcK g2 fun st3 g3=>?_);refine wpS_bind (zbh t2 (wpS_bind (zc1 hO (by rw[g3.kind];exact hkd) (kb _ (by simp)) ka (by omega) (by omega) (zhw sa _ _ (by omega)) fun k k1 k2 k3=>?_)));dsimp only;have hmk:MI κ a b (out1++a.extract ia1 (ia1+k)) (ia1+k) ib1:=hm1.goA sa (by rw[yaT,zfv]) fun x hx y hy=>by
     obtain ⟨j,j1,j2,j3⟩:=zex hx;have q:=k2 j j1;unfold bey at q;rw[if_neg (by decide),zdr j3,ybJ]at q;exact le_trans (show le κ x b[ib1] from q) (zdO sb t2 y hy)
    have bk:∀ hq:ia1+k < a.size,∀ y∈a.toList.drop (ia1+k),le κ b[ib1] y:=fun hq y hy=>by
     have q:=k3 k (yaa _) (by omega);unfold bey at q;rw[if_neg (by decide),zbk hq,ycw]at q;exact le_trans (show le κ b[ib1] a[ia1+k] from KeyOrd.kle_of_klt q) (zdO sa hq y hy)
    apply mp2
    case m=>
     by_cases hk:k > 0
     ·by_cases z:ia1+k+1=a.size
      ·intro h;clear h;rw[if_pos hk,if_pos (by simpa using z)];exact wpS_pure ⟨g3,.inl ⟨_,_,rfl,hmk.last sa sb (fun y hy x hx=>hl y hy _ z x hx)⟩⟩
      have z0:¬(ia1+k+1 == a.size)=true:=by simpa using z
      by_cases z':ia1+k=a.size
      ·intro h;clear h;rw[if_pos hk,if_neg z0,if_pos (by simpa using z')];exact wpS_pure ⟨g3,.inl ⟨_,_,rfl,hmk.doneA sb (by omega)⟩⟩
      have z1:¬(ia1+k == a.size)=true:=by simpa using z'
      have u2:=bk (by omega);have w1:ia1+k+1 < a.size:=by omega
      have w3:ia+ib+1≤ia1+k+ib1:=by omega
      intro key;rw[if_pos hk,if_neg z0,if_neg z1];refine (?_:MI κ a b (out1++a.extract ia1 (ia1+k)) (ia1+k) ib1→(∀ y∈a.toList.drop (ia1+k),le κ (b[ib1]'t2) y)→ia1+k+1 < a.size→ia+ib+1≤ia1+k+ib1→_) hmk u2 w1 w3;generalize out1++a.extract ia1 (ia1+k)=out2;generalize ia1+k=ja;generalize k=cnt
      revert out2 ja cnt
      exact key
     ·have e0:k=0:=by omega
      have u2:=bk (by omega);rw[e0,ybs]at u2;intro key;rw[if_neg hk];refine (?_:MI κ a b out1 ia1 ib1→(∀ y∈a.toList.drop ia1,le κ (b[ib1]'t2) y)→ia1+1 < a.size→ia+ib+1≤ia1+ib1→_) hm1 u2 t1 t3;generalize k=cnt;generalize ia1=ja;generalize out1=out2;exact key out2 ja cnt
    intro out2 ja cnt hm2 u2 w1 w3;refine wpS_bind (zbh t2 ?_);have hm3:=hm2.pb sb t2 u2;by_cases z2:ib1+1=b.size
    ·rw[if_pos (by simpa using z2)];exact wpS_pure ⟨g3,.inl ⟨_,_,rfl,hm3.done sa (by omega)⟩⟩
    ·rw[if_neg (by simpa using z2)];refine wpS_bind (zbh (show ja < a.size by omega) (wpS_bind (zc1 hO (by rw[g3.kind];exact hkd) (ka _ (by simp)) kb (by omega) (by omega) (zhw sb _ _ (by omega)) fun k' c1 c2 c3=>?_)));dsimp only;have ge5:∀ hq:ib1+1+k' < b.size,le κ (a[ja]'(by omega)) b[ib1+1+k']:=fun hq=>by
      have q:=c3 k' (yaa _) (by omega);unfold bey at q;rw[if_pos rfl,zbk hq]at q;exact q
     have hm4:MI κ a b (out2.push b[ib1]++b.extract (ib1+1) (ib1+1+k')) ja (ib1+1+k'):=hm3.goB sb (by rw[yaT (ys:=b.extract (ib1+1) (ib1+1+k')),zfv (xs:=b)]) fun x hx y hy=>by
      obtain ⟨j,j1,j2,j3⟩:=zex hx;have q:=c2 j j1;unfold bey at q;rw[if_pos rfl,zdr j3]at q;exact le_trans (show le κ x (a[ja]'(by omega)) from KeyOrd.kle_of_klt q) (zdO sa (by omega) y hy)
     by_cases hk':k' > 0
     ·rw[if_pos hk'];by_cases z3:ib1+1+k'=b.size
      ·rw[if_pos (by simpa using z3)];exact wpS_pure ⟨g3,.inl ⟨_,_,rfl,hm4.done sa (by omega)⟩⟩
      ·rw[if_neg (by simpa using z3)];refine wpS_bind (zbh (show ja < a.size by omega) ?_);have hm5:=hm4.pa sa (show ja < a.size by omega) fun y hy=>le_trans (show le κ (a[ja]'(by omega)) (b[ib1+1+k']'(by omega)) from ge5 (by omega)) (zdO sb (by omega) y hy);by_cases z4:ja+1+1=a.size
       ·rw[if_pos (by simpa using z4)];exact wpS_pure ⟨g3,.inl ⟨_,_,rfl,hm5.last sa sb (fun y hy x hx=>hl y hy _ z4 x hx)⟩⟩
       ·rw[if_neg (by simpa using z4)];split
        ·exact wpS_pure ⟨g3,.inr ⟨_,_,_,_,_,_,rfl,hm5,by omega,by omega,by omega⟩⟩
        ·exact wpS_pure ⟨g3,_,_,_,_,_,_,rfl,hm5,by omega,by omega,by omega⟩
     ·rw[if_neg hk'];have e0:k'=0:=by omega
      subst e0
      replace hm4:=hm3
      refine wpS_bind (zbh (show ja < a.size by omega) ?_);have hm5:=hm4.pa sa (show ja < a.size by omega) fun y hy=>le_trans (show le κ (a[ja]'(by omega)) (b[ib1+1]'(by omega)) from ge5 (by omega)) (zdO sb (by omega) y hy);by_cases z4:ja+1+1=a.size
      ·rw[if_pos (by simpa using z4)];exact wpS_pure ⟨g3,.inl ⟨_,_,rfl,hm5.last sa sb (fun y hy x hx=>hl y hy _ z4 x hx)⟩⟩
      ·rw[if_neg (by simpa using z4)];split
       ·exact wpS_pure ⟨g3,.inr ⟨_,_,_,_,_,_,rfl,hm5,by omega,by omega,by omega⟩⟩
       ·exact wpS_pure ⟨g3,_,_,_,_,_,_,rfl,hm5,by omega,by omega,by omega⟩
end
end Tim
namespace Tim
open PySem PyProof.Rows
set_option autoImplicit false
section
variable {κ:KeyKind}{a b out:Array Keyed}{na nb:Nat}
structure MH (κ:KeyKind)(a b:Array Keyed)(out:Array Keyed)(na nb:Nat):Prop where
 perm:((a.toList.take na++b.toList.take nb)++out.toList.reverse).Perm (a.toList++b.toList)
 srt:SL κ out.toList.reverse
 high:∀ x∈out.toList.reverse,∀ y∈a.toList.take na++b.toList.take nb,le κ y x
theorem zfg {l:List Keyed}{n m:Nat}(h:n≤m):l.take m=l.take n++(l.take m).drop n:=by
 have e:(l.take m).take n=l.take n:=by rw[List.take_take,ybz h]
 rw[← e,yaS]
theorem MH.goA {out':Array Keyed}{n:Nat}(h:MH κ a b out na nb)(sa:SL κ a.toList)(hn:n≤na)(ho:out'.toList.reverse=(a.toList.take na).drop n++out.toList.reverse)(hle:∀ x∈(a.toList.take na).drop n,∀ y∈b.toList.take nb,le κ y x):MH κ a b out' n nb:=by
 have e:=zfg (l:=a.toList) hn;have s1:=sa.take na;rw[e]at s1;obtain ⟨p1,p2,p3⟩:=yaI.mp s1;refine ⟨?_,?_,?_⟩
 ·refine List.Perm.trans ?_ h.perm;rw[ho,e,← yaM];refine List.Perm.append_right _ ?_;rw[yaM,yaM,← e];exact List.Perm.append_left _ ybX
 ·rw[ho];exact yaI.mpr ⟨p2,h.srt,fun x hx y hy=>h.high y hy x (ya0 _ (ybI hx))⟩
 ·intro x hx y hy;rw[ho]at hx;rcases yaj.mp hx with hx | hx
  ·rcases yaj.mp hy with hy | hy
   ·exact p3 y hy x hx
   ·exact hle x hx y hy
  ·refine h.high x hx y ?_;rcases yaj.mp hy with hy | hy
   ·refine ya0 _ ?_;rw[e];exact ya0 _ hy
   ·exact yay _ hy
theorem MH.goB {out':Array Keyed}{n:Nat}(h:MH κ a b out na nb)(sb:SL κ b.toList)(hn:n≤nb)(ho:out'.toList.reverse=(b.toList.take nb).drop n++out.toList.reverse)(hle:∀ x∈(b.toList.take nb).drop n,∀ y∈a.toList.take na,le κ y x):MH κ a b out' na n:=by
 have e:=zfg (l:=b.toList) hn;have s1:=sb.take nb;rw[e]at s1;obtain ⟨p1,p2,p3⟩:=yaI.mp s1;refine ⟨?_,?_,?_⟩
 ·refine List.Perm.trans (List.Perm.of_eq ?_) h.perm;rw[ho,← yaM,yaM (a.toList.take na),← e]
 ·rw[ho];exact yaI.mpr ⟨p2,h.srt,fun x hx y hy=>h.high y hy x (yay _ (ybI hx))⟩
 ·intro x hx y hy;rw[ho]at hx;rcases yaj.mp hx with hx | hx
  ·rcases yaj.mp hy with hy | hy
   ·exact hle x hx y hy
   ·exact p3 y hy x hx
  ·refine h.high x hx y ?_;rcases yaj.mp hy with hy | hy
   ·exact ya0 _ hy
   ·refine yay _ ?_;rw[e];exact ya0 _ hy
theorem ze2 {xs:Array Keyed}{n:Nat}(h0:0 < n)(h:n≤xs.size):(xs.toList.take n).drop (n - 1)=[xs[n - 1]'(by omega)]:=by
 have h':n - 1 < xs.size:=by omega
 rw[ycb,show n - (n - 1)=1 by omega,ze7 h'];rfl
theorem zfh {xs:Array Keyed}{n:Nat}(hs:SL κ xs.toList)(h0:0 < n)(h:n≤xs.size):∀ y∈xs.toList.take n,le κ y (xs[n - 1]'(by omega)):=by
 intro y hy;have q:=hs.take n;rw[zfg (l:=xs.toList) (show n - 1≤n by omega),ze2 h0 h]at q hy;rcases yaj.mp hy with hy | hy
 ·exact (yaI.mp q).2.2 y hy _ (yal.mpr rfl)
 ·rw[yal.mp hy];exact le_refl _
theorem MH.pa (h:MH κ a b out na nb)(sa:SL κ a.toList)(h0:0 < na)(hn:na≤a.size)(hle:∀ y∈b.toList.take nb,le κ y (a[na - 1]'(by omega))):MH κ a b (out.push (a[na - 1]'(by omega))) (na - 1) nb:=
 h.goA (n:=na - 1) sa (by omega) (by rw[ze2 h0 hn,ybY,ycc];rfl) (by
  rw[ze2 h0 hn];intro x hx;rw[yal.mp hx];exact hle)
theorem MH.pb (h:MH κ a b out na nb)(sb:SL κ b.toList)(h0:0 < nb)(hn:nb≤b.size)(hle:∀ y∈a.toList.take na,le κ y (b[nb - 1]'(by omega))):MH κ a b (out.push (b[nb - 1]'(by omega))) na (nb - 1):=
 h.goB (n:=nb - 1) sb (by omega) (by rw[ze2 h0 hn,ybY,ycc];rfl) (by
  rw[ze2 h0 hn];intro x hx;rw[yal.mp hx];exact hle)
theorem zeh {xs:Array Keyed}{n:Nat}:(xs.extract 0 n).toList=xs.toList.take n:=by
 rw[yb9,yca,ycd,Nat.sub_zero]
theorem znx {xs:Array Keyed}{n m:Nat}:(xs.extract n m).toList=(xs.toList.take m).drop n:=by
 rw[yb9,yca,ycb]
theorem MH.done (h:MH κ a b out na nb)(sb:SL κ b.toList)(hna:na=0):zci κ a b (a.extract 0 na++b.extract 0 nb++out.reverse):=by
 have e2:(a.extract 0 na++b.extract 0 nb++out.reverse).toList=(a.toList.take na++b.toList.take nb)++out.toList.reverse:=by
  rw[yaT,yaT,zeh,zeh,ybZ]
 refine ⟨by rw[e2];exact h.perm,?_⟩;rw[e2];subst hna;refine yaI.mpr ⟨?_,h.srt,fun x hx y hy=>h.high y hy x hx⟩;rw[yb0,List.nil_append];exact sb.take nb
theorem MH.doneB (h:MH κ a b out na nb)(sa:SL κ a.toList)(hnb:nb=0):zci κ a b (a.extract 0 na++b.extract 0 nb++out.reverse):=by
 have e2:(a.extract 0 na++b.extract 0 nb++out.reverse).toList=(a.toList.take na++b.toList.take nb)++out.toList.reverse:=by
  rw[yaT,yaT,zeh,zeh,ybZ]
 refine ⟨by rw[e2];exact h.perm,?_⟩;rw[e2];subst hnb;refine yaI.mpr ⟨?_,h.srt,fun x hx y hy=>h.high y hy x hx⟩;rw[yb0,yaz];exact sa.take na
theorem MH.first (h:MH κ a b out na nb)(sa:SL κ a.toList)(sb:SL κ b.toList)(hl:∀ y∈b.toList.take nb,∀ x∈a.toList,le κ y x):zci κ a b (b.extract 0 nb++a.extract 0 na++out.reverse):=by
 have e2:(b.extract 0 nb++a.extract 0 na++out.reverse).toList=(b.toList.take nb++a.toList.take na)++out.toList.reverse:=by
  rw[yaT,yaT,zeh,zeh,ybZ]
 refine ⟨?_,?_⟩
 ·rw[e2];exact (List.Perm.append_right _ ybX).trans h.perm
 ·rw[e2];refine yaI.mpr ⟨yaI.mpr ⟨sb.take nb,sa.take na,fun x hx y hy=>hl x hx y (ybH hy)⟩,h.srt,fun x hx y hy=>h.high y hy x ?_⟩;rcases yaj.mp hx with q | q
  ·exact yay _ q
  ·exact ya0 _ q
end
def zkP:Array Keyed→Array Keyed→StateT SortSt Sem (Array Keyed):=sortPriv% PySem.Builtin.mergeHi
end Tim
namespace Tim
open PySem PyProof.Rows
set_option autoImplicit false
section
variable {prog:Program}{w:World}{A:Around}{E:Value→Shared→Prop}{s:Shared}{κ:KeyKind}{kd:SortKind}
set_option maxHeartbeats 4000000 in
theorem zlc {st:SortSt}{a b:Array Keyed}{Q:Array Keyed→SortSt→Prop}(hO:LtG prog w A s κ kd)(hkd:kindOf st=kd)(ka:∀ q∈a.toList,Keyd κ q)(kb:∀ q∈b.toList,Keyd κ q)(sa:SL κ a.toList)(sb:SL κ b.toList)
  (ha:0 < a.size) (hb:0 < b.size) (h0:∀ y∈a.toList,le κ b[0] y) (hl:∀ y∈b.toList,le κ y (a[a.size - 1]'(by omega)))
  (h:∀ m st',zci κ a b m→SG st st'→Q m st'):wpS (model prog w) A E s (zkP a b) Q st:=by
 have fst:∀ n,n≤1→∀ y∈b.toList.take n,∀ x∈a.toList,le κ y x:=fun n hn y hy x hx=>by
  have hy':y∈b.toList.take 1:=by
   rcases ybK n 1 with z | z
   ·rw[show n=0 by omega]at hy;simp at hy
   ·rwa[show n=1 by omega]at hy
  have e:b.toList.take 1=[b[0]]:=by
   have:=zew hb;rwa[ycd]at this
  rw[e]at hy';rw[yal.mp hy'];exact h0 x hx
 have m0:MH κ a b #[a[a.size - 1]'(by omega)] (a.size - 1) b.size:=by
  have z:MH κ a b #[] a.size b.size:=⟨by
   rw[yas (by simp),yas (by simp)];simp,by simp,by simp⟩
  have:=z.pa sa ha (yaa _) (fun y hy=>hl y (ybH hy));simpa using this
 refine wpS_bind (zda ?_);dsimp only;refine wpS_bind (zbh (show a.size - 1 < a.size by omega) ?_);by_cases e1:a.size - 1=0
 ·rw[if_pos (by simpa using e1)];exact wpS_pure (h _ _ (m0.done sb e1) (SG.refl st))
 rw[if_neg (by simpa using e1)];by_cases e2:b.size=1
 ·rw[if_pos (by simpa using e2)];exact wpS_pure (h _ _ (m0.first sa sb (fst _ (by omega))) (SG.refl st))
 rw[if_neg (by simpa using e2)];refine wpS_bind (wpS_get ?_);refine wpS_bind (wpS_mono (wpS_forRange (I:=fun i c st'=>SG st st'∧∃ na nb out g,c=(none,na,nb,out,g)∧MH κ a b out na nb∧0 < na∧na≤a.size∧1 < nb∧nb≤b.size∧i+1+(na+nb)≤a.size+b.size)
  (Q:=fun c st'=>SG st st'∧∃ m r,c=(some m,r)∧zci κ a b m) ?step ?fin ⟨SG.refl st,_,_,_,_,rfl,m0,by omega,by omega,by omega,by omega,by omega⟩) ?post)
 case post=>
  rintro c st' ⟨g,m,r,rfl,hm⟩;exact wpS_pure (h m st' hm g)
 case fin=>
  rintro c st' ⟨g,na,nb,out,gg,rfl,hm,q1,q2,q3,q4,q5⟩;exact absurd q5 (by omega)
 case step=>
  rintro i c st1 _ hi ⟨g1,na,nb,out,gg,rfl,hm,q1,q2,q3,q4,q5⟩;dsimp only;refine wpS_bind (wpS_mono (wpS_forRange (I:=fun x c st'=>st'=st1∧∃ na' nb' out' ca cb,c=(none,na',nb',out',ca,cb)∧MH κ a b out' na' nb'∧0 < na'∧na'≤a.size∧1 < nb'∧nb'≤b.size∧x+(na'+nb')≤na+nb)
   (Q:=fun c st'=>st'=st1∧((∃ m r,c=(some m,r)∧zci κ a b m)∨∃ na' nb' out' ca cb,c=(none,na',nb',out',ca,cb)∧MH κ a b out' na' nb'∧0 < na'∧na'≤a.size∧1 < nb'∧nb'≤b.size∧1+(na'+nb')≤na+nb)) ?istep ?ifin ⟨rfl,na,nb,out,0,0,rfl,hm,q1,q2,q3,q4,by omega⟩) ?ipost)
  case ifin=>
   rintro c st' ⟨rfl,na',nb',out',ca,cb,rfl,hm',r1,r2,r3,r4,r5⟩;exact ⟨rfl,.inr ⟨_,_,_,ca,cb,rfl,hm',r1,r2,r3,r4,by omega⟩⟩
  case istep=>
   rintro x c st' _ hx ⟨rfl,na',nb',out',ca,cb,rfl,hm',r1,r2,r3,r4,r5⟩;dsimp only;refine wpS_bind (zbh (show nb' - 1 < b.size by omega) (wpS_bind (zbh (show na' - 1 < a.size by omega) (wpS_bind (lt_G hO (by rw[g1.kind];exact hkd) (kb _ (by simp)) (ka _ (by simp)) ?_)))));dsimp only;cases e:κ.blt (ky κ (b[nb' - 1]'(by omega))) (ky κ (a[na' - 1]'(by omega))) with
   | true=>
    simp only[if_true];have hm2:=hm'.pa sa r1 r2 (fun y hy=>le_trans (zfh sb (by omega) r4 y hy) (show le κ (b[nb' - 1]'(by omega)) (a[na' - 1]'(by omega)) from KeyOrd.kle_of_klt e));refine wpS_bind (zbh (show na' - 1 < a.size by omega) ?_);by_cases z:na' - 1=0
    ·rw[if_pos (by simpa using z)];exact wpS_pure ⟨rfl,.inl ⟨_,_,rfl,hm2.done sb z⟩⟩
    ·rw[if_neg (by simpa using z)];split
     ·exact wpS_pure ⟨rfl,.inr ⟨_,_,_,_,_,rfl,hm2,by omega,by omega,by omega,by omega,by omega⟩⟩
     ·exact wpS_pure ⟨rfl,_,_,_,_,_,rfl,hm2,by omega,by omega,by omega,by omega,by omega⟩
   | false=>
    simp only[yaX,if_false];have hm2:=hm'.pb sb (by omega) r4 (fun y hy=>le_trans (zfh sa r1 r2 y hy) (show le κ (a[na' - 1]'(by omega)) (b[nb' - 1]'(by omega)) from e));refine wpS_bind (zbh (show nb' - 1 < b.size by omega) ?_);by_cases z:nb' - 1=1
    ·rw[if_pos (by simpa using z)];exact wpS_pure ⟨rfl,.inl ⟨_,_,rfl,hm2.first sa sb (fst _ (by omega))⟩⟩
    ·rw[if_neg (by simpa using z)];split
     ·exact wpS_pure ⟨rfl,.inr ⟨_,_,_,_,_,rfl,hm2,by omega,by omega,by omega,by omega,by omega⟩⟩
     ·exact wpS_pure ⟨rfl,_,_,_,_,_,rfl,hm2,by omega,by omega,by omega,by omega,by omega⟩
  case ipost=>
   rintro c st' ⟨rfl,⟨m,r,rfl,hmm⟩ | ⟨na',nb',out,ca,cb,rfl,hm,q1,q2,q3,q4,q6⟩⟩
   ·exact wpS_pure ⟨g1,m,_,rfl,hmm⟩
   dsimp only;refine wpS_bind (zda ?_);refine wpS_bind (wpS_mono (wpS_forRange (I:=fun x c st''=>SG st st''∧∃ na1 nb1 out1 gg ca cb,c=(none,na1,nb1,out1,gg,ca,cb)∧MH κ a b out1 na1 nb1∧0 < na1∧na1≤a.size∧1 < nb1∧nb1≤b.size∧1+(na1+nb1)≤na+nb)
    (Q:=fun c st''=>SG st st''∧((∃ m r,c=(some m,r)∧zci κ a b m)∨∃ na1 nb1 out1 gg ca cb,c=(none,na1,nb1,out1,gg,ca,cb)∧MH κ a b out1 na1 nb1∧0 < na1∧na1≤a.size∧1 < nb1∧nb1≤b.size∧1+(na1+nb1)≤na+nb)) ?jstep ?jfin ⟨g1,_,_,_,_,_,_,rfl,hm,q1,q2,q3,q4,q6⟩) ?jpost)
   case jfin=>
    rintro c st'' ⟨g2,na1,nb1,out1,gg1,ca1,cb1,rfl,r⟩;exact ⟨g2,.inr ⟨_,_,_,_,_,_,rfl,r⟩⟩
   case jpost=>
    rintro c st'' ⟨g2,⟨m,r,rfl,hmm⟩ | ⟨na1,nb1,out1,gg1,ca1,cb1,rfl,hm1,t1,t2,t3,t4,t5⟩⟩
    ·exact wpS_pure ⟨g2,m,_,rfl,hmm⟩
    ·dsimp only;exact wpS_bind (zcK g2 fun st3 g3=>wpS_pure ⟨g3,_,_,_,_,rfl,hm1,t1,t2,t3,t4,by omega⟩)
   case jstep=>
    rintro x c st'' _ hx ⟨g2,na1,nb1,out1,gg1,ca1,cb1,rfl,hm1,t1,t2,t3,t4,t5⟩;dsimp only;apply mp2
    case m=>
     intro key;by_cases hg:gg1 > 1
     ·rw[if_pos hg];generalize gg1 - 1=gg2
      revert gg2
      exact key
     ·rw[if_neg hg];generalize gg1=gg2
      revert gg2
      exact key
    intro gg2;refine wpS_bind (zcK g2 fun st3 g3=>?_);refine wpS_bind (zbh (show nb1 - 1 < b.size by omega) (wpS_bind (zc1 hO (by rw[g3.kind];exact hkd) (kb _ (by simp)) ka (by omega) (by omega) (zhw sa _ _ (by omega)) fun at0 k1 k2 k3=>?_)));dsimp only;have hmk:MH κ a b (out1++(a.extract at0 na1).reverse) at0 nb1:=hm1.goA sa k1 (by
     rw[yaT,ycc,ybZ,ycx,znx]) fun x hx y hy=>by
     rw[ycb]at hx;obtain ⟨j,j1,j2,j3⟩:=zex hx;have q:=k3 (at0+j) (by omega) (by omega);unfold bey at q;rw[if_neg (by decide),Nat.zero_add,zdr j3,ycw]at q;exact le_trans (zfh sb (by omega) t4 y hy) (show le κ (b[nb1 - 1]'(by omega)) x from KeyOrd.kle_of_klt q)
    have hnb:nb1 - 1 < b.size:=by omega
    have bk:∀ y∈a.toList.take at0,le κ y (b[nb1 - 1]'hnb):=fun y hy=>by
     have hy':y∈(a.toList.drop 0).take at0:=by rw[ycd];exact hy
     obtain ⟨j,j1,j2,j3⟩:=zex hy';have q:=k2 j j1;unfold bey at q;rw[if_neg (by decide),zdr j3,ybJ]at q;exact q
    apply mp2
    case m=>
     by_cases hk:na1 - at0 > 0
     ·by_cases z:at0=0
      ·intro h;clear h;rw[if_pos hk,if_pos (by simpa using z)];exact wpS_pure ⟨g3,.inl ⟨_,_,rfl,hmk.done sb z⟩⟩
      have w1:0 < at0:=by omega
      have w2:at0≤a.size:=by omega
      have w3:1+(at0+nb1)≤na+nb:=by omega
      have z0:¬(at0 == 0)=true:=by simpa using z
      intro key;rw[if_pos hk,if_neg z0];refine (?_:MH κ a b (out1++(a.extract at0 na1).reverse) at0 nb1→(∀ y∈a.toList.take at0,le κ y (b[nb1 - 1]'hnb))→0 < at0→at0≤a.size→1+(at0+nb1)≤na+nb→_) hmk bk w1 w2 w3;generalize out1++(a.extract at0 na1).reverse=out2;generalize na1 - at0=cnt;generalize at0=na2
      revert out2 cnt na2
      exact key
     ·have e0:at0=na1:=by omega
      rw[e0]at bk;intro key;rw[if_neg hk];refine (?_:MH κ a b out1 na1 nb1→(∀ y∈a.toList.take na1,le κ y (b[nb1 - 1]'hnb))→0 < na1→na1≤a.size→1+(na1+nb1)≤na+nb→_) hm1 bk t1 t2 t5;generalize na1 - at0=cnt;generalize na1=na2;generalize out1=out2;exact key out2 cnt na2
    intro out2 cnt na2 hm2 u2 w1 w2 w3;refine wpS_bind (zbh (show nb1 - 1 < b.size by omega) ?_);have hm3:=hm2.pb sb (by omega) (by omega) u2;by_cases z2:nb1 - 1=1
    ·rw[if_pos (by simpa using z2)];exact wpS_pure ⟨g3,.inl ⟨_,_,rfl,hm3.first sa sb (fst _ (by omega))⟩⟩
    ·rw[if_neg (by simpa using z2)];refine wpS_bind (zbh (show na2 - 1 < a.size by omega) (wpS_bind (zc1 hO (by rw[g3.kind];exact hkd) (ka _ (by simp)) kb (by omega) (by omega) (zhw sb _ _ (by omega)) fun at' c1 c2 c3=>?_)));dsimp only;have lt5:∀ hq:0 < at',le κ (b[at' - 1]'(by omega)) (a[na2 - 1]'(by omega)):=fun hq=>by
      have q:=c2 (at' - 1) (by omega);unfold bey at q;rw[if_pos rfl,Nat.zero_add,zbk (by omega)]at q;exact KeyOrd.kle_of_klt q
     have hm4:MH κ a b (out2.push (b[nb1 - 1]'(by omega))++(b.extract at' (nb1 - 1)).reverse) na2 at':=hm3.goB sb c1 (by
      rw[yaT (ys:=(b.extract at' (nb1 - 1)).reverse),ycc,ybZ,ycx,znx]) fun x hx y hy=>by
      rw[ycb]at hx;obtain ⟨j,j1,j2,j3⟩:=zex hx;have q:=c3 (at'+j) (by omega) (by omega);unfold bey at q;rw[if_pos rfl,Nat.zero_add,zdr j3]at q;exact le_trans (zfh sa (by omega) (by omega) y hy) (show le κ (a[na2 - 1]'(by omega)) x from q)
     by_cases hk':nb1 - 1 - at' > 0
     ·rw[if_pos hk'];by_cases z3:at'=1
      ·rw[if_pos (by simpa using z3)];exact wpS_pure ⟨g3,.inl ⟨_,_,rfl,hm4.first sa sb (fst _ (by omega))⟩⟩
      rw[if_neg (by simpa using z3)];by_cases z3':at'=0
      ·rw[if_pos (by simpa using z3')];exact wpS_pure ⟨g3,.inl ⟨_,_,rfl,hm4.doneB sa z3'⟩⟩
      rw[if_neg (by simpa using z3')];refine wpS_bind (zbh (show na2 - 1 < a.size by omega) ?_);have hm5:=hm4.pa sa (by omega) (by omega) fun y hy=>le_trans (zfh sb (by omega) (by omega) y hy) (lt5 (by omega));by_cases z4:na2 - 1=0
      ·rw[if_pos (by simpa using z4)];exact wpS_pure ⟨g3,.inl ⟨_,_,rfl,hm5.done sb z4⟩⟩
      ·rw[if_neg (by simpa using z4)];split
       ·exact wpS_pure ⟨g3,.inr ⟨_,_,_,_,_,_,rfl,hm5,by omega,by omega,by omega,by omega,by omega⟩⟩
       ·exact wpS_pure ⟨g3,_,_,_,_,_,_,rfl,hm5,by omega,by omega,by omega,by omega,by omega⟩
     ·rw[if_neg hk'];have e0:at'=nb1 - 1:=by omega
      subst e0
      replace hm4:=hm3
      refine wpS_bind (zbh (show na2 - 1 < a.size by omega) ?_);have hm5:=hm4.pa sa (by omega) (by omega) fun y hy=>le_trans (zfh sb (by omega) (by omega) y hy) (lt5 (by omega));by_cases z4:na2 - 1=0
      ·rw[if_pos (by simpa using z4)];exact wpS_pure ⟨g3,.inl ⟨_,_,rfl,hm5.done sb z4⟩⟩
      ·rw[if_neg (by simpa using z4)];split
       ·exact wpS_pure ⟨g3,.inr ⟨_,_,_,_,_,_,rfl,hm5,by omega,by omega,by omega,by omega,by omega⟩⟩
       ·exact wpS_pure ⟨g3,_,_,_,_,_,_,rfl,hm5,by omega,by omega,by omega,by omega,by omega⟩
end
end Tim
namespace Tim
open PySem PyProof.Rows
set_option autoImplicit false
section
variable {κ:KeyKind}
def seg (xs:Array Keyed)(lo n:Nat):List Keyed:=(xs.toList.drop lo).take n
theorem zgh {xs:Array Keyed}{lo n i:Nat}(h:lo+n≤xs.size)(hi:i < n):(seg xs lo n)[i]?=xs[lo+i]?:=by
 unfold seg;rw[yb1,if_pos hi,yce,ya2]
theorem zcu {xs:Array Keyed}{lo n:Nat}(h:lo+n≤xs.size):(seg xs lo n).length=n:=by
 unfold seg;rw[yaq,yaR,yax];omega
theorem zpz {xs:Array Keyed}{lo n:Nat}(h:lo+n≤xs.size)(hU:Up κ xs lo (lo+n)):SL κ (seg xs lo n):=by
 rw[SL,yaY];intro i j hi hj hij;have hi':=hi;have hj':=hj;rw[zcu h]at hi' hj';have e1:(seg xs lo n)[i]=xs[lo+i]'(by omega):=by
  have:=zgh h hi';rw[yac hi,ya6 (by omega)]at this;exact yad this
 have e2:(seg xs lo n)[j]=xs[lo+j]'(by omega):=by
  have:=zgh h hj';rw[yac hj,ya6 (by omega)]at this;exact yad this
 rw[e1,e2];have:=hU (lo+i) (lo+j) (by omega) (by omega) (by omega);rw[zbk (by omega),zbk (by omega)]at this;exact this
theorem zlm {xs:Array Keyed}{lo n m:Nat}:seg xs lo (n+m)=seg xs lo n++seg xs (lo+n) m:=by
 unfold seg;rw[List.take_add,ybG]
theorem zhH {xs:Array Keyed}{lo n:Nat}:(xs.extract lo (lo+n)).toList=seg xs lo n:=zfv
theorem zmx {xs:Array Keyed}{lo n:Nat}(h:lo+n≤xs.size):xs.toList=xs.toList.take lo++(seg xs lo n++xs.toList.drop (lo+n)):=by
 unfold seg;rw[← ybG,yaS,yaS]
def back (xs:Array Keyed)(lo:Nat)(m:Array Keyed):Array Keyed:=m.toList.zipIdx.foldl (fun a (q:Keyed×Nat)=>a.setIfInBounds (lo+q.2) q.1) xs
theorem zj9 (lo:Nat):∀(l:List Keyed) (k:Nat) (xs:Array Keyed),lo+k+l.length≤xs.size→∀ i:Nat,
  ((l.zipIdx k).foldl (fun a (q:Keyed×Nat)=>a.setIfInBounds (lo+q.2) q.1) xs)[i]?=if lo+k≤i∧i < lo+k+l.length then l[i - (lo+k)]? else xs[i]?
 | [],k,xs,h,i=>by
  rw[if_neg (by simp only[yby];omega)];rfl
 | x::l,k,xs,h,i=>by
  rw[yaL]at h;rw[List.zipIdx_cons,List.foldl_cons,zj9 lo l (k+1) (xs.setIfInBounds (lo+k) x) (by rw[Array.size_setIfInBounds];omega) i,yaL];by_cases h1:lo+(k+1)≤i∧i < lo+(k+1)+l.length
  ·rw[if_pos h1,if_pos (by omega),show i - (lo+k)=(i - (lo+(k+1)))+1 by omega,ycy]
  ·rw[if_neg h1,Array.getElem?_setIfInBounds];by_cases h2:lo+k=i
   ·rw[if_pos h2,if_pos (by omega),if_pos (by omega)];subst h2;simp
   ·rw[if_neg h2,if_neg (by omega)]
theorem znP {xs m:Array Keyed}{lo:Nat}(h:lo+m.size≤xs.size):(back xs lo m).toList=xs.toList.take lo++(m.toList++xs.toList.drop (lo+m.size)):=by
 apply yba;intro i;have q:=zj9 lo m.toList 0 xs (by rw[yax];omega) i;unfold back;rw[ya2,q,yax,ybs];have l1:(xs.toList.take lo).length=lo:=by rw[yaq,yax];omega
 by_cases h1:i < lo
 ·rw[if_neg (by omega),ybp (by rw[l1];exact h1),yb1,if_pos h1,ya2]
 ·rw[ybj (by rw[l1];omega),l1];by_cases h2:i < lo+m.size
  ·rw[if_pos (by omega),ybp (by rw[yax];omega)]
  ·rw[if_neg (by omega),ybj (by rw[yax];omega),yax,yce,show lo+m.size+(i - lo - m.size)=i by omega,ya2]
theorem zfe {xs m:Array Keyed}{lo:Nat}(h:lo+m.size≤xs.size)(i:Nat):(back xs lo m)[i]?=if lo≤i∧i < lo+m.size then m[i - lo]? else xs[i]?:=by
 have q:=zj9 lo m.toList 0 xs (by rw[yax];omega) i;rw[yax,ybs,ya2]at q;exact q
theorem zhG {xs:Array Keyed}{lo n:Nat}{p:Keyed}(h:lo+n≤xs.size)(hp:p∈seg xs lo n):∃ q,lo≤q∧q < lo+n∧xs[q]?=some p:=by
 obtain ⟨i,hi,e⟩:=yaO hp;have hi':=hi;rw[zcu h]at hi';refine ⟨lo+i,by omega,by omega,?_⟩;rw[← zgh h hi',yac hi,e]
theorem zlC {xs m:Array Keyed}{sa na nb k nb':Nat}(hz:sa+na+nb≤xs.size)(ua:Up κ xs sa (sa+na))(ub:Up κ xs (sa+na) (sa+na+nb))(hk:k < na)(hnb:nb'≤nb)(hb0:0 < nb')
  (k2:∀ i,i < k→κ.kle (kAt κ xs (sa+i)) (kAt κ xs (sa+na))) (c3:∀ i,nb'≤i→i < nb→κ.kle (kAt κ xs (sa+na - 1)) (kAt κ xs (sa+na+i)))
  (hm:zci κ (xs.extract (sa+k) (sa+na)) (xs.extract (sa+na) (sa+na+nb')) m) :
  Off xs (back xs (sa+k) m) sa (sa+(na+nb))∧Up κ (back xs (sa+k) m) sa (sa+(na+nb)):=by
 have ex:(xs.extract (sa+k) (sa+na)).toList=seg xs (sa+k) (na - k):=by
  have:=zhH (xs:=xs) (lo:=sa+k) (n:=na - k);rwa[show sa+k+(na - k)=sa+na by omega]at this
 have ey:(xs.extract (sa+na) (sa+na+nb')).toList=seg xs (sa+na) nb':=zhH;have hp:=hm.perm;rw[ex,ey]at hp;have ms:m.size=na - k+nb':=by
  have:=hp.length_eq;rw[yax,yap,zcu (by omega),zcu (by omega)]at this;exact this
 have hzm:sa+k+m.size≤xs.size:=by omega
 have bl:=znP hzm;have mid:seg xs (sa+k) m.size=seg xs (sa+k) (na - k)++seg xs (sa+na) nb':=by
  rw[ms,zlm,show sa+k+(na - k)=sa+na by omega]
 have perm:(back xs (sa+k) m).toList.Perm xs.toList:=by
  have e:=zmx hzm;rw[mid]at e;refine (List.Perm.of_eq bl).trans (List.Perm.trans ?_ (List.Perm.of_eq e.symm));exact List.Perm.append_left _ (List.Perm.append_right _ hp)
 have inm:∀ i,sa+k≤i→i < sa+k+m.size→∃ q,sa+k≤q∧q < sa+na+nb'∧kAt κ (back xs (sa+k) m) i=kAt κ xs q:=by
  intro i h1 h2;have g:=zfe hzm i;rw[if_pos ⟨h1,h2⟩,ya6 (show i - (sa+k) < m.size by omega)]at g;have hmem:m[i - (sa+k)]'(by omega)∈m.toList:=by simp
  rcases yaj.mp (hp.mem_iff.mp hmem) with z | z
  ·obtain ⟨q,q1,q2,e⟩:=zhG (by omega) z;exact ⟨q,q1,by omega,zby (g.trans e.symm)⟩
  ·obtain ⟨q,q1,q2,e⟩:=zhG (by omega) z;exact ⟨q,by omega,q2,zby (g.trans e.symm)⟩
 have outm:∀ i,(i < sa+k∨sa+k+m.size≤i)→kAt κ (back xs (sa+k) m) i=kAt κ xs i:=fun i h=>zby (by rw[zfe hzm,if_neg (by omega)]);have am:∀ i q,sa≤i→i < sa+k→sa+k≤q→q < sa+na+nb→κ.kle (kAt κ xs i) (kAt κ xs q):=fun i q h1 h2 h3 h4=>by
  by_cases z:q < sa+na
  ·exact ua i q h1 (by omega) z
  ·have t:=k2 (i - sa) (by omega);rw[show sa+(i - sa)=i by omega]at t;exact KeyOrd.kle_trans t (ub _ q (yaa _) (by omega) h4)
 have mc:∀ q j,sa+k≤q→q < sa+na+nb'→sa+na+nb'≤j→j < sa+na+nb→κ.kle (kAt κ xs q) (kAt κ xs j):=fun q j h1 h2 h3 h4=>by
  by_cases z:q < sa+na
  ·have t:=c3 (j - (sa+na)) (by omega) (by omega);rw[show sa+na+(j - (sa+na))=j by omega]at t;exact KeyOrd.kle_trans (ua q (sa+na - 1) (by omega) (by omega) (by omega)) t
  ·exact ub q j (by omega) (by omega) h4
 refine ⟨⟨ycv.mpr perm,fun i hi=>by rw[zfe hzm,if_neg (by omega)]⟩,fun i j h1 h2 h3=>?_⟩;by_cases i1:i < sa+k
 ·rw[outm i (.inl i1)];by_cases j1:j < sa+k
  ·rw[outm j (.inl j1)];exact ua i j h1 h2 (by omega)
  ·by_cases j2:j < sa+k+m.size
   ·obtain ⟨q,q1,q2,e⟩:=inm j (by omega) j2;rw[e];exact am i q h1 i1 q1 (by omega)
   ·rw[outm j (.inr (by omega))];exact am i j h1 i1 (by omega) (by omega)
 ·by_cases i2:i < sa+k+m.size
  ·by_cases j2:j < sa+k+m.size
   ·by_cases e:i=j
    ·subst e;exact KeyOrd.kle_refl _
    ·have gi:=zfe hzm i;have gj:=zfe hzm j;rw[if_pos ⟨by omega,i2⟩]at gi;rw[if_pos ⟨by omega,j2⟩]at gj;rw[zby gi,zby gj,zbk (show i - (sa+k) < m.size by omega),zbk (show j - (sa+k) < m.size by omega)];have:=yaY.mp hm.srt (i - (sa+k)) (j - (sa+k)) (by rw[yax];omega) (by rw[yax];omega) (by omega);simpa [le] using this
   ·obtain ⟨q,q1,q2,e⟩:=inm i (by omega) i2;rw[e,outm j (.inr (by omega))];exact mc q j q1 q2 (by omega) (by omega)
  ·rw[outm i (.inr (by omega)),outm j (.inr (by omega))];exact ub i j (by omega) h2 (by omega)
theorem zl3 {xs:Array Keyed}{sa na nb:Nat}(ua:Up κ xs sa (sa+na))(ub:Up κ xs (sa+na) (sa+na+nb))(hna:0 < na)(hle:κ.kle (kAt κ xs (sa+na - 1)) (kAt κ xs (sa+na))):Up κ xs sa (sa+(na+nb)):=by
 intro i j h1 h2 h3;by_cases z:j < sa+na
 ·exact ua i j h1 h2 z
 ·by_cases y:i < sa+na
  ·exact KeyOrd.kle_trans (ua i (sa+na - 1) h1 (by omega) (by omega)) (KeyOrd.kle_trans hle (ub (sa+na) j (yaa _) (by omega) (by omega)))
  ·exact ub i j (by omega) h2 (by omega)
end
end Tim
namespace Tim
open PySem PyProof.Rows
set_option autoImplicit false
theorem zjM (i:Nat):mergeAt' i=(do
 let s ← get
 let (some (sa,na,power),some (sb,nb,_)):=((pendingOf s)[i]?,(pendingOf s)[i+1]?) | unsupported "internal:list.sort.pending"
 set (setPending s (((pendingOf s).setIfInBounds i (sa,na+nb,power)).eraseIdxIfInBounds (i+1)))
 let some k ← zjW false (← elem' (arrOf s) sb) (arrOf s) sa na 0 | return false
 let (sa,na):=(sa+k,na - k)
 if na == 0 then return true
 let some nb ← zjW true (← elem' (arrOf s) (sa+na - 1)) (arrOf s) sb nb (nb - 1) | return false
 if nb == 0 then return true
 let x:=(arrOf s).extract sa sb
 let y:=(arrOf s).extract sb (sb+nb)
 let merged ← if na≤nb then zkO x y else zkP x y
 modify fun s=>setArr s (merged.toList.zipIdx.foldl (fun a (p,j)=>a.setIfInBounds (sa+j) p) (arrOf s))
 return (failedOf (← get)).isNone):=rfl
section
variable {prog:Program}{w:World}{A:Around}{E:Value→Shared→Prop}{s:Shared}{κ:KeyKind}{kd:SortKind}
theorem zpN {σ:Type}{x:σ}{Q:PUnit→σ→Prop}{st:σ}(h:Q ⟨⟩ x):wpS (model prog w) A E s (set x:StateT σ Sem PUnit) Q st:=by
 unfold wpS;rw[StateT.run_set];exact wpAny_pure ⟨rfl,h⟩
set_option maxHeartbeats 4000000 in
theorem zld {st:SortSt}{N i sa na pa nb pb:Nat}{Q:Bool→SortSt→Prop}(hO:LtG prog w A s κ kd)(hB:TB κ kd N st)
  (h1:(pendingOf st)[i]?=some (sa,na,pa)) (h2:(pendingOf st)[i+1]?=some (sa+na,nb,pb)) (hna:0 < na) (hnb:0 < nb) (hz:sa+na+nb≤N)
  (ua:Up κ (arrOf st) sa (sa+na)) (ub:Up κ (arrOf st) (sa+na) (sa+na+nb))
  (h:∀ st',TB κ kd N st'→Off (arrOf st) (arrOf st') sa (sa+(na+nb))→Up κ (arrOf st') sa (sa+(na+nb))→pendingOf st'=((pendingOf st).setIfInBounds i (sa,na+nb,pa)).eraseIdxIfInBounds (i+1)→Q true st') :
  wpS (model prog w) A E s (mergeAt' i) Q st:=by
 have hsz:=hB.size;rw[zjM];refine wpS_bind (wpS_get ?_);rw[h1,h2];dsimp only;refine wpS_bind (zpN ?_);generalize hp:((pendingOf st).setIfInBounds i (sa,na+nb,pa)).eraseIdxIfInBounds (i+1)=pend at h;have same:∀ st',SG (setPending st pend) st'→TB κ kd N st'∧arrOf st'=arrOf st∧pendingOf st'=pend:=fun st' g=>by
  have ga:arrOf st'=arrOf st:=g.arr;refine ⟨⟨g.kind.trans hB.kind,by rw[ga];exact hB.keys,g.failed.trans hB.failed,by rw[ga];exact hB.size⟩,ga,g.pend⟩
 obtain ⟨B0,_,_⟩:=same _ (SG.refl _);have hbz:sa+na < (arrOf st).size:=by omega
 refine wpS_bind (zbh hbz ?_);refine wpS_bind (zc1 hO B0.kind (hB.keys _ (by simp)) hB.keys (by omega) hna ua fun k k1 k2 k3=>?_);dsimp only;have kk:kAt κ (arrOf st) (sa+na)=ky κ (arrOf st)[sa+na]:=zbk hbz;have k2':∀ i,i < k→κ.kle (kAt κ (arrOf st) (sa+i)) (kAt κ (arrOf st) (sa+na)):=fun i hi=>by
  have:=k2 i hi;unfold bey at this;simp only[yaX,if_false,ybJ]at this;rw[kk];exact this
 have k3':∀ i,k≤i→i < na→κ.klt (kAt κ (arrOf st) (sa+na)) (kAt κ (arrOf st) (sa+i)):=fun i hi hj=>by
  have:=k3 i hi hj;unfold bey at this;simp only[yaX,if_false,ycw]at this;rw[kk];exact this
 by_cases e1:na - k=0
 ·rw[if_pos (by simpa using e1)];obtain ⟨b1,b2,b3⟩:=same _ (SG.refl _);refine wpS_pure (h _ b1 (by rw[b2];exact Off.refl _ _ _) ?_ b3);rw[b2];refine zl3 ua ub hna ?_;have:=k2' (na - 1) (by omega);rwa[show sa+(na - 1)=sa+na - 1 by omega]at this
 rw[if_neg (by simpa using e1)];have e2:sa+k+(na - k) - 1=sa+na - 1:=by omega
 have hlz:sa+k+(na - k) - 1 < (arrOf st).size:=by omega
 refine wpS_bind (zbh hlz ?_);refine wpS_bind (zc1 hO B0.kind (hB.keys _ (by simp)) hB.keys (by omega) (by omega) ub fun c c1 c2 c3=>?_);dsimp only;have ck:ky κ ((arrOf st)[sa+k+(na - k) - 1]'hlz)=kAt κ (arrOf st) (sa+na - 1):=by
  rw[← zbk hlz,e2]
 have c2':∀ i,i < c→κ.klt (kAt κ (arrOf st) (sa+na+i)) (kAt κ (arrOf st) (sa+na - 1)):=fun i hi=>by
  have:=c2 i hi;unfold bey at this;simp only[if_true]at this;rw[← ck];exact this
 have c3':∀ i,c≤i→i < nb→κ.kle (kAt κ (arrOf st) (sa+na - 1)) (kAt κ (arrOf st) (sa+na+i)):=fun i hi hj=>by
  have:=c3 i hi hj;unfold bey at this;simp only[if_true]at this;rw[← ck];exact this
 by_cases e3:c=0
 ·rw[if_pos (by simpa using e3)];obtain ⟨b1,b2,b3⟩:=same _ (SG.refl _);refine wpS_pure (h _ b1 (by rw[b2];exact Off.refl _ _ _) ?_ b3);rw[b2];exact zl3 ua ub hna (c3' 0 (by omega) hnb)
 rw[if_neg (by simpa using e3)];generalize hX:(arrOf st).extract (sa+k) (sa+na)=X;generalize hY:(arrOf st).extract (sa+na) (sa+na+c)=Y;have xl:X.toList=seg (arrOf st) (sa+k) (na - k):=by
  have:=zhH (xs:=arrOf st) (lo:=sa+k) (n:=na - k);rw[← hX];rwa[show sa+k+(na - k)=sa+na by omega]at this
 have yl:Y.toList=seg (arrOf st) (sa+na) c:=by rw[← hY];exact zhH
 have xz:X.size=na - k:=by
  have:=congrArg List.length xl;rwa[yax,zcu (by omega)]at this
 have yz:Y.size=c:=by
  have:=congrArg List.length yl;rwa[yax,zcu (by omega)]at this
 have xg:∀ i (hi:i < X.size),X[i]=(arrOf st)[sa+k+i]'(by omega):=fun i hi=>by
  have e:X[i]?=(arrOf st)[sa+k+i]?:=by
   rw[← ya2,xl];exact zgh (by omega) (by omega)
  rw[ya6 hi,ya6 (by omega)]at e;exact yad e
 have yg:∀ i (hi:i < Y.size),Y[i]=(arrOf st)[sa+na+i]'(by omega):=fun i hi=>by
  have e:Y[i]?=(arrOf st)[sa+na+i]?:=by
   rw[← ya2,yl];exact zgh (by omega) (by omega)
  rw[ya6 hi,ya6 (by omega)]at e;exact yad e
 have xm:∀ q∈X.toList,∃ i,k≤i∧i < na∧ky κ q=kAt κ (arrOf st) (sa+i)∧q∈(arrOf st).toList:=fun q hq=>by
  rw[xl]at hq;obtain ⟨j,j1,j2,e⟩:=zhG (by omega) hq;refine ⟨j - sa,by omega,by omega,?_,?_⟩
  ·rw[show sa+(j - sa)=j by omega,zdr e]
  ·rw[← ya2]at e;exact yaE e
 have ym:∀ q∈Y.toList,∃ i,i < c∧ky κ q=kAt κ (arrOf st) (sa+na+i)∧q∈(arrOf st).toList:=fun q hq=>by
  rw[yl]at hq;obtain ⟨j,j1,j2,e⟩:=zhG (by omega) hq;refine ⟨j - (sa+na),by omega,?_,?_⟩
  ·rw[show sa+na+(j - (sa+na))=j by omega,zdr e]
  ·rw[← ya2]at e;exact yaE e
 have kX:∀ q∈X.toList,Keyd κ q:=fun q hq=>by obtain ⟨_,_,_,_,z⟩:=xm q hq;exact hB.keys q z
 have kY:∀ q∈Y.toList,Keyd κ q:=fun q hq=>by obtain ⟨_,_,_,z⟩:=ym q hq;exact hB.keys q z
 have sX:SL κ X.toList:=by
  rw[xl];exact zpz (by omega) (fun i j q1 q2 q3=>ua i j (by omega) q2 (by omega))
 have sY:SL κ Y.toList:=by
  rw[yl];exact zpz (by omega) (fun i j q1 q2 q3=>ub i j q1 q2 (by omega))
 have y0:∀(hb:0 < Y.size),ky κ Y[0]=kAt κ (arrOf st) (sa+na):=fun hb=>by
  rw[yg 0 hb,← zbk];rfl
 have lo0:∀(hb:0 < Y.size),∀ q∈X.toList,le κ Y[0] q:=fun hb q hq=>by
  obtain ⟨i,i1,i2,e,_⟩:=xm q hq;unfold le;rw[y0 hb,e];exact KeyOrd.kle_of_klt (k3' i i1 i2)
 have xlast:∀(ha:X.size - 1 < X.size),ky κ X[X.size - 1]=kAt κ (arrOf st) (sa+na - 1):=fun ha=>by
  rw[xg _ ha,← zbk];congr 1;omega
 have hi0:∀(ha:X.size - 1 < X.size),∀ q∈Y.toList,le κ q X[X.size - 1]:=fun ha q hq=>by
  obtain ⟨i,i1,e,_⟩:=ym q hq;unfold le;rw[xlast ha,e];exact KeyOrd.kle_of_klt (c2' i i1)
 have fin:∀ m st',zci κ X Y m→SG (setPending st pend) st'→wpS (model prog w) A E s (do
   modify fun s=>setArr s (m.toList.zipIdx.foldl (fun a (q:Keyed×Nat)=>a.setIfInBounds (sa+k+q.2) q.1) (arrOf s))
   return (failedOf (← get)).isNone) Q st':=fun m st' hm g=>by
  obtain ⟨b1,b2,b3⟩:=same _ g;refine wpS_bind (wpS_modify ?_);refine wpS_bind (wpS_get ?_);have hf:failedOf (setArr st' (m.toList.zipIdx.foldl (fun a (q:Keyed×Nat)=>a.setIfInBounds (sa+k+q.2) q.1) (arrOf st')))=none:=b1.failed;rw[hf];rw[← hX,← hY]at hm;obtain ⟨o1,o2⟩:=zlC (by omega) ua ub (by omega) c1 (by omega) k2' c3' hm;refine wpS_pure (h _ ?_ ?_ ?_ b3)
  ·refine b1.off (lo:=sa) (hi:=sa+(na+nb)) ?_;rw[b2];exact o1
  ·show Off (arrOf st) (back (arrOf st') (sa+k) m) _ _;rw[b2];exact o1
  ·show Up κ (back (arrOf st') (sa+k) m) _ _;rw[b2];exact o2
 by_cases e4:na - k≤c
 ·rw[if_pos e4];refine wpS_bind ?_;refine zlb hO B0.kind kX kY sX sY (by omega) (by omega) (lo0 _) ?_ fun m st' hm g=>fin m st' hm g;intro q hq i hi x hx;have:x=X[X.size - 1]'(by omega):=by
   rw[show i=X.size - 1 by omega,ze7 (by omega),yaZ (by rw[yax];omega)]at hx;exact yal.mp hx
  rw[this];exact hi0 _ q hq
 ·rw[if_neg e4];refine wpS_bind ?_;exact zlc hO B0.kind kX kY sX sY (by omega) (by omega) (lo0 _) (hi0 (by omega)) fun m st' hm g=>fin m st' hm g
end
end Tim
namespace Tim
open PySem PyProof.Rows
set_option autoImplicit false
section
variable {κ:KeyKind}{xs ys:Array Keyed}
def Runs (κ:KeyKind)(xs:Array Keyed):List (Nat×Nat×Nat)→Nat→Nat→Prop
 | [],a,b=>a=b
 | (s,n,_)::r,a,b=>s=a∧0 < n∧Up κ xs a (a+n)∧Runs κ xs r (a+n) b
theorem Runs.le:∀{l:List (Nat×Nat×Nat)} {a b:Nat},Runs κ xs l a b→a+l.length≤b
 | [],_,_,h=>by rw[show _=_ from h];simp
 | (s,n,p)::r,a,b,⟨_,h1,_,h2⟩=>by
  have:=Runs.le h2;rw[yaL];omega
theorem Runs.split:∀{l m:List (Nat×Nat×Nat)} {a b:Nat},Runs κ xs (l++m) a b→∃ c,Runs κ xs l a c∧Runs κ xs m c b
 | [],m,a,b,h=>⟨a,rfl,h⟩
 | (s,n,p)::r,m,a,b,⟨h0,h1,h2,h3⟩=>by
  obtain ⟨c,c1,c2⟩:=Runs.split (l:=r) h3;exact ⟨c,⟨h0,h1,h2,c1⟩,c2⟩
theorem Runs.glue:∀{l m:List (Nat×Nat×Nat)} {a b c:Nat},Runs κ xs l a c→Runs κ xs m c b→Runs κ xs (l++m) a b
 | [],m,a,b,c,h,g=>by rw[show a=c from h];exact g
 | (s,n,p)::r,m,a,b,c,⟨h0,h1,h2,h3⟩,g=>⟨h0,h1,h2,Runs.glue h3 g⟩
theorem Up.off {lo hi a b:Nat}(h:Up κ xs a b)(o:Off xs ys lo hi)(d:b≤lo∨hi≤a):Up κ ys a b:=fun i j h1 h2 h3=>by
 rw[zjT o (by omega),zjT o (by omega)];exact h i j h1 h2 h3
theorem Runs.off {lo hi:Nat}(o:Off xs ys lo hi):∀{l:List (Nat×Nat×Nat)} {a b:Nat},Runs κ xs l a b→(b≤lo∨hi≤a)→Runs κ ys l a b
 | [],_,_,h,_=>h
 | (s,n,p)::r,a,b,⟨h0,h1,h2,h3⟩,d=>by
  have:=Runs.le h3;exact ⟨h0,h1,h2.off o (by omega),Runs.off o h3 (by omega)⟩
theorem ziH {α:Type}{x y v:α}{post:List α}:∀ pre:List α,((pre++x::y::post).set pre.length v).eraseIdx (pre.length+1)=pre++v::post
 | []=>rfl
 | p::pre=>by
  rw[List.cons_append,yaL,List.set_cons_succ,List.eraseIdx_cons_succ,ziH pre,List.cons_append]
end
section
variable {prog:Program}{w:World}{A:Around}{E:Value→Shared→Prop}{s:Shared}{κ:KeyKind}{kd:SortKind}
structure SI (κ:KeyKind)(kd:SortKind)(a₀:Array Keyed)(lo:Nat)(st:SortSt):Prop where
 tb:TB κ kd a₀.size st
 perm:(arrOf st).Perm a₀
 le:lo≤a₀.size
 runs:Runs κ (arrOf st) (pendingOf st).toList 0 lo
theorem zdB {a₀:Array Keyed}{st:SortSt}{lo i:Nat}{Q:Bool→SortSt→Prop}(hO:LtG prog w A s κ kd)(hI:SI κ kd a₀ lo st)(hi:i+1 < (pendingOf st).size)
  (h:∀ st',SI κ kd a₀ lo st'→Off (arrOf st) (arrOf st') 0 lo→(pendingOf st').size+1=(pendingOf st).size→Q true st'):wpS (model prog w) A E s (mergeAt' i) Q st:=by
 have hl:(pendingOf st).toList.length=(pendingOf st).size:=yax;obtain ⟨pre,x,y,post,e,hp⟩:∃ pre x y post,(pendingOf st).toList=pre++x::y::post∧pre.length=i:=by
  refine ⟨(pendingOf st).toList.take i,(pendingOf st).toList[i]'(by omega),(pendingOf st).toList[i+1]'(by omega),(pendingOf st).toList.drop (i+2),?_,?_⟩
  ·rw[← ybW,← ybW,yaS]
  ·rw[yaq];omega
 obtain ⟨sa,na,pa⟩:=x;obtain ⟨sb,nb,pb⟩:=y;have hr:=hI.runs;rw[e]at hr;obtain ⟨c,r1,h0,h1,ua,h2,h3,ub,r2⟩:=hr.split;subst h0 h2;have l1:=r2.le;have l0:=hI.le;have g1:(pendingOf st)[i]?=some (sa,na,pa):=by
  rw[← ya2,e,← hp];simp
 have g2:(pendingOf st)[i+1]?=some (sa+na,nb,pb):=by
  rw[← ya2,e,← hp,ybj (by omega),show pre.length+1 - pre.length=1 by omega];rfl
 refine zld hO hI.tb g1 g2 h1 h3 (by omega) ua ub fun st' b1 b2 b3 b4=>?_;have e':(pendingOf st').toList=pre++(sa,na+nb,pa)::post:=by
  rw[b4,Array.toList_eraseIdxIfInBounds,Array.toList_setIfInBounds,e,← hp];exact ziH pre
 refine h st' ⟨b1,b2.perm.trans hI.perm,hI.le,?_⟩ (b2.wide (yaC _) (by omega)) ?_
 ·rw[e'];refine (r1.off b2 (.inl (yaa _))).glue ⟨rfl,by omega,b3,?_⟩;have:=r2.off b2 (.inr (by omega));rwa[show sa+na+nb=sa+(na+nb) by omega]at this
 ·have z1:=congrArg List.length e;have z2:=congrArg List.length e';rw[yax,yap,yaL]at z1 z2;rw[yaL]at z1;omega
end
end Tim
namespace Tim
open PySem PyProof.Rows
set_option autoImplicit false
section
variable {prog:Program}{w:World}{A:Around}{E:Value→Shared→Prop}{s:Shared}{κ:KeyKind}{kd:SortKind}
theorem Runs.modify {xs:Array Keyed}{p:Nat}:∀{l:List (Nat×Nat×Nat)} {a b:Nat} (i:Nat),Runs κ xs l a b→Runs κ xs (l.modify i fun x=>(x.fst,x.2.fst,p)) a b
 | [],_,_,i,h=>by
  cases i <;> exact h
 | (s,n,q)::r,a,b,0,h=>h
 | (s,n,q)::r,a,b,i+1,⟨h0,h1,h2,h3⟩=>⟨h0,h1,h2,Runs.modify i h3⟩
theorem SI.setp {a₀:Array Keyed}{lo hi:Nat}{st:SortSt}{p:Array (Nat×Nat×Nat)}(hI:SI κ kd a₀ lo st)(hz:hi≤a₀.size)(hr:Runs κ (arrOf st) p.toList 0 hi):SI κ kd a₀ hi (setPending st p):=
 ⟨⟨hI.tb.kind,hI.tb.keys,hI.tb.failed,hI.tb.size⟩,hI.perm,hz,hr⟩
theorem SI.pushed {a₀:Array Keyed}{st:SortSt}{lo n:Nat}(hI:SI κ kd a₀ lo st)(hn:0 < n)(hz:lo+n≤a₀.size)(hU:Up κ (arrOf st) lo (lo+n)):SI κ kd a₀ (lo+n) (setPending st ((pendingOf st).push (lo,n,0))):=by
 refine hI.setp hz ?_;rw[ybY];exact hI.runs.glue ⟨rfl,hn,hU,rfl⟩
theorem SI.marked {a₀:Array Keyed}{st:SortSt}{lo p:Nat}(hI:SI κ kd a₀ lo st):SI κ kd a₀ lo (setPending st ((pendingOf st).modify ((pendingOf st).size - 1) fun x=>(x.fst,x.2.fst,p))):=by
 refine hI.setp hI.le ?_;rw[Array.toList_modify];exact hI.runs.modify _
theorem znZ {c:Prop}[Decidable c]{n:Nat}(h:2≤n):(if c then n - 2 - 1 else n - 2)+1 < n:=by
 split <;> omega
theorem zjo {a₀:Array Keyed}{st:SortSt}{Q:Unit→SortSt→Prop}(hO:LtG prog w A s κ kd)(hI:SI κ kd a₀ 0 st)(h2:2≤a₀.size)
  (h:∀ st',(arrOf st').Perm a₀→failedOf st'=none→Up κ (arrOf st') 0 a₀.size→Q () st'):wpS (model prog w) A E s sortRuns' Q st:=by
 rw[sortRuns'_eq];refine wpS_bind (wpS_get ?_);dsimp only;simp only[hI.tb.size];generalize minRun' a₀.size a₀.size 0=mr;refine wpS_bind (wpS_mono (wpS_forRange (I:=fun x c st'=>∃ lo,c=(none,lo)∧x≤lo∧SI κ kd a₀ lo st') (Q:=fun c st'=>c=(none,a₀.size)∧SI κ kd a₀ a₀.size st') ?step ?fin ⟨0,rfl,yaa _,hI⟩) ?post)
 case fin=>
  rintro c st' ⟨lo,rfl,hx,hI'⟩;have e:lo=a₀.size:=by
   have:=hI'.le;omega
  subst e;exact ⟨rfl,hI'⟩
 case step=>
  rintro x c st' _ hx ⟨lo,rfl,hxl,hI'⟩;have hle:=hI'.le;dsimp only;by_cases hlo:lo ≥ a₀.size
  ·rw[if_pos hlo];have e:lo=a₀.size:=by omega
   subst e;exact wpS_pure ⟨rfl,hI'⟩
  ·rw[if_neg hlo];refine wpS_bind (zjp hO hI'.tb (by omega) (by omega) fun r st2 hr=>?_);obtain ⟨n,ys,rfl,n1,n2,rfl,ho,hU⟩:=hr;have hI2:SI κ kd a₀ lo (setArr st' ys):=⟨hI'.tb.off ho,ho.perm.trans hI'.perm,hle,hI'.runs.off ho (.inl (yaa _))⟩;dsimp only;by_cases hmr:n < mr
   ·rw[if_pos hmr];refine wpS_bind (zda (wpS_bind (zhs hO hI2.tb (by omega) (by omega) hU fun zs oz uz=>?_)));simp only[ycf,yaX,if_false];have hI3:SI κ kd a₀ lo (setArr st' zs):=⟨hI2.tb.off oz,oz.perm.trans hI2.perm,hle,hI2.runs.off oz (.inl (yaa _))⟩;refine wpS_bind (wpS_get ?_);cases hb:(pendingOf (setArr st' zs)).back? with
    | none=>
     dsimp only;exact wpS_bind (wpS_modify (wpS_pure ⟨_,rfl,by omega,hI3.pushed (by omega) (by omega) uz⟩))
    | some x1=>
     obtain ⟨s1,n1',p1⟩:=x1;dsimp only;refine wpS_bind (wpS_mono (wpS_forRange (I:=fun _ c st5=>c=(none,())∧SI κ kd a₀ lo st5∧Up κ (arrOf st5) lo (lo+(min (a₀.size - lo) mr))) (Q:=fun c st5=>c=(none,())∧SI κ kd a₀ lo st5∧Up κ (arrOf st5) lo (lo+(min (a₀.size - lo) mr))) ?_ (fun _ _ z=>z) ⟨rfl,hI3,uz⟩) ?_)
     ·rintro i c st5 _ _ ⟨rfl,hI5,hU5⟩;refine wpS_bind (wpS_get ?_);by_cases h1:(pendingOf st5).size > 1
      ·rw[if_pos h1,ya6 (by omega)];obtain ⟨q1,q2,q3⟩:=(pendingOf st5)[(pendingOf st5).size - 2]'(by omega);dsimp only;split
       ·exact wpS_pure ⟨rfl,hI5,hU5⟩
       ·refine wpS_bind (zdB hO hI5 (by omega) fun st6 h3 h4 _=>?_);simp only[ycf,yaX,if_false];exact wpS_pure ⟨rfl,h3,hU5.off h4 (.inr (yaa _))⟩
      ·rw[if_neg h1];exact wpS_pure ⟨rfl,hI5,hU5⟩
     ·rintro c st5 ⟨rfl,hI5,hU5⟩;dsimp only;exact wpS_bind (wpS_modify (wpS_bind (wpS_modify (wpS_pure ⟨_,rfl,by omega,SI.pushed (SI.marked hI5) (by omega) (by omega) hU5⟩))))
   ·rw[if_neg hmr];refine wpS_bind (wpS_get ?_);cases hb:(pendingOf (setArr st' ys)).back? with
    | none=>
     dsimp only;exact wpS_bind (wpS_modify (wpS_pure ⟨_,rfl,by omega,hI2.pushed (by omega) (by omega) hU⟩))
    | some x1=>
     obtain ⟨s1,n1',p1⟩:=x1;dsimp only;refine wpS_bind (wpS_mono (wpS_forRange (I:=fun _ c st5=>c=(none,())∧SI κ kd a₀ lo st5∧Up κ (arrOf st5) lo (lo+n)) (Q:=fun c st5=>c=(none,())∧SI κ kd a₀ lo st5∧Up κ (arrOf st5) lo (lo+n)) ?_ (fun _ _ z=>z) ⟨rfl,hI2,hU⟩) ?_)
     ·rintro i c st5 _ _ ⟨rfl,hI5,hU5⟩;refine wpS_bind (wpS_get ?_);by_cases h1:(pendingOf st5).size > 1
      ·rw[if_pos h1,ya6 (by omega)];obtain ⟨q1,q2,q3⟩:=(pendingOf st5)[(pendingOf st5).size - 2]'(by omega);dsimp only;split
       ·exact wpS_pure ⟨rfl,hI5,hU5⟩
       ·refine wpS_bind (zdB hO hI5 (by omega) fun st6 h3 h4 _=>?_);simp only[ycf,yaX,if_false];exact wpS_pure ⟨rfl,h3,hU5.off h4 (.inr (yaa _))⟩
      ·rw[if_neg h1];exact wpS_pure ⟨rfl,hI5,hU5⟩
     ·rintro c st5 ⟨rfl,hI5,hU5⟩;dsimp only;exact wpS_bind (wpS_modify (wpS_bind (wpS_modify (wpS_pure ⟨_,rfl,by omega,SI.pushed (SI.marked hI5) (by omega) (by omega) hU5⟩))))
 case post=>
  rintro c st' ⟨rfl,hI'⟩;dsimp only;refine wpS_bind (wpS_mono (wpS_forRange (I:=fun x c st''=>c=(none,())∧SI κ kd a₀ a₀.size st''∧(pendingOf st'').size+x≤a₀.size+1) (Q:=fun c st''=>c=(none,())∧SI κ kd a₀ a₀.size st''∧(pendingOf st'').size≤1) ?_ ?_ ⟨rfl,hI',?_⟩) ?_)
  ·rintro x c st'' _ hx ⟨rfl,hJ,hz⟩;refine wpS_bind (wpS_get ?_);by_cases h1:(pendingOf st'').size≤1
   ·rw[if_pos h1];exact wpS_pure ⟨rfl,hJ,h1⟩
   ·rw[if_neg h1];refine wpS_bind (zdB hO hJ ?_ fun st3 h3 _ h4=>?_)
    ·exact znZ (by omega)
    ·simp only[ycf,yaX,if_false];exact wpS_pure ⟨rfl,h3,by omega⟩
  ·rintro c st'' ⟨rfl,hJ,hz⟩;exact ⟨rfl,hJ,by omega⟩
  ·have:=hI'.runs.le;rw[yax]at this;omega
  ·rintro c st'' ⟨rfl,hJ,hz⟩;dsimp only;refine wpS_pure (h _ hJ.perm hJ.tb.failed ?_);have hr:=hJ.runs;rw[← yax]at hz
   match e:(pendingOf st'').toList,hz,hr with
   | [],_,hr=>
    have:0=a₀.size:=hr;omega
   | [(s1,n1,p1)],_,hr=>
    obtain ⟨_,_,u,z⟩:=hr;have z:0+n1=a₀.size:=z;rw[z]at u;exact u
end
end Tim
namespace Tim
open PySem PyProof.Rows
set_option autoImplicit false
section
variable {prog:Program}{w:World}{A:Around}{E:Value→Shared→Prop}{s:Shared}{κ:KeyKind}{kd:SortKind}
def zfB (a:Addr)(h h':Heap):Prop:=∀ b o,b≠a→h.get? b=some o→h'.get? b=some o
def keyV (κ:KeyKind)(v:Value):κ.α:=(κ.keyOf v).getD κ.dflt
theorem zjm:∀ vs:List Value,vs.zip vs=vs.map fun v=>(v,v)
 | []=>rfl
 | v::vs=>by rw[ycz,zjm vs,yau]
theorem zhU {vs:List Value}{p:Keyed}(h:p∈(pairsOf vs).toList):p.1=p.2∧p.1∈vs:=by
 have e:(pairsOf vs).toList=vs.zip vs:=by
  unfold pairsOf;simp
 rw[e]at h;rw[zjm]at h;obtain ⟨v,hv,rfl⟩:=yaG.mp h;exact ⟨rfl,hv⟩
theorem zmL (vs:List Value):(pairsOf vs).toList.map (·.2)=vs:=by
 have e:(pairsOf vs).toList=vs.zip vs:=by
  unfold pairsOf;simp
 rw[e,zjm,ybA];have z:((fun x:Keyed=>x.2) ∘ fun v:Value=>(v,v))=id:=rfl
 first
  | rw[z,List.map_id]
  | exact List.map_id vs
theorem zrH {vs:List Value}{xs:Array Keyed}(hp:xs.Perm (pairsOf vs))(hU:Up κ xs 0 (pairsOf vs).size) :
  (xs.toList.map (·.2)).Perm vs∧(xs.toList.map (·.2)).Pairwise (fun x y=>κ.kle (keyV κ x) (keyV κ y)):=by
 have hpl:=ycv.mp hp;refine ⟨?_,?_⟩
 ·have:=hpl.map (·.2);rwa[zmL]at this
 ·have hs:SL κ xs.toList:=zqA (by rw[hp.size_eq];exact hU);refine ybL.mpr (hs.imp_of_mem fun {a b} ha hb hab=>?_);have ea:=(zhU (hpl.mem_iff.mp ha)).1;have eb:=(zhU (hpl.mem_iff.mp hb)).1;unfold le ky at hab;unfold keyV;rw[← ea,← eb];exact hab
theorem zpx {a:Addr}{vs:List Value}{n:Nat}{P:Fin→Shared→Prop}(ho:s.heap.get? a=some (seqObj "list" vs.toArray n))(hz:vs.length≤sizeLine)(keys:∀ v∈vs,∃ k,κ.keyOf v=some k)
  (hlt:∀ h',zfB a s.heap h'→LtG prog w A { s with heap:=h' } κ kd)
  (hkd:∀(h':Heap) (E:Value→Shared→Prop) (Q:SortKind→Shared→Prop),zfB a s.heap h'→2≤vs.length→Q kd { s with heap:=h' }→wpAny (model prog w) A (keyKind' vs.toArray) Q E { s with heap:=h' })
  (h:∀ out:List Value,out.Perm vs→out.Pairwise (fun x y=>κ.kle (keyV κ x) (keyV κ y))→P (.done (.ret .none)) { s with heap:=sortedHeap s.heap a vs out.toArray }) :
  wpAny (model prog w) A (Builtin.«list.sort» ⟨[.ref a],[]⟩) P E s:=by
 rw[list_sort_plain];have hlt0:a < s.heap.objs.size:=yaf ho;refine wpAny_bind (listItems_at ho rfl ?_);refine wpAny_bind (listUpdate_at ho rfl ?_ (by simpa using hz) (yaC _));obtain ⟨m,ho1⟩:∃ m,(s.heap.update a (Obj.mapSeq fun _=>#[])).get? a=some (seqObj "list" #[] m):=⟨_,get?_update_seq ho (fun _=>#[])⟩;refine wpAny_bind (seqEpoch_at ho1 rfl ?_);refine wpAny_bind (wpAny_newTuple ?_ (by simpa using hz));refine wpAny_bind (wpAny_newList ?_);refine wpAny_holding ?_;have z1:(s.heap.update a (Obj.mapSeq fun _=>#[])).objs.size=s.heap.objs.size:=by rw[Heap.size_update]
 have hk:zfB a s.heap (((s.heap.update a (Obj.mapSeq fun _=>#[])).push (seqObj "tuple" vs.toArray 0)).push (seqObj "list" #[] 0)):=fun b o hb e=>
  yai _ (yai _ ((ybx _ _ (Ne.symm hb)).trans e))
 have ho6:(((s.heap.update a (Obj.mapSeq fun _=>#[])).push (seqObj "tuple" vs.toArray 0)).push (seqObj "list" #[] 0)).get? a=some (seqObj "list" #[] m):=yai _ (yai _ ho1);show wpAny (model prog w) A _ P E { s with heap:=((s.heap.update a (Obj.mapSeq fun _=>#[])).push (seqObj "tuple" vs.toArray 0)).push (seqObj "list" #[] 0) };dsimp only;have fin:∀ st':SortSt,(arrOf st').Perm (pairsOf vs)→failedOf st'=none→Up κ (arrOf st') 0 (pairsOf vs).size→wpAny (model prog w) A (do
   let touched:=(← seqEpoch a) != m
   Builtin.List.listUpdate (.ref a) fun _=>(arrOf st').map (·.2)
   if let some e:=failedOf st' then rule "list.sort.comparison-raised";throw e
   if touched then rule "list.sort.modified";raiseError "ValueError" "list modified during sort"
   ret .none) P E { s with heap:=((s.heap.update a (Obj.mapSeq fun _=>#[])).push (seqObj "tuple" vs.toArray 0)).push (seqObj "list" #[] 0) }:=fun st' hp hf hU=>by
  refine wpAny_bind (seqEpoch_at ho6 rfl ?_);refine wpAny_bind (listUpdate_at ho6 rfl ?_ (yaC _) (by
   refine yao (Nat.le_of_eq ((Array.size_map ..).trans (hp.size_eq.trans (pairsOf_size _)))) ?_;omega))
  rw[hf];simp only[bne_self_eq_false,yaX,if_false];obtain ⟨o1,o2⟩:=zrH hp hU;have:=h _ o1 o2;have e:((arrOf st').toList.map (·.2)).toArray=(arrOf st').map (·.2):=by rw[← Array.toList_map,Array.toArray_toList]
  rw[e]at this;exact wpAny_pure this
 by_cases h2:vs.toArray.size < 2
 ·rw[if_pos h2,if_pos h2];refine wpAny_bind (wpAny_pure ?_);rw[StateT.run_pure];refine wpAny_bind (wpAny_pure ?_);refine fin (SortSt.mk' general' (vs.toArray.zip vs.toArray) #[] 7 none) (Array.Perm.refl _) rfl ?_;intro i j q1 q2 q3;have:i=j:=by
   rw[pairsOf_size]at q3;simp at h2;omega
  subst this;exact KeyOrd.kle_refl _
 ·rw[if_neg h2,if_neg h2];have h2':2≤vs.length:=by
   simp at h2;omega
  refine wpAny_bind (hkd _ _ _ hk h2' ?_);refine wpAny_bind (wpAny_mono (zjo (κ:=κ) (hlt _ hk) (a₀:=pairsOf vs) (st:=SortSt.mk' kd (vs.toArray.zip vs.toArray) #[] 7 none)
   (Q:=fun _ st'=>(arrOf st').Perm (pairsOf vs)∧failedOf st'=none∧Up κ (arrOf st') 0 (pairsOf vs).size)
   ⟨⟨rfl,fun p hp=>keys _ (zhU hp).2,rfl,rfl⟩,Array.Perm.refl _,yaC _,rfl⟩ (by rw[pairsOf_size];omega) fun st' a1 a2 a3=>⟨a1,a2,a3⟩) ?_ fun _ _ e=>e)
  rintro ⟨⟨⟩,st'⟩ s' ⟨rfl,hp,hf,hs⟩;exact fin st' hp hf hs
theorem zgs {h:Heap}{a:Addr}{vs out:List Value}{n:Nat}(ho:h.get? a=some (seqObj "list" vs.toArray n)):zfB a h (sortedHeap h a vs out.toArray)∧∃ c,(sortedHeap h a vs out.toArray).get? a=some (seqObj "list" out.toArray c):=by
 unfold sortedHeap;refine ⟨fun b o hb e=>(ybx _ _ (Ne.symm hb)).trans (yai _ (yai _ ((ybx _ _ (Ne.symm hb)).trans e))),?_⟩;exact ⟨_,get?_update_seq (yai _ (yai _ (get?_update_seq ho (fun _=>#[])))) fun _=>out.toArray⟩
theorem zn9 {l:Addr}{vs:List Value}{Q:Value→Shared→Prop}(hl:s.heap.IsList l vs.toArray)(hz:vs.length≤sizeLine)(keys:∀ v∈vs,∃ k,κ.keyOf v=some k)
  (hlt:∀ h',(∀ b o,s.heap.get? b=some o→h'.get? b=some o)→LtG prog w A.in1.in1 { s with heap:=h' } κ kd)
  (hkd:∀(h':Heap) (E:Value→Shared→Prop) (Q:SortKind→Shared→Prop),(∀ b o,s.heap.get? b=some o→h'.get? b=some o)→2≤vs.length→Q kd { s with heap:=h' }→wpAny (model prog w) A.in1.in1 (keyKind' vs.toArray) Q E { s with heap:=h' })
  (h:∀(out:List Value) (h':Heap) (c:Nat),out.Perm vs→out.Pairwise (fun x y=>κ.kle (keyV κ x) (keyV κ y))→(∀ b o,s.heap.get? b=some o→h'.get? b=some o)→
   h'.get? (s.heap.objs.size+1)=some (seqObj "list" out.toArray c)→Q (.ref (s.heap.objs.size+1)) { s with heap:=h' }) :
  wpAny (model prog w) A (call (.builtin "sorted") [.ref l]) Q E s:=by
 refine Calls.call_function_entry kind_sorted plain_sorted entry_sorted (args_sorted1 _) ?_;unfold Builtin.«sorted»;refine wpAny_bind (m:=checkCount "sorted" 1 1 _) (wpAny_pure ?_);refine wpAny_bind (collect_list hl ?_ hz);refine wpAny_bind (wpAny_newList ?_ (by simpa using hz));have z1:((s.heap.push (seqObj "list" #[] 0)).update s.heap.objs.size (Obj.mapSeq (· ++ vs.toArray))).objs.size=s.heap.objs.size+1:=by
  rw[Heap.size_update,size_push']
 have hn:(((s.heap.push (seqObj "list" #[] 0)).update s.heap.objs.size (Obj.mapSeq (· ++ vs.toArray))).push (seqObj "list" vs.toArray 0)).get? (s.heap.objs.size+1)=some (seqObj "list" vs.toArray 0):=by
  rw[← z1];exact yaB _ rfl
 have hk:∀ b o,s.heap.get? b=some o→(((s.heap.push (seqObj "list" #[] 0)).update s.heap.objs.size (Obj.mapSeq (· ++ vs.toArray))).push (seqObj "list" vs.toArray 0)).get? b=some o:=fun b o e=>
  yai _ ((ybx _ _ (ybo (yaf e))).trans (yai _ e))
 show wpAny _ _ _ _ _ { s with heap:=((s.heap.push (seqObj "list" #[] 0)).update s.heap.objs.size (Obj.mapSeq (· ++ vs.toArray))).push (seqObj "list" vs.toArray 0) };rw[z1];generalize ((s.heap.push (seqObj "list" #[] 0)).update s.heap.objs.size (Obj.mapSeq (· ++ vs.toArray))).push (seqObj "list" vs.toArray 0)=h1 at hn hk ⊢;have up:∀ h',zfB (s.heap.objs.size+1) h1 h'→∀ b o,s.heap.get? b=some o→h'.get? b=some o:=fun h' kb b o e=>kb b o (fun z=>by
  have:=yaf e;rw[z]at this;exact absurd this (ybB.mpr (yaV _))) (hk b o e)
 refine wpAny_bind (wpAny_holding (wpAny_call_entry slot_list_sort ⟨_,hn,rfl⟩ entry_list_sort (zpx (s:={ s with heap:=h1 }) hn hz keys (fun h' kb=>hlt h' (up h' kb)) (fun h' E Q kb h2 q=>hkd h' E Q (up h' kb) h2 q) fun out p1 p2=>⟨_,rfl,?_⟩) (args_list_sort _)));obtain ⟨kb,c,hc⟩:=zgs (out:=out) hn;exact wpAny_pure ⟨_,rfl,h out _ c p1 p2 (up _ kb) hc⟩
end
end Tim
namespace L2
open PySem PySem.Spec PyProof.Rows
structure DF (K:Frag)(mg:Str→Option Value)(x:Str)(st:Stmt)(ps:List Str):Prop where
 ex:∃ f fd,Fun K x x st f fd∧zdT K fd ps []∧mg x=some (.ref f)
structure FC (P:Program)(w:World)(K:Frag)(mg:Str→Option Value)(base:Heap)(k:Nat)(x:Str)(ps:List Str)(sp:Sp):Prop where
 ex:∃ f fd,FnOk P w K mg base CX0 k f fd ps sp∧zdT K fd ps []∧keepIn K (.ref f)=true∧mg x=some (.ref f)∧∃ oc od osl,K.lookup f=some ⟨oc,od,.func fd,osl⟩
theorem FC.at {P:Program}{w:World}{K:Frag}{mg:Str→Option Value}{base:Heap}{k:Nat}{x:Str}{ps:List Str}{sp:Sp}{f:Addr}{fd:FuncData}{oc:Value}{od:Option Addr}{osl:Array (Option Value)}(F:FC P w K mg base k x ps sp)(m:mg x=some (.ref f))(l:K.lookup f=some ⟨oc,od,.func fd,osl⟩):FnOk P w K mg base CX0 k f fd ps sp:=by
 obtain ⟨f',fd',ok,_,_,m',oc',od',osl',l'⟩:=F.ex;rw[m]at m';cases m'
 rw[l]at l';cases l'
 exact ok
theorem DF.ok {P:Program}{w:World}{K:Frag}{mg:Str→Option Value}{base:Heap}{x:Str}{st:Stmt}{N ps:List Str}{k:Nat}{sp:Sp}(D:DF K mg x st ps)(S:zaq N ps (zaj st))(len:∀ vs H Q E,sp vs H Q E→vs.length=ps.length)
  (hbody:∀(f:Addr) (cdv:Value) (A:Around) (outer:List Env) (s:Shared) (H:Hp) (vs:List V) (Q:VK) (E:XK),Room k (A.deeper (envOfC x (zaj st) s.heap.objs.size f cdv))→sp vs H Q E→
   ∃ t,PSs (cxOf CX0 P w K mg base N x (zaj st) f cdv A outer s H E).nox (zbd st) t∧t { nx:=fun _ H'=>Q .non H',rt:=Q } (start N vs) H):FC P w K mg base (k+1) x ps sp:=by
 obtain ⟨f,fd,F,b,m⟩:=D.ex;exact ⟨f,fd,F.ok S len fun cdv A outer s H vs Q E hr h=>hbody f cdv A outer s H vs Q E hr h,b,F.kp,m,by
  obtain ⟨oc,od,kV,doc,pm,an,cdv,ct,osl,rfl,lk,hcd⟩:=F.ex;exact ⟨oc,od,osl,lk⟩⟩
theorem zaA {X:Cx}{j k:Nat}{x:Str}{ps:List Str}{sp:Sp}{e:Expr}{es:List Expr}{t:TA}{p pos:Pos}(F:FC X.prog X.w X.K X.mg X.base j x ps sp)(hr:Room k X.A)(ha:PA X (e::es) t)(hjk:j≤k:=by decide)(hg:Gl X x:=by rfl)
  (hdb:(x == ("__debug__" : Str))=false:=by decide) (he:starEach (e::es) X.env=(false,eval e X.env)::starEach es X.env:=by rfl) (hpl:(backTo pos (starEach es X.env)).any (·.1)=false:=by rfl):PE X (.Call (.Name x p) (e::es) [] pos) (zrn sp [] E0 t):=by
 obtain ⟨f,fd,ok,b,kp,m,_⟩:=F.ex;exact zqh ok (hr.mono hjk) hg m kp b .nil zmJ ha hdb he hpl
def zsy (t u:TS):TS:=fun D σ H=>∃ M:St→Hp→Prop,t { D with nx:=M } σ H∧∀ σ' H',M σ' H'→u D σ' H'
theorem zaB {X:Cx}{st:Stmt}{rest:List Stmt}{t u:TS}(h1:PS X st t)(h2:PSs X rest u):PSs X (st::rest) (zsy t u):=by
 intro pins s σ H D I h;obtain ⟨M,h,hM⟩:=h;refine wpAny_execs_cons (thn (h1 pins s σ H { D with nx:=M } I h) fun f s1 q=>?_);cases f with
 | next=>
  obtain ⟨σ',H',I',q⟩:=q;exact h2 pins s1 σ' H' D I' (hM σ' H' q)
 | ret v=>exact q
 | brk=>exact q
 | cont=>exact q
def zsU (i j:Int):Prop:=0 < j∧j < 2 ^ 4000
section
variable {X:Cx}
def kitO (a b:String):Option Bool:=if (Value.type a == Value.type b)=true then some true else if PySem.W.kitMeta b=true then (PySem.fastBuiltinMro a).map (·.contains (.type b)) else none
theorem zqD {K:Frag}{a b:String}:kitOne K (.type a) (.type b)=kitO a b:=rfl
def rIsi (K:Frag):List V→Hp→VK→Prop:=fun xs H Q=>∃ x n t b,xs=[x,.ty n]∧TyOf K H x (.type t)∧kitO t n=some b∧Q (.bl b) H
theorem zbY:zdA X (.builtin "isinstance") (rIsi X.K):=by
 intro pins s σ H xs us Q I r h;obtain ⟨x,n,t,b,e,ty,ki,q⟩:=h;subst e;obtain ⟨u,w',e,r1,r2⟩:=zhu r;subst e;cases r2
 exact znj I r1 ty (zqD.trans ki) fun tk=>⟨.bl b,H,I.tok tk,rfl,q⟩
theorem zr7:kitO "int" "int" = some true:=by decide +kernel
theorem zpG:kitO "int" "bool" = some false:=by decide +kernel
theorem zkV:kitO "list" "list" = some true:=by decide +kernel
theorem zr8:kitO "bool" "bool" = some true:=by decide +kernel
def zp7:V→List V→Hp→VK→Prop:=fun x xs H Q=>∃ i,x=.int i∧xs=[]∧Q (.int (Builtin.Int.intBits i:Nat)) H
theorem zh0:MtR X "int.bit_length" zp7:=by
 intro pins s σ H x xs v us Q I rx rv h;obtain ⟨i,rfl,rfl,q⟩:=h;obtain ⟨t,rfl⟩:=rx;cases rv
 exact call_int_bit_length ⟨.int _,H,I.tok _,⟨_,rfl⟩,q⟩
end
theorem zqE {c A B:Prop}[Decidable c](hc:¬ c)(h:B):if decide c=true then A else B:=by
 rw[yah hc];exact iteF h
theorem zsf {c A B:Prop}[Decidable c](hc:c)(h:A):if decide c=true then A else B:=by
 rw[yag hc];exact iteT h
def zdq (L:Addr)(a l:Int):HO:=.dK [(.inr "script",.ref L),(.inr "at",.int a),(.inr "left",.int l)]
def Keep (d:Addr)(H H':Hp):Prop:=∀ b o,b≠d→H b=some o→H' b=some o
theorem Keep.refl (d:Addr)(H:Hp):Keep d H H:=fun _ _ _ h=>h
theorem Keep.trans {d:Addr}{H H1 H2:Hp}(a:Keep d H H1)(b:Keep d H1 H2):Keep d H H2:=fun c o n h=>b c o n (a c o n h)
theorem Same.keep {d:Addr}{H H':Hp}(s:Same H H'):Keep d H H':=fun b o _ h=>s b o h
structure LS (K:Frag)(L d:Addr)(H:Hp):Prop where
 ex:∃(ns:List Int) (a l:Int),H d=some (zdq L a l)∧SqL K H L (ns.map V.int)
theorem zfO {K:Frag}{H H':Hp}{L d:Addr}{xs:List V}{L':Addr}{a l:Int}(hd:H d=some (zdq L' a l))(k:Keep d H H')(h:SqL K H L xs):SqL K H' L xs:=by
 have ne:∀ o,H L=some o→(∀ kvs,o≠.dK kvs)→L≠d:=fun o e n z=>by
  rw[z,hd]at e;cases e
  exact n _ rfl
 rcases h with (h | ⟨o,h⟩) | h
 ·exact .inl (.inl (k L _ (ne _ h (fun _ z=>nomatch z)) h))
 ·exact .inl (.inr ⟨o,k L _ (ne _ h (fun _ z=>nomatch z)) h⟩)
 ·exact .inr h
theorem LS.set {K:Frag}{d L:Addr}{H:Hp}{ns:List Int}{a l a' l':Int}(hd:H d=some (zdq L a l))(h:SqL K H L (ns.map V.int)):LS K L d (upd H d (zdq L a' l'))∧Keep d H (upd H d (zdq L a' l')):=by
 have k:Keep d H (upd H d (zdq L a' l')):=fun b o n e=>by rw[zag n];exact e
 exact ⟨⟨ns,a',l',zab,zfO hd k h⟩,k⟩
theorem LS.same {K:Frag}{L d:Addr}{H H':Hp}(s:LS K L d H)(k:Same H H'):LS K L d H':=by
 obtain ⟨ns,a,l,e,q⟩:=s.ex;exact ⟨ns,a,l,k _ _ e,k.seq q⟩
theorem zai {H:Hp}{p:Addr}(h:H p=none)(o:HO):Same H (upd H p o):=fun b u q=>by rw[zag (zac q h)];exact q
theorem LS.put {K:Frag}{L d p:Addr}{H0 H2:Hp}{o:HO}(s:LS K L d H0)(hp:H0 p=none)(k:∀ b o,b≠d→b≠p→H0 b=some o→H2 b=some o)(s2:LS K L d H2):LS K L d (upd H2 p o):=by
 obtain ⟨ns,a,l,e,q⟩:=s.ex;obtain ⟨ns2,a2,l2,e2,_⟩:=s2.ex;have hdp:d≠p:=zac e hp;have go:∀ u,H0 L=some u→(∀ kvs,u≠.dK kvs)→upd H2 p o L=some u:=fun u hu hn=>by
  have h1:L≠p:=zac hu hp;have h2:L≠d:=fun z=>by
   rw[z,e]at hu;cases hu
   exact hn _ rfl
  rw[zag h1];exact k L u h2 h1 hu
 refine ⟨ns,a2,l2,by rw[zag hdp];exact e2,?_⟩;rcases q with (h | ⟨ob,h⟩) | h
 ·exact .inl (.inl (go _ h (fun _ z=>nomatch z)))
 ·exact .inl (.inr ⟨ob,go _ h (fun _ z=>nomatch z)⟩)
 ·exact .inr h
section
variable {H:Hp}{d L:Addr}{a l:Int}
theorem zek {x y:Str}(h:x≠y):(Sum.inr x:Key)≠Sum.inr y:=fun z=>h (Sum.inr.inj z)
theorem zlJ (h:H d=some (zdq L a l)):DGet H d (.str "script") (some (.ref L)):=.inl ⟨_,.inr "script",.inl h,rfl,by rw[zcM rfl]⟩
theorem zsi (h:H d=some (zdq L a l)):DGet H d (.str "at") (some (.int a)):=.inl ⟨_,.inr "at",.inl h,rfl,by rw[zbz (zek (show ("script" : Str) ≠ "at" by decide +kernel)),zcM rfl]⟩
theorem zia (h:H d=some (zdq L a l)):DGet H d (.str "left") (some (.int l)):=.inl ⟨_,.inr "left",.inl h,rfl,by rw[zbz (zek (show ("script" : Str) ≠ "left" by decide +kernel)),zbz (zek (show ("at" : Str) ≠ "left" by decide +kernel)),zcM rfl]⟩
theorem zpA {k:Key}{v:V}{kvs kvs':List (Key×V)}(h:H d=some (.dK kvs))(hl:kvs.length < sizeLine)(e:putK kvs k v=kvs'):DPut H d (kV k) v (upd H d (.dK kvs')):=by
 subst e;exact DPut.k h hl
theorem zrC {a':Int}(h:H d=some (zdq L a l)):DPut H d (.str "at") (.int a') (upd H d (zdq L a' l)):=
 zpA (k:=.inr "at") h (by show 3 < sizeLine;decide) (by
  unfold putK;rw[if_pos (by simp)];simp only[yau,ybV,if_neg (zek (show ("script" : Str) ≠ "at" by decide +kernel)),if_neg (zek (show ("left" : Str) ≠ "at" by decide +kernel)),if_true])
theorem zkD {l':Int}(h:H d=some (zdq L a l)):DPut H d (.str "left") (.int l') (upd H d (zdq L a l')):=
 zpA (k:=.inr "left") h (by show 3 < sizeLine;decide) (by
  unfold putK;rw[if_pos (by simp)];simp only[yau,ybV,if_neg (zek (show ("script" : Str) ≠ "left" by decide +kernel)),if_neg (zek (show ("at" : Str) ≠ "left" by decide +kernel)),if_true])
end
def zgf (K:Frag):Sp:=fun vs H Q _=>∃(d L:Addr) (m:Int),vs=[.ref d,.int m]∧(0 < m∧m < 1073741824)∧LS K L d H∧∀(v:Int) (H':Hp),0≤v→v < m→Keep d H H'→LS K L d H'→Q (.int v) H'
def zmo:Sp:=fun vs H Q _=>∃ c k:Int,vs=[.int c,.int k]∧∀ v:Int,Q (.int v) H
def zmu (K:Frag):Sp:=fun vs H Q _=>∃(L:Addr) (ns:List Int),vs=[.ref L]∧SqL K H L (ns.map V.int)∧∀(d:Addr) (H':Hp),H d=none→Same H H'→LS K L d H'→Q (.ref d) H'
theorem zss {ns:List Int}{k:Int}(h:0 < ns.length):∃ v:Int,atI (ns.map V.int) (k % (((ns.map V.int).length:Nat):Int))=some (.int v):=by
 have e:(ns.map V.int).length=ns.length:=yab _;have h1:(0:Int) < (((ns.map V.int).length:Nat):Int):=by rw[e];omega
 have z0:=ycg k (Int.ne_of_gt h1);have z1:=ych k h1;generalize hj:k % (((ns.map V.int).length:Nat):Int)=j at z0 z1;rw[e]at z1;have hk:j.toNat < ns.length:=by omega
 obtain ⟨n,rfl⟩:∃ n:Nat,j=(n:Int):=⟨j.toNat,by omega⟩;have hn:n < ns.length:=by omega
 exact ⟨ns[n],zeu (by rw[yar,yac hn];rfl)⟩
end L2
namespace L2
open PySem PySem.Spec PyProof.Rows PySem.SeqAt
def Ext (H H':Hp):Prop:=∀ b o,H b=some o→(∀ kvs,o≠.dK kvs)→H' b=some o
theorem Same.ext {H H':Hp}(s:Same H H'):Ext H H':=fun b o h _=>s b o h
theorem Keep.ext {d L:Addr}{a l:Int}{H H':Hp}(k:Keep d H H')(h:H d=some (zdq L a l)):Ext H H':=fun b o e n=>k b o (fun z=>by
 rw[z,h]at e;cases e
 exact n _ rfl) e
theorem LS.ext {K:Frag}{L d:Addr}{H H':Hp}(s:LS K L d H)(k:Keep d H H'):Ext H H':=by
 obtain ⟨ns,a,l,e,_⟩:=s.ex;exact k.ext e
theorem LS.of_new {K:Frag}{L d:Addr}{H:Hp}(s:LS K L d H){p:Addr}(hp:H p=none)(o:HO):LS K L d (upd H p o):=s.same (zai hp o)
theorem SqL.ext {K:Frag}{H H':Hp}{a:Addr}{xs:List V}(e:Ext H H')(h:SqL K H a xs):SqL K H' a xs:=by
 rcases h with (h | ⟨o,h⟩) | h
 ·exact .inl (.inl (e _ _ h (fun _ z=>nomatch z)))
 ·exact .inl (.inr ⟨o,e _ _ h (fun _ z=>nomatch z)⟩)
 ·exact .inr h
theorem SqT.ext {K:Frag}{H H':Hp}{a:Addr}{xs:List V}(e:Ext H H')(h:SqT K H a xs):SqT K H' a xs:=by
 rcases h with (h | ⟨o,h⟩) | h
 ·exact .inl (.inl (e _ _ h (fun _ z=>nomatch z)))
 ·exact .inl (.inr ⟨o,e _ _ h (fun _ z=>nomatch z)⟩)
 ·exact .inr h
class Rep (α:Type) where
 dec:DecidableEq α
 depth:Nat
 has:Frag→Hp→α→V→Prop
 mono:∀{K:Frag} {H H':Hp} {a:α} {v:V},Ext H H'→has K H a v→has K H' a v
 inj:∀{X:Cx} {pins:List (Addr×Obj)} {σ:St} {H:Hp} {s:Shared} {a b:α} {v:V},Inv X pins σ H s→has X.K H a v→has X.K H b v→a=b
 rc:∀{X:Cx} {pins:List (Addr×Obj)} {σ:St} {H:Hp} {s:Shared} {A:Around} {a b:α} {x y:V} {u v:Value},Inv X pins σ H s→A.units+depth < cLine→has X.K H a x→has X.K H b y→RelV x u→RelV y v→RcAt A s u v (dec a b).decide
 rn:∀{X:Cx} {pins:List (Addr×Obj)} {σ:St} {H:Hp} {s:Shared} {A:Around} {a b:α} {x y:V} {u v:Value},Inv X pins σ H s→A.units+depth < cLine→has X.K H a x→has X.K H b y→RelV x u→RelV y v→RcNeAt A s u v (!(dec a b).decide)
 eq:∀{X:Cx} {pins:List (Addr×Obj)} {σ:St} {H:Hp} {s:Shared} {A:Around} {a b:α} {x y:V} {u v:Value},Inv X pins σ H s→A.units+depth < cLine→has X.K H a x→has X.K H b y→RelV x u→RelV y v→EqAt A s u v (dec a b).decide
instance (priority:=low) repDec {α:Type} [Rep α]:DecidableEq α:=Rep.dec
theorem zj6 {i j:Int}:(i == j)=(Int.instDecidableEq i j).decide:=by
 by_cases h:i=j
 ·subst h;simp
 ·rw[beq_eq_false_iff_ne.mpr h];exact (yah h).symm
instance:Rep Int where
 dec:=Int.instDecidableEq
 depth:=0
 has:=fun _ _ i v=>v=.int i
 mono:=fun _ h=>h
 inj:=fun _ h1 h2=>V.int.inj (h1.symm.trans h2)
 rc:=fun _ _ h1 h2 r1 r2=>by
  subst h1 h2;obtain ⟨t,rfl⟩:=r1;obtain ⟨t',rfl⟩:=r2;rw[← zj6];exact RcAt.int_int _ _ _ _
 rn:=fun _ _ h1 h2 r1 r2=>by
  subst h1 h2;obtain ⟨t,rfl⟩:=r1;obtain ⟨t',rfl⟩:=r2;rw[← zj6];exact RcNeAt.int_int _ _ _ _
 eq:=fun _ _ h1 h2 r1 r2=>by
  subst h1 h2;obtain ⟨t,rfl⟩:=r1;obtain ⟨t',rfl⟩:=r2;rw[← zj6];exact EqAt.int_int _ _ _ _
instance:Rep Bool where
 dec:=instDecidableEqBool
 depth:=0
 has:=fun _ _ i v=>v=.bl i
 mono:=fun _ h=>h
 inj:=fun _ h1 h2=>V.bl.inj (h1.symm.trans h2)
 rc:=fun {_ _ _ _ _ _ a b _ _ _ _} _ _ h1 h2 r1 r2=>by
  subst h1 h2;cases r1
  cases r2
  have e:(a == b)=(instDecidableEqBool a b).decide:=by cases a <;> cases b <;> rfl
  rw[← e];exact RcAt.bool_bool _ _
 rn:=fun {_ _ _ _ _ _ a b _ _ _ _} _ _ h1 h2 r1 r2=>by
  subst h1 h2;cases r1
  cases r2
  have e:(a == b)=(instDecidableEqBool a b).decide:=by cases a <;> cases b <;> rfl
  rw[← e];exact RcNeAt.bool_bool _ _
 eq:=fun {_ _ _ _ _ _ a b _ _ _ _} _ _ h1 h2 r1 r2=>by
  subst h1 h2;cases r1
  cases r2
  have e:(a == b)=(instDecidableEqBool a b).decide:=by cases a <;> cases b <;> rfl
  rw[← e];exact EqAt.bool_bool _ _
theorem pImp {α β:Type}{R S:α→β→Prop}(h:∀ a b,R a b→S a b){as:List α}{bs:List β}(p:Paired R as bs):Paired S as bs:=by
 induction p with
 | nil=>exact .nil
 | cons a _ ih=>exact .cons (h _ _ a) ih
theorem pApp {α β:Type}{R:α→β→Prop}{as cs:List α}{bs ds:List β}(p:Paired R as bs)(q:Paired R cs ds):Paired R (as++cs) (bs++ds):=by
 induction p with
 | nil=>exact q
 | cons a _ ih=>exact .cons a ih
def zal {α:Type}[Rep α](K:Frag)(H:Hp):List α→List V→Prop:=Paired (Rep.has K H)
section
variable {α:Type}[Rep α]{K:Frag}{H H':Hp}
theorem zal.mono (e:Ext H H'){as:List α}{xs:List V}(h:zal K H as xs):zal K H' as xs:=pImp (fun _ _=>Rep.mono e) h
theorem zal.length {as:List α}{xs:List V}(h:zal K H as xs):as.length=xs.length:=Paired.length h
theorem zal.get:∀{as:List α} {xs:List V} {i:Nat} {x:V},zal K H as xs→xs[i]?=some x→∃ a,as[i]?=some a∧Rep.has K H a x
 | _,_,_,_,.nil,e=>by simp at e
 | _,_,0,_,.cons h _,e=>by simp at e;subst e;exact ⟨_,rfl,h⟩
 | _,_,i+1,x,.cons _ t,e=>by
  obtain ⟨a,h1,h2⟩:=zal.get (i:=i) (x:=x) t (by simpa using e);exact ⟨a,by simpa using h1,h2⟩
theorem zal.append {as bs:List α}{xs ys:List V}(h:zal K H as xs)(g:zal K H bs ys):zal K H (as++bs) (xs++ys):=pApp h g
theorem zal.one {a:α}{x:V}(h:Rep.has K H a x):zal K H [a] [x]:=.cons h .nil
theorem zal.ints:∀{ns:List Int},zal K H ns (ns.map V.int)
 | []=>.nil
 | _::_=>.cons rfl zal.ints
theorem zal.toInts {ns:List Int}{xs:List V}(h:zal K H ns xs):xs=ns.map V.int:=by
 unfold zal at h
 induction h with
 | nil=>rfl
 | cons h _ ih=>
  have e:_=V.int _:=h;rw[e,ih];rfl
theorem zal.inj {X:Cx}{pins:List (Addr×Obj)}{σ:St}{s:Shared}(I:Inv X pins σ H s){as bs:List α}{xs:List V}(h:zal X.K H as xs)(g:zal X.K H bs xs):as=bs:=by
 unfold zal at h g
 induction h generalizing bs with
 | nil=>cases g;rfl
 | cons h _ ih=>
  cases g with
  | cons h' t'=>rw[Rep.inj I h h',ih t']
end
theorem zfA {α:Type}[DecidableEq α]:∀(as bs:List α),as.length=bs.length→((List.range as.length).all fun j=>decide (as[j]?=bs[j]?))=decide (as=bs):=by
 intro as bs hl;by_cases h:as=bs
 ·subst h;simp
 ·rw[yah h,List.all_eq_false]
  false_or_by_contra
  rename_i z;apply h;apply yba;intro i;by_cases hi:i < as.length
  ·false_or_by_contra
   rename_i q;exact z ⟨i,ya8.mpr hi,by simpa using q⟩
  ·rw[yaP (by omega),yaP (by omega)]
section
variable {α:Type}[r:Rep α]
theorem zbU {A:Around}:A.in1.units≤A.units+1:=by
 first
  | exact yaa _
  | (unfold Around.in1;simp)
theorem zf6 {X:Cx}{pins:List (Addr×Obj)}{σ:St}{H:Hp}{s:Shared}{A:Around}{as bs:List α}{xs ys:List V}{us vs:List Value}(I:Inv X pins σ H s)(hu:A.units+Rep.depth α < cLine)
  (h1:zal X.K H as xs) (h2:zal X.K H bs ys) (r1:Vals xs us) (r2:Vals ys vs):∀ j (q1:j < us.toArray.size) (q2:j < vs.toArray.size),EqAt A s us.toArray[j] vs.toArray[j] (decide (as[j]?=bs[j]?)):=by
 intro j q1 q2;have l1:=r1.length;have l2:=r2.length;have m1:=h1.length;have m2:=h2.length;have j1:j < us.length:=by simpa using q1
 have j2:j < vs.length:=by simpa using q2
 obtain ⟨a,ea,ha⟩:=h1.get (i:=j) (yac (by omega));obtain ⟨b,eb,hb⟩:=h2.get (i:=j) (yac (by omega));obtain ⟨u,eu,ru⟩:=r1.get (i:=j) (yac (by omega));obtain ⟨v,ev,rv⟩:=r2.get (i:=j) (yac (by omega));have gu:us.toArray[j]=u:=by
  have:us[j]?=some us[j]:=yac j1;rw[eu]at this;simpa using (yad this).symm
 have gv:vs.toArray[j]=v:=by
  have:vs[j]?=some vs[j]:=yac j2;rw[ev]at this;simpa using (yad this).symm
 rw[gu,gv,ea,eb];have e:decide (some a=some b)=(Rep.dec a b).decide:=by
  by_cases z:a=b
  ·subst z;simp
  ·rw[yah (fun q=>z (yad q))];exact (yah z).symm
 rw[e];exact Rep.eq I hu ha hb ru rv
end
def hasL {α:Type}[Rep α](K:Frag)(H:Hp)(as:List α)(v:V):Prop:=∃ a xs,v=.ref a∧SqL K H a xs∧zal K H as xs
section
variable {α:Type}[r:Rep α]{X:Cx}{pins:List (Addr×Obj)}{σ:St}{H:Hp}{s:Shared}{A:Around}{as bs:List α}{x y:V}{u v:Value}
theorem zoX (I:Inv X pins σ H s)(h1:hasL X.K H as x)(h2:hasL X.K H bs x):as=bs:=by
 obtain ⟨a,xs,rfl,q1,h1⟩:=h1;obtain ⟨b,ys,e,q2,h2⟩:=h2;cases e
 rw[I.list_inj q2 q1]at h2;exact h1.inj I h2
theorem znq (I:Inv X pins σ H s)(hu:A.units+(Rep.depth α+1) < cLine)(h1:hasL X.K H as x)(h2:hasL X.K H bs y)(r1:RelV x u)(r2:RelV y v):RcAt A s u v (decide (as=bs)):=by
 obtain ⟨a,xs,rfl,q1,h1⟩:=h1;obtain ⟨b,ys,rfl,q2,h2⟩:=h2;cases r1
 cases r2
 obtain ⟨us,ru,pu,_⟩:=I.list q1;obtain ⟨vs,rv,pv,_⟩:=I.list q2;have l1:=ru.length;have l2:=rv.length;have m1:=h1.length;have m2:=h2.length;have hin:A.in1.units+Rep.depth α < cLine:=ya1 (ybl zbU _) (by omega);by_cases hl:as.length=bs.length
 ·have e:=zfA as bs hl;rw[← e];have z:as.length=us.toArray.size:=by simp;omega
  rw[z];exact RcAt.lists pu.isList pv.isList (by simp;omega) (by omega) (zf6 I hin h1 h2 ru rv)
 ·rw[yah (fun z=>hl (by rw[z]))];exact RcAt.lists_lengths pu.isList pv.isList (by simp;omega) (by omega)
theorem zqL (I:Inv X pins σ H s)(hu:A.units+(Rep.depth α+1) < cLine)(h1:hasL X.K H as x)(h2:hasL X.K H bs y)(r1:RelV x u)(r2:RelV y v):RcNeAt A s u v (!decide (as=bs)):=by
 obtain ⟨a,xs,rfl,q1,h1⟩:=h1;obtain ⟨b,ys,rfl,q2,h2⟩:=h2;cases r1
 cases r2
 obtain ⟨us,ru,pu,_⟩:=I.list q1;obtain ⟨vs,rv,pv,_⟩:=I.list q2;have l1:=ru.length;have l2:=rv.length;have m1:=h1.length;have m2:=h2.length;have hin:A.in1.units+Rep.depth α < cLine:=ya1 (ybl zbU _) (by omega);by_cases hl:as.length=bs.length
 ·have e:=zfA as bs hl;rw[← e];have z:as.length=us.toArray.size:=by simp;omega
  rw[z];exact RcNeAt.lists pu.isList pv.isList (by simp;omega) (by omega) (zf6 I hin h1 h2 ru rv)
 ·rw[yah (fun z=>hl (by rw[z])),Bool.not_false];exact RcNeAt.lists_lengths pu.isList pv.isList (by simp;omega) (by omega)
theorem zqM (I:Inv X pins σ H s)(hu:A.units+(Rep.depth α+1) < cLine)(h1:hasL X.K H as x)(h2:hasL X.K H bs y)(r1:RelV x u)(r2:RelV y v):EqAt A s u v (decide (as=bs)):=by
 have rc:=znq (A:=A) I hu h1 h2 r1 r2;obtain ⟨a,xs,rfl,q1,h1⟩:=h1;obtain ⟨b,ys,rfl,q2,h2⟩:=h2;cases r1
 cases r2
 by_cases hab:a=b
 ·subst hab;rw[I.list_inj q2 q1]at h2;rw[yag (h1.inj I h2)];exact EqAt.same _
 ·exact EqAt.of_refs hab rc
end
instance {α:Type} [Rep α]:Rep (List α) where
 dec:=inferInstance
 depth:=Rep.depth α+1
 has:=hasL
 mono:=fun e ⟨a,xs,h1,h2,h3⟩=>⟨a,xs,h1,h2.ext e,h3.mono e⟩
 inj:=fun I h1 h2=>zoX I h1 h2
 rc:=fun I hu h1 h2 r1 r2=>znq I hu h1 h2 r1 r2
 rn:=fun I hu h1 h2 r1 r2=>zqL I hu h1 h2 r1 r2
 eq:=fun I hu h1 h2 r1 r2=>zqM I hu h1 h2 r1 r2
def hasP {α β:Type}[Rep α][Rep β](K:Frag)(H:Hp)(p:α×β)(v:V):Prop:=∃ a x y,v=.ref a∧H a=some (.tup [x,y])∧Rep.has K H p.1 x∧Rep.has K H p.2 y
section
variable {α β:Type}[ra:Rep α][rb:Rep β]{X:Cx}{pins:List (Addr×Obj)}{σ:St}{H:Hp}{s:Shared}{A:Around}{p q:α×β}{x y:V}{u v:Value}
theorem zk0 (I:Inv X pins σ H s)(h1:hasP X.K H p x)(h2:hasP X.K H q x):p=q:=by
 obtain ⟨a,x1,x2,rfl,q1,e1,e2⟩:=h1;obtain ⟨b,y1,y2,e,q2,f1,f2⟩:=h2;cases e
 have z:=I.tuple_inj (SqT.of q2) (SqT.of q1);cases z
 have g1:=Rep.inj I e1 f1;have g2:=Rep.inj I e2 f2;obtain ⟨p1,p2⟩:=p;obtain ⟨s1,s2⟩:=q;cases g1
 cases g2
 rfl
theorem znp (I:Inv X pins σ H s)(hu:A.units+(Rep.depth α+Rep.depth β+1) < cLine)(h1:hasP X.K H p x)(h2:hasP X.K H q y)(r1:RelV x u)(r2:RelV y v):RcAt A s u v (decide (p=q)):=by
 obtain ⟨a,x1,x2,rfl,q1,e1,e2⟩:=h1;obtain ⟨b,y1,y2,rfl,q2,f1,f2⟩:=h2;cases r1
 cases r2
 obtain ⟨us,ru,pu,_⟩:=I.tuple (SqT.of q1);obtain ⟨vs,rv,pv,_⟩:=I.tuple (SqT.of q2);obtain ⟨u1,u2,rfl,ru1,ru2⟩:=zhu ru;obtain ⟨v1,v2,rfl,rv1,rv2⟩:=zhu rv;have hin:∀ n,n≤Rep.depth α+Rep.depth β→A.in1.units+n < cLine:=fun n hn=>ya1 (ybl zbU _) (by omega);have c1:=Rep.eq (A:=A.in1) I (hin _ (by omega)) e1 f1 ru1 rv1;have c2:=Rep.eq (A:=A.in1) I (hin _ (by omega)) e2 f2 ru2 rv2;have:=RcAt.tuples (A:=A) (s:=s) (l:=a) (b:=b) (items:=#[u1,u2]) (items2:=#[v1,v2]) (e:=fun j=>if j=0 then (Rep.dec p.1 q.1).decide else (Rep.dec p.2 q.2).decide) pu pv (by omega) (by
  intro j h1 h2;have h1':j < 2:=h1;have z:j=0∨j=1:=by omega
  rcases z with rfl | rfl
  ·exact c1
  ·exact c2)
 have e:((List.range (min (#[u1,u2]:Array Value).size (#[v1,v2]:Array Value).size)).all (fun j=>if j=0 then (Rep.dec p.1 q.1).decide else (Rep.dec p.2 q.2).decide) && (#[u1,u2]:Array Value).size == (#[v1,v2]:Array Value).size)=decide (p=q):=by
  obtain ⟨p1,p2⟩:=p;obtain ⟨s1,s2⟩:=q;show (((List.range 2).all fun j=>if j=0 then (Rep.dec p1 s1).decide else (Rep.dec p2 s2).decide) && true)=_
  rw[show List.range 2=[0,1] from rfl];simp only[ybU,List.all_nil,yci,if_true];rw[if_neg (by decide)];by_cases z1:p1=s1
  ·by_cases z2:p2=s2
   ·subst z1 z2;simp
   ·subst z1;simp[z2]
  ·simp[z1]
 rw[e]at this;exact this
theorem zqJ (I:Inv X pins σ H s)(hu:A.units+(Rep.depth α+Rep.depth β+1) < cLine)(h1:hasP X.K H p x)(h2:hasP X.K H q y)(r1:RelV x u)(r2:RelV y v):RcNeAt A s u v (!decide (p=q)):=by
 obtain ⟨a,x1,x2,rfl,q1,e1,e2⟩:=h1;obtain ⟨b,y1,y2,rfl,q2,f1,f2⟩:=h2;cases r1
 cases r2
 obtain ⟨us,ru,pu,_⟩:=I.tuple (SqT.of q1);obtain ⟨vs,rv,pv,_⟩:=I.tuple (SqT.of q2);obtain ⟨u1,u2,rfl,ru1,ru2⟩:=zhu ru;obtain ⟨v1,v2,rfl,rv1,rv2⟩:=zhu rv;have hin:∀ n,n≤Rep.depth α+Rep.depth β→A.in1.units+n < cLine:=fun n hn=>ya1 (ybl zbU _) (by omega);have c1:=Rep.eq (A:=A.in1) I (hin _ (by omega)) e1 f1 ru1 rv1;have c2:=Rep.eq (A:=A.in1) I (hin _ (by omega)) e2 f2 ru2 rv2;have:=RcNeAt.tuples (A:=A) (s:=s) (l:=a) (b:=b) (items:=#[u1,u2]) (items2:=#[v1,v2]) (e:=fun j=>if j=0 then (Rep.dec p.1 q.1).decide else (Rep.dec p.2 q.2).decide) pu pv (by omega) (by
  intro j h1 h2;have h1':j < 2:=h1;have z:j=0∨j=1:=by omega
  rcases z with rfl | rfl
  ·exact c1
  ·exact c2)
 have e:((List.range (min (#[u1,u2]:Array Value).size (#[v1,v2]:Array Value).size)).all (fun j=>if j=0 then (Rep.dec p.1 q.1).decide else (Rep.dec p.2 q.2).decide) && (#[u1,u2]:Array Value).size == (#[v1,v2]:Array Value).size)=decide (p=q):=by
  obtain ⟨p1,p2⟩:=p;obtain ⟨s1,s2⟩:=q;show (((List.range 2).all fun j=>if j=0 then (Rep.dec p1 s1).decide else (Rep.dec p2 s2).decide) && true)=_
  rw[show List.range 2=[0,1] from rfl];simp only[ybU,List.all_nil,yci,if_true];rw[if_neg (by decide)];by_cases z1:p1=s1
  ·by_cases z2:p2=s2
   ·subst z1 z2;simp
   ·subst z1;simp[z2]
  ·simp[z1]
 rw[e]at this;exact this
theorem zqK (I:Inv X pins σ H s)(hu:A.units+(Rep.depth α+Rep.depth β+1) < cLine)(h1:hasP X.K H p x)(h2:hasP X.K H q y)(r1:RelV x u)(r2:RelV y v):EqAt A s u v (decide (p=q)):=by
 have rc:=znp (A:=A) I hu h1 h2 r1 r2;have h1':=id h1;have h2':=id h2;obtain ⟨a,x1,x2,rfl,q1,e1,e2⟩:=h1;obtain ⟨b,y1,y2,rfl,q2,f1,f2⟩:=h2;cases r1
 cases r2
 by_cases hab:a=b
 ·subst hab;rw[yag (zk0 I h1' h2')];exact EqAt.same _
 ·exact EqAt.of_refs hab rc
end
instance {α β:Type} [Rep α] [Rep β]:Rep (α×β) where
 dec:=inferInstance
 depth:=Rep.depth α+Rep.depth β+1
 has:=hasP
 mono:=fun e ⟨a,x,y,h1,h2,h3,h4⟩=>⟨a,x,y,h1,e _ _ h2 (fun _ z=>nomatch z),Rep.mono e h3,Rep.mono e h4⟩
 inj:=fun I h1 h2=>zk0 I h1 h2
 rc:=fun I hu h1 h2 r1 r2=>znp I hu h1 h2 r1 r2
 rn:=fun I hu h1 h2 r1 r2=>zqJ I hu h1 h2 r1 r2
 eq:=fun I hu h1 h2 r1 r2=>zqK I hu h1 h2 r1 r2
theorem huD {A:Around}{k:Nat}{α:Type}[Rep α](hr:Room k A)(h:Rep.depth α≤64:=by decide):A.units+Rep.depth α < cLine:=ya1 (ycu h _) hr.units
def rEqD (α:Type)[Rep α](K:Frag):R2:=fun x y H Q=>∃ a b:α,Rep.has K H a x∧Rep.has K H b y∧Q (.bl (decide (a=b))) H
def rNeD (α:Type)[Rep α](K:Frag):R2:=fun x y H Q=>∃ a b:α,Rep.has K H a x∧Rep.has K H b y∧Q (.bl (!decide (a=b))) H
section
variable {X:Cx}
theorem zrL (α:Type)[Rep α](hu:X.A.units+Rep.depth α < cLine):OpR X (compareOp .Eq) (rEqD α X.K):=by
 intro pins s σ H x y v u Q I rx ry h;obtain ⟨a,b,ha,hb,q⟩:=h;refine Rep.rc I hu ha hb rx ry X.prog X.w X.xe _ ⟨.bl _,H,I,rfl,?_⟩;have e:(Rep.dec a b).decide=decide (a=b):=rfl;rw[e];exact q
theorem zg6 (α:Type)[Rep α](hu:X.A.units+Rep.depth α < cLine):OpR X (compareOp .NotEq) (rNeD α X.K):=by
 intro pins s σ H x y v u Q I rx ry h;obtain ⟨a,b,ha,hb,q⟩:=h;refine Rep.rn I hu ha hb rx ry X.prog X.w X.xe _ ⟨.bl _,H,I,rfl,?_⟩;have e:(Rep.dec a b).decide=decide (a=b):=rfl;rw[e];exact q
end
end L2
namespace L2
open PySem PySem.Spec PyProof.Rows
section
variable {X:Cx}{pins:List (Addr×Obj)}{σ:St}{H:Hp}{s:Shared}{h':Heap}
theorem Inv.turnedNew {t':Nat}{fp:List Addr}{p:Addr}{o:HO}(I:Inv X pins σ H s)(k:∀ b ob,b∉fp→s.heap.get? b=some ob→h'.get? b=some ob)(hf:∀ b∈fp,FpOk X pins H b)
  (hp:s.heap.objs.size≤p) (new:zbp X.prog X.w (upd H p o) h' p o):Inv X pins σ (upd H p o) { s with heap:=h',toks:=t' }:=by
 have hn:H p=none:=I.hok.fresh hp;have nfp:∀ b u,H b=some u→b∉fp:=fun b u e z=>by rw[(hf b z).1]at e;cases e
 have nep:∀ b ob,s.heap.get? b=some ob→b≠p:=fun b ob e=>yan (yaw (yaf e) hp);refine I.step (g':=s.gens) (d':=s.drawn) (ch:=fp) (fun b hb=>?_) (fun b ob _ _ hc e _=>k b ob hc e) (fun b ob _ _ hc e _=>⟨ob.slots,k b ob hc e⟩) (fun b ob _ e n=>by rw[zag (nep b ob e)];exact n)
  (fun b ob hc e=>⟨ob,k b ob hc e⟩) (fun b xs e=>by rw[zag (zac e hn)];exact e) (fun b ob u e=>by rw[zag (zac e hn)];exact e) (fun b ps e=>⟨#[],by rw[zag (zac e hn),e];simp⟩) (fun m hm=>?_) (fun b u e=>?_) I.bare
 ·obtain ⟨_,h2,_,h4,h5,h6⟩:=hf b hb;exact ⟨h4,h2,h5,h6⟩
 ·obtain ⟨ob,es,ep,ho,r⟩:=hm;exact ⟨ob,es,ep,k _ ob (fun z=>(hf _ z).2.1 rfl) ho,r⟩
 ·by_cases hb:b=p
  ·subst hb;rw[zab]at e;cases e;exact new
  ·rw[zag hb]at e;refine (I.hok b u e).stay (fun c v hc q=>k c v ?_ q) (fun c q=>by rw[zag (zac q hn)];exact q) fun c xs q=>by rw[zag (zac q hn)];exact q
   rcases hc with z | z
   ·rw[z];exact nfp b u e
   ·exact nfp c _ z
theorem zma {P:Program}{w:World}{H:Hp}{h:Heap}{p:Addr}{x y:V}{u v:Value}(rx:RelV x u)(ry:RelV y v)(e:h.get? p=some { cls:=.type "tuple",data:=.seq #[u,v] }):zbp P w H h p (.tup [x,y]):=
 ⟨by show 2≤sizeLine;decide,[u,v],.cons rx (.cons ry .nil),_,e,rfl,0,rfl⟩
end
def Ite (K:Frag)(a:Addr):It:=
 ⟨fun i H=>∃ xs x,SqL K H a xs∧xs[i]?=some x,fun i H x H'=>∃ p y,x=.ref p∧H p=none∧(∀ xs,SqL K H a xs→xs[i]?=some y)∧H'=upd H p (.tup [.int i,y]),fun i H=>∃ xs,SqL K H a xs∧xs.length≤i⟩
theorem zl7 {P:Program}{w:World}{K:Frag}{es:List Expr}{k0}{pos:Pos}(a it e:Addr)(hne:e≠it):Turn P w K (.Tuple es k0 pos) (Ite K a) [e,it] e (fun i h=>(∃ old,IsEnum h e it i old)∧h.IsListIter it a i) where
 mem:=by simp
 obj:=fun i h st b hb=>by
  obtain ⟨⟨old,he⟩,o,ho,c,d⟩:=st;rcases yam.mp hb with z | z
  ·subst z;exact ⟨_,he,fun v z=>by cases z⟩
  ·have z:=yal.mp z;subst z;exact ⟨o,ho,fun v z=>by rw[d]at z;cases z⟩
 keep:=fun i h h' st k=>by
  obtain ⟨⟨old,he⟩,hi⟩:=st;exact ⟨⟨old,k e (by simp) _ he⟩,hi.at fun o q=>k it (by simp) o q⟩
 item:=by
  intro X hP hw hK hc i pins s σ H E I hf st hg;subst hP hw hK;obtain ⟨⟨old,he⟩,hi⟩:=st;obtain ⟨xs,x,hq,hx⟩:=hg;obtain ⟨its,rv,p,hz⟩:=I.list hq;obtain ⟨u,hu,ru⟩:=rv.get hx;refine wpAny_pyNext_enum_item he hi p.isList (x:=u) (by simpa using hu) hne fun h1 he1 hi1 ht1 _ k1=>?_;refine ⟨_,rfl,wpAny_letOwnedTupleGo_enum (s:={ s with heap:=h1,toks:=s.toks+1 }) he1 fun h2 he2 sb=>?_⟩;have np:s.heap.objs.size≠e:=ybo (yaf he);have ht2:h2.get? s.heap.objs.size=some { cls:=.type "tuple",data:=.seq #[.int i s.toks,u] }:=(sb.2 _ np).trans ht1;have I2:Inv X pins σ (upd H s.heap.objs.size (.tup [.int i,x])) { s with heap:=h2,toks:=s.toks+1 }:=
   I.turnedNew (fp:=[e,it]) (fun b ob hb q=>(sb.2 b (fun z=>hb (by simp[z]))).trans (k1 b ob (fun z=>hb (by simp[z])) (fun z=>hb (by simp[z])) q)) hf (yaa _) (zma ⟨_,rfl⟩ ru ht2)
  refine ⟨.ref s.heap.objs.size,_,I2,rfl,⟨_,x,rfl,I.hok.fresh (yaa _),fun ys hy=>by rw[I.list_inj hy hq];exact hx,rfl⟩,⟨⟨u,?_⟩,?_⟩,fun b hb=>?_⟩
  ·have z:IsEnum h2 e it ((i:Int)+1) u:=he2;exact z
  ·exact hi1.at fun o q=>(sb.2 it (Ne.symm hne)).trans q
  ·have z:=(hf b hb).1;rw[zag ?_]
   ·exact z
   ·rcases yam.mp hb with q | q
    ·rw[q];exact Ne.symm np
    ·rw[yal.mp q];obtain ⟨o,ho,_⟩:=hi;exact yan (yaf ho)
 done:=by
  intro X hP hw hK hc i pins s σ H E I hf st hg;subst hP hw hK;obtain ⟨⟨old,he⟩,hi⟩:=st;obtain ⟨xs,hq,hx⟩:=hg;obtain ⟨its,rv,p,hz⟩:=I.list hq;obtain ⟨f0,f1,f2,f3,f4,f5⟩:=hf it (by simp);have hl:=rv.length;exact wpAny_pyNext_enum_end (I.ok.hd hc) he hi p.isList (by simp;omega) fun h' eb=>⟨rfl,I.turned (t':=s.toks) (fun b o hb q=>eb b o hb q) f0 f1 f3 f4 f5⟩
 self:=fun _ _ _ _ _ st h=>by
  obtain ⟨⟨old,he⟩,_⟩:=st;exact wpAny_pyIter_enum he h
def zsP (K:Frag)(ta:TA):TI:=fun σ H R=>ta σ H fun vs H1=>∃ a,vs=[.ref a]∧(∃ xs,SqL K H1 a xs)∧R (Ite K a) H1
section
variable {X:Cx}
theorem ziJ {es:List Expr}{k0}{tp:Pos}{a:Expr}{ta:TA}{p pos:Pos}(hg:Gl X "enumerate")(hm:X.mg "enumerate" = none)(ha:PA X [a] ta)(hs:starEach [a] X.env=[(false,eval a X.env)]:=by rfl):PI X (.Tuple es k0 tp) (.Call (.Name "enumerate" p) [a] [] pos) (zsP X.K ta):=by
 intro pins s σ H R I h;refine Call_ (ze1 I hg hm boot_enumerate (PyProof.Rows.callWith_type1 (thn (ha pos pins s σ H _ I h) fun us s1 zq0=>?_) hs rfl));obtain ⟨vs,H1,I1,r1,q1⟩:=zq0;obtain ⟨l,e,⟨xs,hq⟩,q⟩:=q1;subst e;cases r1 with
 | cons r rr=>
  cases rr
  cases r
  obtain ⟨its,rv,pl,hz⟩:=I1.list hq;refine call_enumerate_list pl.isList fun h' he hi _ hk=>?_;have I2:Inv X pins σ H1 { s1 with heap:=h' }:=I1.kept (t':=s1.toks) hk;refine wpAny_pyIter_enum (s:={ s1 with heap:=h' }) he ⟨_,[s1.heap.objs.size+1,s1.heap.objs.size],_,_,H1,rfl,I2,zl7 l s1.heap.objs.size (s1.heap.objs.size+1) (Nat.succ_ne_self _),⟨⟨_,he⟩,hi⟩,fun b hb=>?_,q⟩;have hb':s1.heap.objs.size≤b:=by
   rcases yam.mp hb with z | z
   ·rw[z];exact yaV _
   ·rw[yal.mp z];exact yaa _
  exact I1.fpOk hb' (I1.hok.fresh hb')
end
theorem zo3 {K:Frag}{a:Addr}{xs:List V}{g:TG}{tb:TS}{D:Ends}{σ:St}{H:Hp}(Pv:Nat→St→Hp→Prop)(h0:Pv 0 σ H)(hl:∀ i σ H,i≤xs.length→Pv i σ H→SqL K H a xs)
  (hs:∀ i x σ H p,xs[i]?=some x→Pv i σ H→H p=none→g (.ref p) σ (upd H p (.tup [.int i,x])) fun σ2 H2=>tb { D with nx:=Pv (i+1),ct:=Pv (i+1),bk:=D.nx } σ2 H2) (hd:∀ σ H,Pv xs.length σ H→D.nx σ H) :
  ∃ W:Nat→Nat→St→Hp→Prop,(∃ m,W 0 m σ H)∧∀ i m σ H,W i m σ H→((Ite K a).stop i H∧D.nx σ H)∨((Ite K a).go i H∧∃ N:St→Hp→Prop,(∀ σ' H',N σ' H'→∃ m',m' < m∧W (i+1) m' σ' H')∧∀ x H',(Ite K a).yld i H x H'→g x σ H' fun σ2 H2=>tb { D with nx:=N,ct:=N,bk:=D.nx } σ2 H2):=by
 refine ⟨fun i m σ H=>i+m=xs.length∧Pv i σ H,⟨xs.length,by omega,h0⟩,fun i m σ H zq0=>?_⟩;obtain ⟨e,pv⟩:=zq0;have hS:=hl i σ H (by omega) pv;by_cases hi:i < xs.length
 ·refine .inr ⟨⟨xs,xs[i],hS,yac hi⟩,Pv (i+1),fun σ' H' q=>⟨m - 1,by omega,by omega,q⟩,fun x H' y=>?_⟩;obtain ⟨p,z,rfl,hp,hz,rfl⟩:=y;exact hs i z σ H p (hz xs hS) pv hp
 ·have:i=xs.length:=by omega
  subst this;exact .inl ⟨⟨xs,hS,yaa _⟩,hd σ H pv⟩
def Itz (K:Frag)(a b:Addr):It:=
 ⟨fun i H=>∃ xs ys x y,SqL K H a xs∧SqL K H b ys∧xs[i]?=some x∧ys[i]?=some y,fun i H x H'=>∃ p y z,x=.ref p∧H p=none∧(∀ xs,SqL K H a xs→xs[i]?=some y)∧(∀ xs,SqL K H b xs→xs[i]?=some z)∧H'=upd H p (.tup [y,z]),fun i H=>∃ xs ys,SqL K H a xs∧SqL K H b ys∧(xs.length≤i∨ys.length≤i)⟩
theorem zn0 {P:Program}{w:World}{K:Frag}{es:List Expr}{k0}{pos:Pos}{a b z TI TO i1 i2:Addr}(D:ZipApart z TI TO i1 i2 a b):Turn P w K (.Tuple es k0 pos) (Itz K a b) [z,TI,TO,i1,i2] z
  (fun i h=>IsZip h z TI TO .none∧IsPair h TI (.ref i1) (.ref i2)∧(∃ u v,IsPair h TO u v)∧h.IsListIter i1 a i∧h.IsListIter i2 b i) where
 mem:=by simp
 obj:=fun i h st c hc=>by
  obtain ⟨hz,hTI,⟨u,v,hTO⟩,⟨o1,e1,_,d1⟩,⟨o2,e2,_,d2⟩⟩:=st;simp only[yam,ybm,or_false]at hc;rcases hc with rfl | rfl | rfl | rfl | rfl
  ·exact ⟨_,hz,fun v q=>by cases q⟩
  ·exact ⟨_,hTI,fun v q=>by cases q⟩
  ·exact ⟨_,hTO,fun v q=>by cases q⟩
  ·exact ⟨o1,e1,fun v q=>by rw[d1]at q;cases q⟩
  ·exact ⟨o2,e2,fun v q=>by rw[d2]at q;cases q⟩
 keep:=fun i h h' st k=>by
  obtain ⟨hz,hTI,⟨u,v,hTO⟩,h1,h2⟩:=st;exact ⟨k z (by simp) _ hz,k TI (by simp) _ hTI,⟨u,v,k TO (by simp) _ hTO⟩,h1.at fun o q=>k i1 (by simp) o q,h2.at fun o q=>k i2 (by simp) o q⟩
 item:=by
  intro X hP hw hK hc i pins s σ H E I hf st hg;subst hP hw hK;obtain ⟨hz,hTI,⟨u0,v0,hTO⟩,h1,h2⟩:=st;obtain ⟨xs,ys,x,y,hqa,hqb,hx,hy⟩:=hg;obtain ⟨its,rv,p,_⟩:=I.list hqa;obtain ⟨jts,rw',p',_⟩:=I.list hqb;obtain ⟨u,hu,ru⟩:=rv.get hx;obtain ⟨v,hv,rv'⟩:=rw'.get hy;refine wpAny_pyNext_zip_item D hz hTI hTO h1 h2 p.isList p'.isList (x:=u) (y:=v) (by simpa using hu) (by simpa using hv) fun h1' hz1 hTO1 hi1 hi2 ht1 _ k1=>?_;refine ⟨_,rfl,wpAny_letOwnedTupleGo_zip (s:={ s with heap:=h1' }) hz1 fun h2' hz2 sb=>?_⟩;have np:s.heap.objs.size≠z:=ybo (yaf hz);have ht2:h2'.get? s.heap.objs.size=some { cls:=.type "tuple",data:=.seq #[u,v] }:=(sb.2 _ np).trans ht1;have I2:Inv X pins σ (upd H s.heap.objs.size (.tup [x,y])) { s with heap:=h2',toks:=s.toks }:=
   I.turnedNew (fp:=[z,TI,TO,i1,i2]) (fun c ob hb q=>(sb.2 c (fun r=>hb (by simp[r]))).trans (k1 c ob (fun r=>hb (by simp[r])) (fun r=>hb (by simp[r])) (fun r=>hb (by simp[r])) (fun r=>hb (by simp[r])) q)) hf (yaa _) (zma ru rv' ht2)
  refine ⟨.ref s.heap.objs.size,_,I2,rfl,⟨_,x,y,rfl,I.hok.fresh (yaa _),fun ys hy'=>by rw[I.list_inj hy' hqa];exact hx,fun ys hy'=>by rw[I.list_inj hy' hqb];exact hy,rfl⟩,⟨hz2,(sb.2 _ D.TIz).trans (k1 TI _ D.TIz D.TITO D.TIi1 D.TIi2 hTI),⟨_,_,(sb.2 _ D.TOz).trans hTO1⟩,hi1.at fun o q=>(sb.2 i1 D.i1z).trans q,hi2.at fun o q=>(sb.2 i2 D.i2z).trans q⟩,fun c hb=>?_⟩;have zf:=(hf c hb).1;have lt:c < s.heap.objs.size:=by
   simp only[yam,ybm,or_false]at hb;obtain ⟨o1,e1,_⟩:=h1;obtain ⟨o2,e2,_⟩:=h2;rcases hb with rfl | rfl | rfl | rfl | rfl
   ·exact yaf hz
   ·exact yaf hTI
   ·exact yaf hTO
   ·exact yaf e1
   ·exact yaf e2
  rw[zag (yan lt)];exact zf
 done:=by
  intro X hP hw hK hc i pins s σ H E I hf st hg;subst hP hw hK;obtain ⟨hz,hTI,⟨u0,v0,hTO⟩,h1,h2⟩:=st;obtain ⟨xs,ys,hqa,hqb,hend⟩:=hg;obtain ⟨its,rv,p,_⟩:=I.list hqa;obtain ⟨jts,rw',p',_⟩:=I.list hqb;have l1:=rv.length;have l2:=rw'.length;refine wpAny_pyNext_zip_end (I.ok.hd hc) D hz hTI hTO h1 h2 p.isList p'.isList (by
   rcases hend with q | q
   ·left;simp;omega
   ·right;simp;omega) fun h' kk=>⟨rfl,?_⟩
  refine I.step (g':=s.gens) (d':=s.drawn) (t':=s.toks) (ch:=[z,TI,TO,i1,i2]) (fun c hb=>?_) (fun c ob _ _ hn q _=>kk c ob (fun r=>hn (by simp[r])) (fun r=>hn (by simp[r])) (fun r=>hn (by simp[r])) (fun r=>hn (by simp[r])) q)
   (fun c ob _ _ hn q _=>⟨ob.slots,kk c ob (fun r=>hn (by simp[r])) (fun r=>hn (by simp[r])) (fun r=>hn (by simp[r])) (fun r=>hn (by simp[r])) q⟩) (fun _ _ _ _ n=>n)
   (fun c ob hn q=>⟨ob,kk c ob (fun r=>hn (by simp[r])) (fun r=>hn (by simp[r])) (fun r=>hn (by simp[r])) (fun r=>hn (by simp[r])) q⟩) (fun _ _ q=>q) (fun _ _ _ q=>q) (fun c ps q=>⟨#[],by rw[q];simp⟩) (fun m hm=>?_) (fun c u e=>?_) I.bare
  ·obtain ⟨_,q2,_,q4,q5,q6⟩:=hf c hb;exact ⟨q4,q2,q5,q6⟩
  ·obtain ⟨ob,es,ep,ho,r⟩:=hm;have nL:∀ c∈[z,TI,TO,i1,i2],X.env.locals≠c:=fun c hc=>Ne.symm (hf c hc).2.1;exact ⟨ob,es,ep,kk _ ob (nL z (by simp)) (nL TO (by simp)) (nL i1 (by simp)) (nL i2 (by simp)) ho,r⟩
  ·have nf:∀ c' u,H c'=some u→∀ q∈[z,TI,TO,i1,i2],c'≠q:=fun c' u e q hq r=>by rw[r,(hf q hq).1]at e;cases e
   refine (I.hok c u e).stay (fun c' v hc' q=>?_) (fun _ q=>q) fun _ _ q=>q;have go:∀ u',H c'=some u'→h'.get? c'=some v:=fun u' e'=>kk c' v (nf c' _ e' z (by simp)) (nf c' _ e' TO (by simp)) (nf c' _ e' i1 (by simp)) (nf c' _ e' i2 (by simp)) q;rcases hc' with r | r
   ·exact go u (by rw[r];exact e)
   ·exact go _ r
 self:=fun _ _ _ _ _ st h=>wpAny_pyIter_zip st.1 h
theorem zlU {l l' n:Nat}(hl:l < n)(hl':l' < n):ZipApart (n+4) (n+2) (n+3) n (n+1) l l':=by
 constructor <;> (intro z;have z':(_:Nat)=_:=z;omega)
theorem zrf {n c:Nat}(h:c∈[n+4,n+2,n+3,n,n+1]):n≤c:=by
 simp only[yam,ybm,or_false]at h;omega
def iZip (K:Frag)(ta:TA):TI:=fun σ H R=>ta σ H fun vs H1=>∃ a b,vs=[.ref a,.ref b]∧(∃ xs,SqL K H1 a xs)∧(∃ xs,SqL K H1 b xs)∧R (Itz K a b) H1
section
variable {X:Cx}
theorem zpB {es:List Expr}{k0}{tp:Pos}{a b:Expr}{ta:TA}{p pos:Pos}(hg:Gl X "zip")(hm:X.mg "zip" = none)(ha:PA X [a,b] ta)(hs:starEach [a,b] X.env=[(false,eval a X.env),(false,eval b X.env)]:=by rfl)(hs2:starEach [b] X.env=[(false,eval b X.env)]:=by rfl):PI X (.Tuple es k0 tp) (.Call (.Name "zip" p) [a,b] [] pos) (iZip X.K ta):=by
 intro pins s σ H R I h;refine Call_ (ze1 I hg hm boot_zip (PyProof.Rows.callWith_type1 (thn (ha pos pins s σ H _ I h) fun us s1 zq0=>?_) (by rw[hs,hs2]) (by rw[hs2];rfl)));obtain ⟨vs,H1,I1,r1,q1⟩:=zq0;obtain ⟨l,l',e,⟨xs,hq⟩,⟨ys,hq'⟩,q⟩:=q1;subst e;cases r1 with
 | cons r rr=>
  cases rr with
  | cons r' rr=>
   cases rr
   cases r
   cases r'
   obtain ⟨its,rv,pl,hz⟩:=I1.list hq;obtain ⟨jts,rv',pl',hz'⟩:=I1.list hq';have hl:l < s1.heap.objs.size:=by obtain ⟨o,_,e,_⟩:=pl;exact yaf e
   have hl':l' < s1.heap.objs.size:=by obtain ⟨o,_,e,_⟩:=pl';exact yaf e
   refine call_zip_2 pl.isList pl'.isList fun h' hz hTI hTO hi hi' _ hk=>?_;have I2:Inv X pins σ H1 { s1 with heap:=h' }:=I1.kept (t':=s1.toks) hk;refine wpAny_pyIter_zip (s:={ s1 with heap:=h' }) hz ⟨_,[s1.heap.objs.size+4,s1.heap.objs.size+2,s1.heap.objs.size+3,s1.heap.objs.size,s1.heap.objs.size+1],_,_,H1,rfl,I2,zn0 (zlU hl hl'),⟨hz,hTI,⟨_,_,hTO⟩,hi,hi'⟩,fun c hb=>?_,q⟩;have hb':s1.heap.objs.size≤c:=zrf hb;exact I1.fpOk hb' (I1.hok.fresh hb')
end
theorem zqQ {K:Frag}{a b:Addr}{xs ys:List V}{g:TG}{tb:TS}{D:Ends}{σ:St}{H:Hp}(hlen:xs.length=ys.length)(Pv:Nat→St→Hp→Prop)(h0:Pv 0 σ H)(hl:∀ i σ H,i≤xs.length→Pv i σ H→SqL K H a xs∧SqL K H b ys)
  (hs:∀ i x y σ H p,xs[i]?=some x→ys[i]?=some y→Pv i σ H→H p=none→g (.ref p) σ (upd H p (.tup [x,y])) fun σ2 H2=>tb { D with nx:=Pv (i+1),ct:=Pv (i+1),bk:=D.nx } σ2 H2) (hd:∀ σ H,Pv xs.length σ H→D.nx σ H) :
  ∃ W:Nat→Nat→St→Hp→Prop,(∃ m,W 0 m σ H)∧∀ i m σ H,W i m σ H→((Itz K a b).stop i H∧D.nx σ H)∨((Itz K a b).go i H∧∃ N:St→Hp→Prop,(∀ σ' H',N σ' H'→∃ m',m' < m∧W (i+1) m' σ' H')∧∀ x H',(Itz K a b).yld i H x H'→g x σ H' fun σ2 H2=>tb { D with nx:=N,ct:=N,bk:=D.nx } σ2 H2):=by
 refine ⟨fun i m σ H=>i+m=xs.length∧Pv i σ H,⟨xs.length,by omega,h0⟩,fun i m σ H zq0=>?_⟩;obtain ⟨e,pv⟩:=zq0;obtain ⟨hS,hS'⟩:=hl i σ H (by omega) pv;by_cases hi:i < xs.length
 ·refine .inr ⟨⟨xs,ys,xs[i],ys[i]'(by omega),hS,hS',yac hi,yac (by omega)⟩,Pv (i+1),fun σ' H' q=>⟨m - 1,by omega,by omega,q⟩,fun x H' y=>?_⟩;obtain ⟨p,z,z',rfl,hp,hz,hz',rfl⟩:=y;exact hs i z z' σ H p (hz xs hS) (hz' ys hS') pv hp
 ·have:i=xs.length:=by omega
  subst this;exact .inl ⟨⟨xs,ys,hS,hS',.inl (yaa _)⟩,hd σ H pv⟩
end L2
namespace L2
open PySem PySem.Spec PyProof.Rows
def zbW (X:Cx)(N:List Str)(scope:Scope)(cl:List (Str×Addr))(C:Addr)(s₂:Shared)(H₂:Hp)(fp:List Addr):Cx:=
 { X with N:=N,s₀:=s₂,H₀:=H₂,env:=compEnvC scope cl C X.env,outer:=X.stack,stack:=X.stack,ex:=fp,fn:=fun _=>false,xe:=fun _ _=>False }
structure zgP (scope:Scope)(env:Env)(cl:List (Str×Addr)):Prop where
 eq:closureFor scope env=pure cl
 sub:∀ x c,cl.lookup x=some c→env.cells.lookup x=some c
 has:∀ x,(x,NameKind.free)∈scope.names→∃ c,cl.lookup x=some c
theorem zgE {env:Env}:∀(names:List (Str×NameKind)) (cs:List (Str×Addr)),(∀ x,(x,NameKind.free)∈names→∃ c,env.cells.lookup x=some c)→(∀ x c,cs.lookup x=some c→env.cells.lookup x=some c)→
  ∃ cl:List (Str×Addr),(forIn names cs (fun (x:Str×NameKind) (r:List (Str×Addr))=>if (x.2 == NameKind.free)=true then (do let c ← cellOf env x.1;pure (ForInStep.yield ((x.1,c)::r))) else pure (ForInStep.yield r)):Sem (List (Str×Addr)))=pure cl∧
   (∀ x c,cl.lookup x=some c→env.cells.lookup x=some c)∧(∀ x c,cs.lookup x=some c→∃ c',cl.lookup x=some c')∧∀ x,(x,NameKind.free)∈names→∃ c,cl.lookup x=some c
 | [],cs,_,h2=>⟨cs,by rw[List.forIn_nil],h2,fun x c e=>⟨c,e⟩,fun _ z=>nomatch z⟩
 | (n,k)::r,cs,h1,h2=>by
  by_cases hk:k=.free
  ·subst hk;obtain ⟨c,hc⟩:=h1 n yaD;have hn:∀ x c',((n,c)::cs).lookup x=some c'→env.cells.lookup x=some c':=fun x c' e=>by
    rw[yaK]at e;cases hx:x == n with
    | true=>
     rw[hx]at e;cases e
     rw[eq_of_beq hx];exact hc
    | false=>
     rw[hx]at e;exact h2 x c' e
   obtain ⟨cl,e,s1,s2,s3⟩:=zgE r ((n,c)::cs) (fun x hx=>h1 x (yaF _ hx)) hn;have here:∃ c',cl.lookup n=some c':=s2 n c (by rw[yaK,beq_self_eq_true]);refine ⟨cl,?_,s1,fun x c' q=>?_,fun x hx=>?_⟩
   ·rw[List.forIn_cons,if_pos (by rfl)];have q:cellOf env n=pure c:=by unfold cellOf;rw[hc]
    rw[q];simp only[pure_bind];exact e
   ·cases hxn:x == n with
    | true=>rw[eq_of_beq hxn];exact here
    | false=>exact s2 x c' (by rw[yaK,hxn];exact q)
   ·rcases yam.mp hx with z | z
    ·cases z;exact here
    ·exact s3 x z
  ·obtain ⟨cl,e,s1,s2,s3⟩:=zgE r cs (fun x hx=>h1 x (yaF _ hx)) h2;refine ⟨cl,?_,s1,s2,fun x hx=>?_⟩
   ·have hb:(k == NameKind.free)=false:=by simpa using hk
    rw[List.forIn_cons,if_neg (by rw[hb];exact yaA)];simp only[pure_bind];exact e
   ·rcases yam.mp hx with z | z
    ·cases z;exact absurd rfl hk
    ·exact s3 x z
theorem zfb {scope:Scope}{env:Env}(h:∀ x,(x,NameKind.free)∈scope.names→∃ c,env.cells.lookup x=some c):∃ cl,zgP scope env cl:=by
 obtain ⟨cl,e,s1,_,s3⟩:=zgE scope.names [] h (fun _ _ z=>nomatch z);refine ⟨cl,?_,s1,s3⟩;unfold closureFor;exact (by simpa using e)
theorem zbF {env:Env}:∀{names:List (Str×NameKind)} {x:Str},names.lookup x=some .free→
  (names.map fun (n,k)=>if (k == NameKind.free && env.scope.kind == .function && env.kindOf n == some .cell) then (n,NameKind.cell) else (n,k)).lookup x=some .cell∨
  (names.map fun (n,k)=>if (k == NameKind.free && env.scope.kind == .function && env.kindOf n == some .cell) then (n,NameKind.cell) else (n,k)).lookup x=some .free
 | [],_,h=>by simp at h
 | (n,k)::r,x,h=>by
  have ih:=@zbF env r x;show List.lookup x ((if (k == NameKind.free && env.scope.kind == .function && env.kindOf n == some .cell)=true then (n,NameKind.cell) else (n,k))::_)=_∨List.lookup x ((if (k == NameKind.free && env.scope.kind == .function && env.kindOf n == some .cell)=true then (n,NameKind.cell) else (n,k))::_)=_
  cases hx:x == n with
  | true=>
   simp only[yaK,hx]at h;cases h
   by_cases hc:(NameKind.free == NameKind.free && env.scope.kind == .function && env.kindOf n == some .cell)=true
   ·rw[if_pos hc];left;simp only[yaK,hx]
   ·rw[if_neg hc];right;simp only[yaK,hx]
  | false=>
   simp only[yaK,hx]at h;by_cases hc:(k == NameKind.free && env.scope.kind == .function && env.kindOf n == some .cell)=true
   ·rw[if_pos hc];simp only[yaK,hx];exact ih h
   ·rw[if_neg hc];simp only[yaK,hx];exact ih h
theorem zem {env:Env}:∀{names:List (Str×NameKind)} {x:Str} {k':NameKind},(names.map fun (n,k)=>if (k == NameKind.free && env.scope.kind == .function && env.kindOf n == some .cell) then (n,NameKind.cell) else (n,k)).lookup x=some k'→k'=.cell∨k'=.free→
  (∀ y∈names,y.2≠.cell)→(x,NameKind.free)∈names
 | [],_,_,h,_,_=>by simp at h
 | (n,k)::r,x,k',h,hk,hc=>by
  have ih:=@zem env r x k';have h':List.lookup x ((if (k == NameKind.free && env.scope.kind == .function && env.kindOf n == some .cell)=true then (n,NameKind.cell) else (n,k))::r.map fun (n,k)=>if (k == NameKind.free && env.scope.kind == .function && env.kindOf n == some .cell) then (n,NameKind.cell) else (n,k))=some k':=h
  cases hx:x == n with
  | true=>
   have e:=eq_of_beq hx;subst e;by_cases hf:k=.free
   ·subst hf;exact yaD
   ·have hb:(k == NameKind.free)=false:=by simpa using hf
    rw[if_neg (by rw[hb];simp),yaK,hx]at h';cases h'
    rcases hk with z | z
    ·exact absurd z (hc (x,k) yaD)
    ·exact absurd z hf
  | false=>
   refine yaF _ (ih ?_ hk fun y hy=>hc y (yaF _ hy));by_cases hcd:(k == NameKind.free && env.scope.kind == .function && env.kindOf n == some .cell)=true
   ·rw[if_pos hcd,yaK,hx]at h';exact h'
   ·rw[if_neg hcd,yaK,hx]at h';exact h'
def zcB (own:Nat)(cap:List Nat)(σ:St):St:=List.replicate own none++cap.map fun i=>(σ[i]?).getD none
structure zla (X:Cx)(scope:Scope)(N:List Str)(own:Nat)(cap:List Nat):Prop where
 kind:scope.kind=.function
 nocell:(scope.names.all fun y=>y.2 != .cell)=true
 locs:(scope.names.all fun y=>y.2 != .local || scope.names.lookup y.1 == some .local)=true
 frees:(scope.names.all fun y=>y.2 != .free || (X.env.kindOf y.1 == some .cell || X.env.kindOf y.1 == some .free))=true
 len:N.length=own+cap.length
 caps:((List.range cap.length).all fun j=>(N[own+j]? == X.N[cap[j]!]?) && (match N[own+j]? with | some x=>scope.names.lookup x == some .free && (X.env.kindOf x == some .cell || X.env.kindOf x == some .free) | none=>false))=true
section
variable {prog:Program}{w:World}{A:Around}{R:Result→Shared→Prop}{s:Shared}
theorem zgC {elt target iter:Expr}{ifs:List Expr}{scope:Scope}{pos:Pos}{it acc:Value}{env:Env}(I:Nat→Shared→Prop)
  (turn:∀ n s,I n s→wpAny (model prog w) A (pyNext it) (fun r s₁=>match r with
   | none=>R (.ok .next) s₁
   | some v=>wpAny (model prog w) A (letOwnedTupleGo target it v) (fun _ s₁'=>wpAny (model prog w) A (assign target env v) (fun _ s₂=>
     wpAny (model prog w) A (forIn ifs true fun c r=>if r=true then do let ok ← isTrue c env (eval c env);pure (ForInStep.yield ok) else pure (ForInStep.yield r)) (fun ok s₃=>
      if ok=true then wpAny (model prog w) A (eval elt env) (fun x s₄=>
       wpAny (model prog w) A (call (.builtin "list.append") [acc,x]) (fun _ s₅=>∃ m,m < n∧I m s₅) (fun _ _=>False) s₄) (fun _ _=>False) s₃
      else ∃ m,m < n∧I m s₃) (fun _ _=>False) s₂) (fun _ _=>False) s₁') (fun _ _=>False) s₁) (fun _ _=>False) s)
  (n:Nat) (h:I n s) :
  codeAny (model prog w) A (.compLoop (.ListComp elt [⟨target,iter,ifs,0⟩] scope pos) 0 it acc env) R s:=by
 refine codeAny_loop rfl I (fun n s hI=>?_) n h;show wpAny _ A ((compTurn (.ListComp elt [⟨target,iter,ifs,0⟩] scope pos) 0 it acc env).onRaise (fun x=>do noteFrame x env;theTreesLotGoes x)) _ _ s
 refine wpAny_noted ?_;rw[compTurn_list];refine wpAny_bind (wpAny_standAt (wpAny_bind (wpAny_mono (turn n s hI) (fun r s₁ h₁=>?_) fun _ _ h'=>h'.elim)));cases r with
 | none=>exact wpAny_pure h₁
 | some v=>
  refine wpAny_bind (wpAny_mono h₁ (fun _ s₁' h₁'=>?_) fun _ _ h'=>h'.elim);refine wpAny_bind (wpAny_mono h₁' (fun _ s₂ h₂=>wpAny_bind (wpAny_mono h₂ (fun ok s₃ h₃=>?_) fun _ _ h'=>h'.elim)) fun _ _ h'=>h'.elim);cases ok with
  | true=>
   simp only[if_true]at h₃ ⊢;exact wpAny_bind (wpAny_bind (wpAny_mono h₃ (fun x s₄ h₄=>wpAny_bind (wpAny_mono h₄ (fun _ s₅ h₅=>wpAny_pure (wpAny_pure ⟨rfl,h₅⟩)) fun _ _ h'=>h'.elim)) fun _ _ h'=>h'.elim))
  | false=>
   simp only[yaX,if_false]at h₃ ⊢;exact wpAny_pure ⟨rfl,h₃⟩
end
section
variable {X:Cx}
def PTs (X:Cx)(ifs:List Expr)(t:TT):Prop:=
 ∀(pins:List (Addr×Obj)) (s:Shared) (σ:St) (H:Hp) (Q:Bool→Hp→Prop),Inv X pins σ H s→t σ H Q→
  wpAny (model X.prog X.w) X.A (forIn ifs true fun c r=>if r=true then do let ok ← isTrue c X.env (eval c X.env);pure (ForInStep.yield ok) else pure (ForInStep.yield r)) (TP X pins σ Q) X.xe s
def tYes:TT:=fun _ H Q=>Q true H
theorem zcD:PTs X [] tYes:=fun _ _ _ H _ I h=>wpAny_tests_nil ⟨H,I,h⟩
theorem zcC {c:Expr}{t:TT}(h:PT X c t):PTs X [c] t:=fun pins s σ H Q I q=>wpAny_tests_one (h pins s σ H Q I q)
theorem zoV {pins:List (Addr×Obj)}{σ:St}{H:Hp}{s:Shared}{N:List Str}{own:Nat}{cap:List Nat}{scope:Scope}{cl:List (Str×Addr)}{C:Addr}{fp:List Addr}{h₁:Heap}{tk:Nat}{D:Addr}
  (I:Inv X pins σ H s) (c:zla X scope N own cap) (hcl:zgP scope X.env cl) (f:∀ b∈fp,FpOk X pins H b) (hD:s.heap.objs.size≤D) (hC:s.heap.objs.size≤C) (hCD:D≠C)
  (kp:∀ b o,s.heap.get? b=some o→h₁.get? b=some o) (hnew:h₁.get? D=some { cls:=.type "list",data:=.seq #[] }) (hns:∃ m,h₁.Ns C m) (hfp:∀ b∈fp,b < s.heap.objs.size) (hcalm:X.calm=true) :
  Inv (zbW X N scope cl C s H fp) pins (zcB own cap σ) (upd H D (.lst [])) { s with heap:=h₁,toks:=tk }:=by
 have hfr:H D=none:=I.hok.fresh hD;have hfrC:H C=none:=I.hok.fresh hC;have sz:∀ b o,s.heap.get? b=some o→b≠D∧b≠C:=fun b o e=>⟨yan (yaw (yaf e) hD),yan (yaw (yaf e) hC)⟩;have cells:∀ x cc,cl.lookup x=some cc→∃ v,s.heap.IsCell cc v:=fun x cc e=>I.cell x cc (hcl.sub x cc e);have cellne:∀ x cc,cl.lookup x=some cc→cc≠D∧cc≠C:=fun x cc e=>by
  obtain ⟨v,o,ho,_⟩:=cells x cc e;exact sz cc o ho
 have ok:(zbW X N scope cl C s H fp).Ok:=by
  refine ⟨I.ok.mod,c.kind,I.ok.glob,I.ok.blt,hC,fun x y cc e1 e2=>I.ok.inj x y cc (hcl.sub x cc e1) (hcl.sub y cc e2),fun x hx=>?_,(fun x cc z _=>nomatch z),I.ok.hd,I.ok.frames,.inl rfl,fun b hb=>?_,fun b o e=>I.bs b o e,?_,fun b o e hb=>?_,fun b hb z=>?_,I.stack,fun b hb=>I.stkFree b hb⟩
  ·have hm:(x,NameKind.free)∈scope.names:=by
    rcases hx with z | z
    ·exact zem (env:=X.env) (names:=scope.names) (x:=x) (k':=.cell) z (.inl rfl) fun y hy q=>by
      have:=yaU.mp c.nocell y hy;rw[q]at this;exact absurd this (by decide)
    ·exact zem (env:=X.env) (names:=scope.names) (x:=x) (k':=.free) z (.inr rfl) fun y hy q=>by
      have:=yaU.mp c.nocell y hy;rw[q]at this;exact absurd this (by decide)
   exact hcl.has x hm
  ·exact ⟨yan (yaw (hfp b hb) hC),fun x cc e z=>(f b hb).2.2.2.2.1 x cc (hcl.sub x cc e) z⟩
  ·exact yao I.ok.bsz I.sz
  ·obtain ⟨_,_,_,h4,_⟩:=f b hb;rcases h4 with z | z
   ·exact I.ok.noex b o e z
   ·exact absurd (yaw (yaf e) (yao I.ok.bsz z)) (ybi _)
  ·obtain ⟨_,h2,h3,_⟩:=f b hb;rcases yam.mp (I.stkSub b z) with q | q
   ·exact h2 q
   ·exact h3 q
 have hokN:zbp X.prog X.w (upd H D (.lst [])) h₁ D (.lst []):=⟨yaC _,[],0,.nil,hnew⟩;refine ⟨ok,I.os.symm ▸ rfl,I.bare,Un.laid kp hD hfr,?_,fun x cc e=>?_,?_,fun x cc e=>?_,fun p hp=>?_,I.hok.laid kp hD hokN,?_⟩
 ·obtain ⟨m,hm⟩:=hns;refine ⟨m,hm,fun i x v e1 e2 e3=>?_⟩;have hi:own≤i:=by
   false_or_by_contra
   rename_i z;unfold zcB at e2;rw[ybp (by rw[ya9];omega),yct]at e2;split at e2 <;> cases e2
  obtain ⟨j,rfl⟩:∃ j,i=own+j:=⟨i - own,by omega⟩;have hj:j < cap.length:=by
   have:=(yak.mp e1).1;have z:=c.len;have this':own+j < N.length:=this;omega
  have hc:=yaU.mp c.caps j (ya8.mpr hj);have e1':N[own+j]?=some x:=e1;rw[e1']at hc;simp only[ybk,beq_iff_eq,Bool.or_eq_true]at hc;obtain ⟨hN,hf,hk⟩:=hc;have e2':σ[cap[j]!]?=some (some v):=by
   unfold zcB at e2;rw[ybj (by rw[ya9];omega),ya9,show own+j - own=j by omega,yar]at e2;have g:cap[j]! = cap[j]:=by simp[hj]
   rw[yac hj,Option.map_some]at e2;rw[g];have e2:=yad e2;cases q:σ[cap[j]]? with
   | none=>rw[q]at e2;cases e2
   | some z=>rw[q]at e2;exact congrArg some e2
  obtain ⟨m0,_,hl⟩:=I.loc;obtain ⟨u,ru,lk⟩:=hl (cap[j]!) x v hN.symm e2' (by
   rcases hk with z | z
   ·exact .inr (.inl z)
   ·exact .inr (.inr z))
  refine ⟨u,ru,.inr ⟨zbF (env:=X.env) hf,?_⟩⟩;rcases lk with ⟨z,_⟩ | ⟨_,cc,ec,ic⟩
  ·rcases hk with q | q
   ·rw[q]at z;cases z
   ·rw[q]at z;cases z
  ·obtain ⟨c',hc'⟩:=hcl.has x (by
    have:(x,NameKind.free)∈scope.names:=by
     have hlk:=hf;obtain ⟨l1,l2,hs,hno⟩:=List.lookup_eq_some_iff.mp hlk;rw[hs];exact yay _ yaD
    exact this)
   have:=hcl.sub x c' hc';rw[ec]at this;cases this
   obtain ⟨o,ho,hd⟩:=ic;exact ⟨cc,hc',o,kp cc o ho,hd⟩
 ·obtain ⟨v,o,ho,hd⟩:=cells x cc e;exact ⟨v,o,kp cc o ho,hd⟩
 ·show upd H D (.lst []) C=none;rw[zag (Ne.symm hCD)];exact hfrC
 ·show upd H D (.lst []) cc=none;rw[zag (cellne x cc e).1];exact I.freeC x cc (hcl.sub x cc e)
 ·obtain ⟨e,n,ne,nf,d⟩:=I.pin p hp;refine ⟨kp _ _ e,?_,(sz _ _ e).2,fun z=>?_,d⟩
  ·show upd H D (.lst []) p.1=none;rw[zag (sz _ _ e).1];exact n
  ·rcases yam.mp (I.stkSub p.1 z) with q | q
   ·exact ne q
   ·exact nf q
 ·show (zcB own cap σ).length=N.length;unfold zcB;rw[yap,ya9,yab,c.len]
def zpX (own:Nat)(cap:List Nat)(wi:TI)(g:TG)(ts:TT)(te:TE):TE:=fun σ H Q=>wi σ H fun J H1=>∀ D,H1 D=none→∃ W:Nat→Nat→St→Hp→Prop,(∃ m,W 0 m (zcB own cap σ) (upd H1 D (.lst [])))∧∀ i m σ H,W i m σ H→
 (J.stop i H∧Q (.ref D) H)∨(J.go i H∧∀ x H',J.yld i H x H'→g x σ H' fun σ2 H2=>ts σ2 H2 fun b H3=>if b=true then te σ2 H3 fun y H4=>∃ xs,H4 D=some (.lst xs)∧xs.length < sizeLine∧∃ m',m' < m∧W (i+1) m' σ2 (upd H4 D (.lst (xs++[y]))) else ∃ m',m' < m∧W (i+1) m' σ2 H3)
theorem zjb {pins:List (Addr×Obj)}{σ:St}{H2:Hp}{s2:Shared}{N:List Str}{own:Nat}{cap:List Nat}{scope:Scope}{cl:List (Str×Addr)}{fp:List Addr}{tg elt iter:Expr}{ifs:List Expr}{pos:Pos}{J:It}{it:Addr}{tn:Nat→Heap→Prop}{g:TG}{ts:TT}{te:TE}{Q:VK}
  {E:Value→Shared→Prop} {RR:Value→Addr→Result→Shared→Prop}
  (hcalm:X.calm=true) (c:zla X scope N own cap) (hcl:zgP scope X.env cl)
  (hg:∀ cl C s₂ H₂ fp,PG (zbW X N scope cl C s₂ H₂ fp) tg g) (hts:∀ cl C s₂ H₂ fp,PTs (zbW X N scope cl C s₂ H₂ fp) ifs ts) (he:∀ cl C s₂ H₂ fp,PE (zbW X N scope cl C s₂ H₂ fp) elt te)
  (I2:Inv X pins σ H2 s2) (T:Turn X.prog X.w X.K tg J fp it tn) (st2:tn 0 s2.heap) (f2:∀ b∈fp,FpOk X pins H2 b)
  (rd:∀ D,H2 D=none→∃ W:Nat→Nat→St→Hp→Prop,(∃ m,W 0 m (zcB own cap σ) (upd H2 D (.lst [])))∧∀ i m σ H,W i m σ H→
   (J.stop i H∧Q (.ref D) H)∨(J.go i H∧∀ x H',J.yld i H x H'→g x σ H' fun σ2 H2=>ts σ2 H2 fun b H3=>if b=true then te σ2 H3 fun y H4=>∃ xs,H4 D=some (.lst xs)∧xs.length < sizeLine∧∃ m',m' < m∧W (i+1) m' σ2 (upd H4 D (.lst (xs++[y]))) else ∃ m',m' < m∧W (i+1) m' σ2 H3))
  (hRR:∀ D C s' H',Inv X pins σ H' s'→(∃ m,s'.heap.Ns C m)→FpOk X pins H' C→Q (.ref D) H'→RR (.ref D) C (.ok .next) s') :
  wpAny (model X.prog X.w) X.A (newList []) (fun acc s₃=>wpAny (model X.prog X.w) X.A (newFunctionEnv scope X.env.globals cl [] X.env.qual none .none (some X.env)) (fun cenv s₄=>
   codeAny (model X.prog X.w) X.A (.compStart (.ListComp elt [⟨tg,iter,ifs,0⟩] scope pos) 0 (.ref it) acc { cenv with scope:=relabel scope X.env }) (RR acc cenv.locals) s₄) E s₃) E s2:=by
 have hcell:∀ y∈scope.names,y.2≠.cell:=fun y hy q=>by
  have:=yaU.mp c.nocell y hy;rw[q]at this;exact absurd this (by decide)
 have hfp:∀ b∈fp,b < s2.heap.objs.size:=fun b hb=>by
  obtain ⟨o,e,_⟩:=T.obj 0 _ st2 b hb;exact yaf e
 refine wpAny_newObj_type (wpAny_newFunctionEnv hcell (by intro y hy;simp at hy) (fun h₁ hns₁ hsb₁=>?_) c.kind);dsimp only at hns₁ hsb₁ ⊢;generalize hHH:s2.heap.push { cls:=.type "list",dict:=none,data:=.seq ([]:List Value).toArray }=HH at hns₁ hsb₁ ⊢;have hC:HH.objs.size=s2.heap.objs.size+1:=by rw[← hHH,ybw]
 have hDC:s2.heap.objs.size≠HH.objs.size:=by rw[hC];exact yan (ybE _)
 have hCle:s2.heap.objs.size≤HH.objs.size:=by rw[hC];exact yaV _
 have old:∀ b o,s2.heap.get? b=some o→h₁.get? b=some o:=fun b o e=>hsb₁.extBut b o (yan (by rw[hC];exact ycj (yaf e))) (yai _ (hHH ▸ yai _ e));have hnew:h₁.get? s2.heap.objs.size=some { cls:=.type "list",data:=.seq #[] }:=hsb₁.extBut _ _ hDC (yai _ (hHH ▸ yaB _ rfl));have I3:∀ tk,Inv (zbW X N scope cl HH.objs.size s2 H2 fp) pins (zcB own cap σ) (upd H2 s2.heap.objs.size (.lst [])) { s2 with heap:=h₁,toks:=tk }:=fun tk=>
  zoV I2 c hcl f2 (yaa _) hCle hDC old hnew ⟨_,hns₁⟩ hfp hcalm
 obtain ⟨W,⟨m0,w0⟩,turn⟩:=rd s2.heap.objs.size (I2.hok.fresh (yaa _));have st3:tn 0 h₁:=T.keep _ _ _ st2 fun b _ o e=>old b o e;have fr3:∀ b∈fp,upd H2 s2.heap.objs.size (.lst []) b=none:=fun b hb=>by rw[zag (yan (hfp b hb))];exact (f2 b hb).1
 have stat:∀{H':Hp},(∀ b∈fp,H' b=none)→∀ b∈fp,FpOk (zbW X N scope cl HH.objs.size s2 H2 fp) pins H' b:=fun hn b hb=>by
  obtain ⟨_,h2,h3,_,h5,h6⟩:=f2 b hb;refine ⟨hn b hb,yan (yaw (hfp b hb) hCle),fun z=>?_,.inl hb,fun x cc e=>h5 x cc (hcl.sub x cc e),h6⟩;rcases yam.mp (I2.stkSub b z) with q | q
  ·exact h2 q
  ·exact h3 q
 have loop:∀ s₃:Shared,s₃={ s2 with heap:=h₁,toks:=s2.toks+([]:List (Str×Value)).length }→
   codeAny (model X.prog X.w) X.A (.compLoop (.ListComp elt [⟨tg,iter,ifs,0⟩] scope pos) 0 (.ref it) (.ref s2.heap.objs.size) (compEnvC scope cl HH.objs.size X.env)) (RR (.ref s2.heap.objs.size) HH.objs.size) s₃:=by
  rintro s₃ rfl;refine zgC (fun n s'=>∃ i σ' H',Inv (zbW X N scope cl HH.objs.size s2 H2 fp) pins σ' H' s'∧tn i s'.heap∧(∀ b∈fp,H' b=none)∧W i n σ' H') ?_ m0 ⟨0,_,_,I3 _,st3,fr3,w0⟩;rintro n s3 ⟨i,σ3,H3,J3,t3,fr,w3⟩;rcases turn i n σ3 H3 w3 with ⟨stop,qn⟩ | ⟨go,step⟩
  ·refine thn (T.done (zbW X N scope cl HH.objs.size s2 H2 fp) rfl rfl rfl hcalm i pins s3 σ3 H3 (fun _ _=>False) J3 (stat fr) t3 stop) fun r s4 zq0=>?_;obtain ⟨hr,I4⟩:=zq0;subst hr;obtain ⟨mm,hmm,_⟩:=I4.loc;refine hRR _ _ s4 H3 (I2.call' I4.os I4.base I4.hok I4.bare fun b hb=>?_) ⟨mm,hmm⟩ (I2.fpOk hCle I4.free) qn;obtain ⟨_,h2,_,h4,h5,h6⟩:=f2 b hb;exact ⟨h4,h2,h5,h6⟩
  ·refine thn (T.item (zbW X N scope cl HH.objs.size s2 H2 fp) rfl rfl rfl hcalm i pins s3 σ3 H3 (fun _ _=>False) J3 (stat fr) t3 go) fun r s4 zq0=>?_;obtain ⟨u,hr,h4⟩:=zq0;subst hr;refine thn h4 fun _ s5 zq0=>?_;obtain ⟨x,H5,I5,r5,y5,st5,fr5⟩:=zq0;have I5':=I5.pinned (stat fr5) (T.obj _ _ st5);have back:∀{σ7:St} {H7:Hp} {s7:Shared} {m':Nat},Inv (zbW X N scope cl HH.objs.size s2 H2 fp) (pins++zg2 fp s5.heap) σ7 H7 s7→W (i+1) m' σ7 H7→∃ i σ' H',Inv (zbW X N scope cl HH.objs.size s2 H2 fp) pins σ' H' s7∧tn i s7.heap∧(∀ b∈fp,H' b=none)∧W i m' σ' H':=fun {σ7 H7 s7 m'} I7 w7=>by
    refine ⟨i+1,σ7,H7,I7.unpinned,T.keep _ _ _ st5 fun b hb o e=>(I7.pin (b,o) (yay _ (yay _ (zcw hb e)))).1,fun b hb=>?_,w7⟩;obtain ⟨o,e,d⟩:=T.obj _ _ st5 b hb;exact (I7.pin (b,o) (yay _ (yay _ (zcw hb e)))).2.1
   refine thn (hg cl HH.objs.size s2 H2 fp _ s5 σ3 H5 x u _ I5' r5 (step x H5 y5)) fun _ s6 zq0=>?_;obtain ⟨σ6,H6,I6,q6⟩:=zq0;refine thn (hts cl HH.objs.size s2 H2 fp _ s6 σ6 H6 _ I6 q6) fun b s7 zq0=>?_;obtain ⟨H7,I7,q7⟩:=zq0;cases b with
   | false=>
    rw[if_neg yaA]at q7 ⊢;obtain ⟨m',hm,w7⟩:=q7;exact ⟨m',hm,back I7 w7⟩
   | true=>
    rw[if_pos rfl]at q7 ⊢;refine thn (he cl HH.objs.size s2 H2 fp _ s7 σ6 H7 _ I7 q7) fun v s8 zq0=>?_;obtain ⟨y,H8,I8,r8,q8⟩:=zq0;obtain ⟨xs,hx,hz,m',hm,w8⟩:=q8;refine thn (zaU (X:=zbW X N scope cl HH.objs.size s2 H2 fp) _ s8 σ6 H8 (.ref s2.heap.objs.size) [y] (.ref s2.heap.objs.size) [v] (fun _ H9=>H9=upd H8 s2.heap.objs.size (.lst (xs++[y]))) I8 rfl (.cons r8 .nil) ⟨_,xs,y,rfl,rfl,hx,hz,rfl⟩) fun _ s9 zq0=>?_;obtain ⟨_,H9,I9,_,e9⟩:=zq0;subst e9;exact ⟨m',hm,back I9 w8⟩
 refine codeAny_compStart_list (loop _ rfl) ?_;exact T.self _ 0 _ _ _ st3 (loop _ rfl)
theorem zbS {N:List Str}{own:Nat}{cap:List Nat}{scope:Scope}{tg elt iter:Expr}{ifs:List Expr}{pos:Pos}{wi:TI}{g:TG}{ts:TT}{te:TE}(hcalm:X.calm=true)(hi:PI X tg iter wi)(c:zla X scope N own cap)
  (hg:∀ cl C s₂ H₂ fp,PG (zbW X N scope cl C s₂ H₂ fp) tg g) (hts:∀ cl C s₂ H₂ fp,PTs (zbW X N scope cl C s₂ H₂ fp) ifs ts) (he:∀ cl C s₂ H₂ fp,PE (zbW X N scope cl C s₂ H₂ fp) elt te)
  (hs:∀ x,foldedSetIterable iter X.env x=pure x:=by intro _;rfl):PE X (.ListComp elt [⟨tg,iter,ifs,0⟩] scope pos) (zpX own cap wi g ts te):=by
 intro pins s σ H Q I h;obtain ⟨cl,hcl⟩:=zfb (scope:=scope) (env:=X.env) fun x hx=>I.ok.has x (by
  have:=yaU.mp c.frees _ hx;simpa using this)
 rw[eval_ListComp];refine wpAny_comprehension_free (use:=none) rfl hs hcl.eq c.kind (fun x hx hl=>by
  have:=yaU.mp c.locs x hx;rw[hl]at this;simpa using this) (thn (hi pins s σ H _ I h) fun v s1 h1=>thn h1 fun itv s2 h2=>?_)
 obtain ⟨it,fp,tn,J,H2,e,I2,T,st2,f2,rd⟩:=h2;subst e;refine zjb (RR:=fun acc C=>compPost (model X.prog X.w) X.A X.xe none (EP X pins σ Q) acc C) hcalm c hcl hg hts he I2 T st2 f2 rd ?_;intro D C s' H' I' hm fC q;obtain ⟨m,hm⟩:=hm;obtain ⟨f0,f1,f2,f3,f4,f5⟩:=fC;exact ⟨m,hm,fun h' hsb=>⟨.ref D,H',I'.turned (t':=s'.toks) (fun b o hb e=>(hsb.2 b hb).trans e) f0 f1 f3 f4 f5,rfl,q⟩⟩
theorem zen {i:Nat}{x:Str}{N:List Str}{own:Nat}{cap:List Nat}{scope:Scope}{tg elt iter:Expr}{ifs:List Expr}{pos pos' spos:Pos}{wi:TI}{g:TG}{ts:TT}{te:TE}(hN:X.N.Nodup)(hxi:X.N[i]?=some x)(hx:X.env.scope.names.lookup x=some .local)(hcalm:X.calm=true)(hi:PI X tg iter wi)(c:zla X scope N own cap)
  (hg:∀ cl C s₂ H₂ fp,PG (zbW X N scope cl C s₂ H₂ fp) tg g) (hts:∀ cl C s₂ H₂ fp,PTs (zbW X N scope cl C s₂ H₂ fp) ifs ts) (he:∀ cl C s₂ H₂ fp,PE (zbW X N scope cl C s₂ H₂ fp) elt te)
  (hsw:swapsWith (.ListComp elt [⟨tg,iter,ifs,0⟩] scope pos) (some (.Name x pos')) spos.line X.env=pure true:=by rfl)
  (hs:∀ x,foldedSetIterable iter X.env x=pure x:=by intro _;rfl):PS X (.Assign [.Name x pos'] (.ListComp elt [⟨tg,iter,ifs,0⟩] scope pos) spos) (tAsg (zpX own cap wi g ts te) (zib i)):=by
 intro pins s σ H D I h;obtain ⟨cl,hcl⟩:=zfb (scope:=scope) (env:=X.env) fun x hx=>I.ok.has x (by
  have:=yaU.mp c.frees _ hx;simpa using this)
 rw[exec_Assign_Name_used _ _ _ _ hsw];refine wpAny_bind (wpAny_standAt (wpAny_bind ?_));show wpAny _ X.A (do let _ ← comprehension (.ListComp elt [⟨tg,iter,ifs,0⟩] scope pos) scope X.env _ (newList []) false (eval iter X.env) (some (assign (.Name x pos') X.env))) _ _ s
 refine wpAny_bind (wpAny_mono (wpAny_comprehension_free (use:=some (assign (.Name x pos') X.env)) (Q:=fun _ s'=>SP X pins D .next s') rfl hs hcl.eq c.kind (fun x hx hl=>by
  have:=yaU.mp c.locs x hx;rw[hl]at this;simpa using this) (thn (hi pins s σ H _ I h) fun v s1 h1=>thn h1 fun itv s2 h2=>?_)) (fun _ s' hq=>wpAny_pure (wpAny_pure hq)) fun _ _ e=>e)
 obtain ⟨it,fp,tn,J,H2,e,I2,T,st2,f2,rd⟩:=h2;subst e;refine zjb (RR:=fun acc C=>compPost (model X.prog X.w) X.A X.xe (some (assign (.Name x pos') X.env)) (fun _ s'=>SP X pins D .next s') acc C) (Q:=fun x H1=>zib i x σ H1 D.nx) hcalm c hcl hg hts he I2 T st2 f2 rd ?_;intro Dd C s' H' I' hm fC q;obtain ⟨m,hm⟩:=hm;have hne:∀ a,(a=X.env.locals∨X.env.cells.lookup x=some a)→a≠C:=fun a z=>by
  obtain ⟨f0,f1,f2,f3,f4,f5⟩:=fC;rcases z with z | z
  ·rw[z];exact Ne.symm f1
  ·exact f4 x a z
 show wpAny _ X.A (assign (.Name x pos') X.env (.ref Dd)) _ _ _;refine wpAny_assign_Name (zgd I' hN hxi (.inl hx) (v:=.ref Dd) rfl (fun s'' I'' hch=>?_) (.inr hx));obtain ⟨a,hsb,ha⟩:=hch;refine ⟨m,hm.sameBut hsb (Ne.symm (hne a ha)),fun h' hs'=>?_⟩;obtain ⟨f0,f1,f2,f3,f4,f5⟩:=fC;exact ⟨_,H',I''.turned (t':=s''.toks) (fun b o hb e=>(hs'.2 b hb).trans e) f0 f1 f3 f4 f5,q⟩
end
end L2
namespace L2
open PySem PySem.Spec PyProof.Rows PySem.SeqAt
class Srt (α:Type)[Rep α] where
 blt:α→α→Bool
 irrefl:∀ a,blt a a=false
 trans:∀ a b c,blt a b=true→blt b c=true→blt a c=true
 negTrans:∀ a b c,blt a c=true→blt a b=true∨blt b c=true
 total:∀ a b,blt a b=false→blt b a=false→a=b
 kd:SortKind
 one:α
 lt:∀{X:Cx} {pins:List (Addr×Obj)} {σ:St} {H:Hp} {s:Shared} {A:Around} {a b:α} {x y:V} {u v:Value} {Q:Bool→Shared→Prop} {E:Value→Shared→Prop},Inv X pins σ H s→Rep.has X.K H a x→Rep.has X.K H b y→RelV x u→RelV y v→Q (blt a b) s→wpAny (model X.prog X.w) A (keyLt' kd u v) Q E s
 kind:∀{X:Cx} {pins:List (Addr×Obj)} {σ:St} {H:Hp} {s:Shared} {A:Around} {as:List α} {xs:List V} {us:List Value} {Q:SortKind→Shared→Prop} {E:Value→Shared→Prop},Inv X pins σ H s→zal X.K H as xs→Vals xs us→2≤us.length→Q kd s→wpAny (model X.prog X.w) A (keyKind' us.toArray) Q E s
section
variable {α:Type}[Rep α][Srt α]
noncomputable def srtKind (α:Type)[Rep α][Srt α](K:Frag)(H:Hp):PyProof.Rows.KeyKind where
 α:=α
 blt:=Srt.blt
 irrefl:=Srt.irrefl
 trans:=Srt.trans
 negTrans:=Srt.negTrans
 total:=Srt.total
 keyOf:=fun u=>open Classical in if h:∃ a:α,∃ x,RelV x u∧Rep.has K H a x then some (Classical.choose h) else none
 dflt:=Srt.one
theorem zoS {X:Cx}{pins:List (Addr×Obj)}{σ:St}{H:Hp}{s:Shared}{a:α}{x:V}{u:Value}(I:Inv X pins σ H s)(r:RelV x u)(h:Rep.has X.K H a x):(srtKind α X.K H).keyOf u=some a:=by
 have e:∃ a:α,∃ x,RelV x u∧Rep.has X.K H a x:=⟨a,x,r,h⟩;unfold srtKind;dsimp only;rw[dif_pos e];obtain ⟨y,ry,hy⟩:=Classical.choose_spec e;have z:=ry.inj r;subst z;exact congrArg some (Rep.inj I hy h)
theorem zef {K:Frag}{H:Hp}{a:α}{u:Value}(h:(srtKind α K H).keyOf u=some a):∃ x,RelV x u∧Rep.has K H a x:=by
 unfold srtKind at h;dsimp only at h;split at h
 ·rename_i e;cases h
  exact Classical.choose_spec e
 ·cases h
def zcJ (as:List α):List α:=as.mergeSort fun a b=>!Srt.blt b a
theorem zct (as:List α):(zcJ as).Perm as:=List.mergeSort_perm _ _
theorem zdC {as:List α}{a:α}:a∈zcJ as↔a∈as:=(zct as).mem_iff
theorem zcN (as:List α):(zcJ as).length=as.length:=(zct as).length_eq
theorem znN {a b:α}(h:Srt.blt a b=true):Srt.blt b a=false:=by
 cases e:Srt.blt b a with
 | false=>rfl
 | true=>
  have:=Srt.trans _ _ _ h e;rw[Srt.irrefl]at this;cases this
theorem zkx (as:List α):(zcJ as).Pairwise fun a b=>Srt.blt b a=false:=by
 have h:=List.pairwise_mergeSort (le:=fun a b:α=>!Srt.blt b a) (fun a b c h1 h2=>by
  simp only[ybJ]at h1 h2 ⊢;cases e:Srt.blt c a with
  | false=>rfl
  | true=>
   rcases Srt.negTrans c b a e with z | z
   ·rw[h2]at z;cases z
   ·rw[h1]at z;cases z) (fun a b=>by
  cases e:Srt.blt b a with
  | false=>rfl
  | true=>rw[znN e];rfl) as
 exact h.imp fun {a b} z=>by simpa using z
theorem zez {as bs:List α}(hp:bs.Perm as)(hs:bs.Pairwise fun a b=>Srt.blt b a=false):bs=zcJ as:=
 List.Perm.eq_of_pairwise (fun a b _ _ h1 h2=>Srt.total a b h2 h1) hs (zkx as) (hp.trans (zct as).symm)
theorem ziE {as:List α}(hs:as.Pairwise fun a b=>Srt.blt b a=false):zcJ as=as:=(zez (List.Perm.refl _) hs).symm
theorem zdV {as:List α}(hn:as.Nodup):(zcJ as).Pairwise fun a b=>Srt.blt a b=true:=by
 have h1:=zkx as;have h2:(zcJ as).Nodup:=(zct as).nodup_iff.mpr hn;refine (h1.and h2).imp fun {a b} z=>?_;cases e:Srt.blt a b with
 | true=>rfl
 | false=>exact absurd (Srt.total a b e z.1) z.2
theorem zgp {K:Frag}{H:Hp}:∀{out:List Value},(∀ v∈out,∃ a:α,∃ x,RelV x v∧Rep.has K H a x∧(srtKind α K H).keyOf v=some a)→
  ∃(ws:List V) (bs:List α),Vals ws out∧zal K H bs ws∧bs=out.map (Tim.keyV (srtKind α K H))
 | [],_=>⟨[],[],.nil,.nil,rfl⟩
 | v::out,h=>by
  obtain ⟨ws,bs,h1,h2,h3⟩:=zgp (out:=out) fun u hu=>h u (yaF _ hu);obtain ⟨a,x,r,e,k⟩:=h v yaD;refine ⟨x::ws,a::bs,.cons r h1,.cons e h2,?_⟩;rw[yau,← h3];have z:Tim.keyV (srtKind α K H) v=a:=by
   unfold Tim.keyV;rw[k];rfl
  rw[z];rfl
theorem zjQ {X:Cx}{pins:List (Addr×Obj)}{σ:St}{H:Hp}{s:Shared}(I:Inv X pins σ H s):∀{as:List α} {xs:List V} {us:List Value},zal X.K H as xs→Vals xs us→us.map (Tim.keyV (srtKind α X.K H))=as∧∀ v∈us,∃ a:α,∃ x,RelV x v∧Rep.has X.K H a x∧(srtKind α X.K H).keyOf v=some a
 | _,_,_,.nil,.nil=>⟨rfl,fun _ z=>nomatch z⟩
 | _,_,_,.cons e t,.cons r q=>by
  obtain ⟨h1,h2⟩:=zjQ I t q;have k:=zoS I r e;refine ⟨?_,fun v hv=>?_⟩
  ·rw[yau,h1];unfold Tim.keyV;rw[k];rfl
  ·rcases yam.mp hv with z | z
   ·subst z;exact ⟨_,_,r,e,k⟩
   ·exact h2 v z
end
def zry (α:Type)[Rep α][Srt α](K:Frag):List V→Hp→VK→Prop:=fun xs H Q=>∃(p:Addr) (vs:List V) (as:List α),xs=[.ref p]∧SqL K H p vs∧zal K H as vs∧
 ∀ l ws,H l=none→zal K H (zcJ as) ws→Q (.ref l) (upd H l (.lst ws))
section
variable {X:Cx}
theorem zei (α:Type)[Rep α][Srt α]:zdA X (.builtin "sorted") (zry α X.K):=by
 intro pins s σ H xs us Q I r h;obtain ⟨p,vs,as,rfl,hq,ha,q⟩:=h;obtain ⟨u,rfl,rx⟩:=zgb r;cases rx
 obtain ⟨its,rv,pl,hz⟩:=I.list hq;have hlen:=rv.length;obtain ⟨km,kk⟩:=zjQ I ha rv;refine Tim.zn9 (κ:=srtKind α X.K H) (kd:=Srt.kd α) pl.isList (by omega) (fun v hv=>?_) (fun h' k E x y a b Q hx hy q=>?_) (fun h' E Q k h2 q=>Srt.kind (Inv.kept (t':=s.toks) I k) ha rv h2 q) fun out h' c p1 p2 k hc=>?_
 ·obtain ⟨a,_,_,_,e⟩:=kk v hv;exact ⟨a,e⟩
 ·obtain ⟨x1,r1,e1⟩:=zef hx;obtain ⟨y1,r2,e2⟩:=zef hy;exact Srt.lt (Inv.kept (t':=s.toks) I k) e1 e2 r1 r2 q
 ·obtain ⟨ws,bs,w1,w2,w3⟩:=zgp (α:=α) (K:=X.K) (H:=H) (out:=out) fun v hv=>kk v (p1.mem_iff.mp hv);have eb:bs=zcJ as:=by
   refine zez ?_ ?_
   ·rw[w3,← km];exact p1.map _
   ·rw[w3];exact ybL.mpr p2
  rw[eb]at w2;have hw:ws.length≤sizeLine:=by
   have:=w1.length;have:=p1.length_eq;omega
  exact ⟨.ref (s.heap.objs.size+1),_,I.laid (a:=s.heap.objs.size+1) (o:=.lst ws) (t':=s.toks) k (yaV _) ⟨hw,out,c,w1,hc⟩,rfl,q _ ws (I.hok.fresh (yaV _)) w2⟩
end
instance:Srt Int where
 blt:=fun a b=>decide (a < b)
 irrefl:=fun a=>by simp
 trans:=fun a b c h1 h2=>by
  simp only[decide_eq_true_eq]at *;omega
 negTrans:=fun a b c h=>by
  simp only[decide_eq_true_eq]at *;omega
 total:=fun a b h1 h2=>by
  simp only[decide_eq_false_iff_not]at *;omega
 kd:=oneType'
 one:=0
 lt:=fun {X pins σ H s A a b x y u v Q E} _ h1 h2 r1 r2 q=>by
  have h1:x=.int a:=h1;have h2:y=.int b:=h2;subst h1 h2;obtain ⟨t,rfl⟩:=r1;obtain ⟨t',rfl⟩:=r2;exact PySem.W.kat_lt_int q
 kind:=fun {X pins σ H s A as xs us Q E} _ h r hl q=>by
  have e:=zal.toInts h;subst e;have hi:IntsAre us as:=by
   clear q hl
   induction as generalizing us with
   | nil=>cases r;exact .nil
   | cons a as ih=>
    cases r with
    | cons r1 r2=>
     obtain ⟨t,rfl⟩:=r1;exact .cons a t (ih (by first | exact zal.ints | assumption) r2)
  match us,hl,hi with
  | v₁::v₂::rest,_,hi=>
   rw[keyKind_ints hi];exact wpAny_pure q
def pLt (a b:Int×Int):Bool:=decide (a.1 < b.1) || (decide (a.1=b.1) && decide (a.2 < b.2))
theorem zc0 {a b:Int×Int}:pLt a b=true↔a.1 < b.1∨(a.1=b.1∧a.2 < b.2):=by
 unfold pLt;simp
theorem zjD {a b:Int×Int}:pLt a b=false↔¬ (a.1 < b.1∨(a.1=b.1∧a.2 < b.2)):=by
 rw[← zc0];simp
theorem zhT {X:Cx}{pins:List (Addr×Obj)}{σ:St}{H:Hp}{s:Shared}{a:Int×Int}{x:V}{u:Value}(I:Inv X pins σ H s)(h:Rep.has X.K H a x)(r:RelV x u) :
  ∃(p:Addr) (o:Obj) (n:Nat) (t t':Tok),u=.ref p∧s.heap.get? p=some o∧o.cls=.type "tuple"∧o.data=.seq #[.int a.1 t,.int a.2 t'] n:=by
 obtain ⟨p,x1,x2,rfl,q,e1,e2⟩:=(show hasP X.K H a x from h);have e1:x1=.int a.1:=e1;have e2:x2=.int a.2:=e2;subst e1 e2;cases r
 obtain ⟨us,ru,pu,_⟩:=I.tuple (SqT.of q);obtain ⟨u1,u2,rfl,⟨t,rfl⟩,⟨t',rfl⟩⟩:=zhu ru;obtain ⟨o,ho,hc,n,hd⟩:=pu;exact ⟨p,o,n,t,t',rfl,ho,hc,hd⟩
theorem zpE {prog:Program}{w:World}{A:Around}{E:Value→Shared→Prop}{s:Shared}{x y:Int}{t u:Tok}{Q:Bool→Shared→Prop}(b:Bool)(h:Q (decide (x < y)) s):wpAny (model prog w) A (oneLt' b (.int x t) (.int y u)) Q E s:=by
 cases b with
 | true=>
  rw[← keyLt'_oneType];exact PySem.W.kat_lt_int h
 | false=>exact PySem.W.kat_one _ _ (lt_int h)
instance:Srt (Int×Int) where
 blt:=pLt
 irrefl:=fun a=>by rw[zjD];omega
 trans:=fun a b c h1 h2=>by
  rw[zc0]at *;omega
 negTrans:=fun a b c h=>by
  rw[zc0]at *;rw[zc0];omega
 total:=fun a b h1 h2=>by
  rw[zjD]at *;obtain ⟨a1,a2⟩:=a;obtain ⟨b1,b2⟩:=b;have:a1=b1∧a2=b2:=by dsimp only at *;omega
  rw[this.1,this.2]
 kd:=tuples' true
 one:=(0,0)
 lt:=fun {X pins σ H s A a b x y u v Q E} I h1 h2 r1 r2 q=>by
  obtain ⟨p,o,n,t1,t2,rfl,ho,hc,hd⟩:=zhT I h1 r1;obtain ⟨p',o',n',t3,t4,rfl,ho',hc',hd'⟩:=zhT I h2 r2;refine PySem.W.kat_lt ho hd ho' hd' ?_;show PySem.W.KatLex X.prog X.w A true _ Q [(.int a.1 t1,.int b.1 t3),(.int a.2 t2,.int b.2 t4)] 0 s;refine PySem.W.kat_cons (EqAt.int_int a.1 t1 b.1 t3 _ _ _ _ (PySem.W.kat_go (fun e=>PySem.W.kat_yes ?_) (fun e=>PySem.W.kat_no ?_)))
  ·have e1:a.1=b.1:=eq_of_beq e;refine PySem.W.kat_cons (EqAt.int_int a.2 t2 b.2 t4 _ _ _ _ (PySem.W.kat_go (fun e=>PySem.W.kat_yes (PySem.W.kat_nil ?_)) (fun e=>PySem.W.kat_no (zpE _ ?_))))
   ·have e2:a.2=b.2:=eq_of_beq e;have z:pLt a b=false:=by rw[zjD];omega
    rw[z]at q;exact q
   ·have z:pLt a b=decide (a.2 < b.2):=by
     unfold pLt;rw[yah (by omega:¬ a.1 < b.1),yag e1];rfl
    rw[z]at q;exact q
  ·have e1:¬ a.1=b.1:=fun z=>by rw[z]at e;simp at e
   refine zpE _ ?_;have z:pLt a b=decide (a.1 < b.1):=by
    unfold pLt;rw[yah e1];simp
   rw[z]at q;exact q
 kind:=fun {X pins σ H s A as xs us Q E} I h r hl q=>by
  have go:∀{as:List (Int×Int)} {xs:List V} {us:List Value},zal X.K H as xs→Vals xs us→∃ fs,PySem.W.KatTups s.heap us fs∧fs.length=us.length∧∀ v∈fs,∃ i t,v=Value.int i t:=by
   intro as
   induction as with
   | nil=>
    intro xs us h r;cases h
    cases r
    exact ⟨[],.nil,rfl,fun _ z=>nomatch z⟩
   | cons a as ih=>
    intro xs us h r;cases h with
    | cons h1 h2=>
     cases r with
     | cons r1 r2=>
      obtain ⟨fs,f1,f2,f3⟩:=ih h2 r2;obtain ⟨p,o,n,t,t',rfl,ho,hc,hd⟩:=zhT I h1 r1;refine ⟨.int a.1 t::fs,PySem.W.KatTups.cons ho hc hd rfl f1,by rw[yaL,yaL,f2],fun v hv=>?_⟩;rcases yam.mp hv with z | z
      ·exact ⟨_,_,z⟩
      ·exact f3 v z
  obtain ⟨fs,f1,f2,f3⟩:=go h r;refine PySem.W.kat_kind (T:=.type "int") f1 (by omega) (fun v hv=>?_) (by decide) ?_
  ·obtain ⟨i,t,rfl⟩:=f3 v hv;exact PySem.W.Looks.of_pure rfl
  ·exact q
end L2
namespace L2
open PySem PySem.Spec PyProof.Rows
section
variable {X:Cx}
theorem zeV {x:Str}{i:Int}{pos:Pos}(hg:Gl X x)(hm:∃ t,X.mg x=some (.int i t))(hd:(x == ("__debug__" : Str))=false:=by decide):PE X (.Name x pos) (tC (.int i)):=by
 obtain ⟨t,e⟩:=hm;exact zqf hg e ⟨t,rfl⟩ hd
end
theorem zbX {K:Frag}{a D:Addr}{xs:List V}{g:TG}{ts:TT}{te:TE}{σ:St}{H:Hp}{Q:Hp→Prop}(Pv:Nat→St→Hp→Prop)(h0:Pv 0 σ H)(hl:∀ i σ H,i≤xs.length→Pv i σ H→SqL K H a xs)
  (hs:∀ i m x σ H,xs[i]?=some x→i+m=xs.length→Pv i σ H→g x σ H fun σ2 H2=>ts σ2 H2 fun b H3=>if b=true then te σ2 H3 fun y H4=>∃ zs,H4 D=some (.lst zs)∧zs.length < sizeLine∧∃ m',m' < m∧(i+1+m'=xs.length∧Pv (i+1) σ2 (upd H4 D (.lst (zs++[y])))) else ∃ m',m' < m∧(i+1+m'=xs.length∧Pv (i+1) σ2 H3))
  (hd:∀ σ H,Pv xs.length σ H→Q H) :
  ∃ W:Nat→Nat→St→Hp→Prop,(∃ m,W 0 m σ H)∧∀ i m σ H,W i m σ H→((Itl K a).stop i H∧Q H)∨((Itl K a).go i H∧∀ x H',(Itl K a).yld i H x H'→g x σ H' fun σ2 H2=>ts σ2 H2 fun b H3=>if b=true then te σ2 H3 fun y H4=>∃ xs,H4 D=some (.lst xs)∧xs.length < sizeLine∧∃ m',m' < m∧W (i+1) m' σ2 (upd H4 D (.lst (xs++[y]))) else ∃ m',m' < m∧W (i+1) m' σ2 H3):=by
 refine ⟨fun i m σ H=>i+m=xs.length∧Pv i σ H,⟨xs.length,by omega,h0⟩,fun i m σ H zq0=>?_⟩;obtain ⟨e,pv⟩:=zq0;have hS:=hl i σ H (by omega) pv;by_cases hi:i < xs.length
 ·refine .inr ⟨⟨xs,xs[i],hS,yac hi⟩,fun x H' y=>?_⟩;obtain ⟨e1,y⟩:=y;subst e1;exact hs i m x σ _ (y xs hS) e pv
 ·have:i=xs.length:=by omega
  subst this;exact .inl ⟨⟨xs,hS,yaa _⟩,hd σ H pv⟩
theorem zc9 {lo:Int}{n:Nat}{D:Addr}{g:TG}{ts:TT}{te:TE}{σ:St}{H:Hp}{Q:Hp→Prop}(Pv:Nat→St→Hp→Prop)(h0:Pv 0 σ H)
  (hs:∀ i m σ H,i+m=n→i < n→Pv i σ H→g (.int (lo+i)) σ H fun σ2 H2=>ts σ2 H2 fun b H3=>if b=true then te σ2 H3 fun y H4=>∃ zs,H4 D=some (.lst zs)∧zs.length < sizeLine∧∃ m',m' < m∧(i+1+m'=n∧Pv (i+1) σ2 (upd H4 D (.lst (zs++[y])))) else ∃ m',m' < m∧(i+1+m'=n∧Pv (i+1) σ2 H3))
  (hd:∀ σ H,Pv n σ H→Q H) :
  ∃ W:Nat→Nat→St→Hp→Prop,(∃ m,W 0 m σ H)∧∀ i m σ H,W i m σ H→((Itr lo n).stop i H∧Q H)∨((Itr lo n).go i H∧∀ x H',(Itr lo n).yld i H x H'→g x σ H' fun σ2 H2=>ts σ2 H2 fun b H3=>if b=true then te σ2 H3 fun y H4=>∃ xs,H4 D=some (.lst xs)∧xs.length < sizeLine∧∃ m',m' < m∧W (i+1) m' σ2 (upd H4 D (.lst (xs++[y]))) else ∃ m',m' < m∧W (i+1) m' σ2 H3):=by
 refine ⟨fun i m σ H=>i+m=n∧Pv i σ H,⟨n,by omega,h0⟩,fun i m σ H zq0=>?_⟩;obtain ⟨e,pv⟩:=zq0;by_cases hi:i < n
 ·refine .inr ⟨hi,fun x H' y=>?_⟩;obtain ⟨e1,y⟩:=y;subst e1 y;exact hs i m σ _ e hi pv
 ·have:i=n:=by omega
  subst this;exact .inl ⟨yaa _,hd σ H pv⟩
end L2
namespace L2
open PySem PySem.Spec PyProof.Rows
def metI (ns:List Int):List Int:=firstMet (fun i=>ns.getD i 0) ns.length
theorem zln:∀ ns:List Int,(List.range ns.length).map (fun i=>ns.getD i 0)=ns:=fun ns=>by
 apply yba;intro i;rw[yar];by_cases h:i < ns.length
 ·rw[yck h,Option.map_some,yae,yac h];rfl
 ·rw[yaP (by rw[ybb];omega),yaP (by omega)];rfl
theorem zgz:∀(ns σ:List Int),(σ++ns).Nodup→ns.foldl step_dedup σ=σ++ns
 | [],σ,_=>by simp
 | n::ns,σ,h=>by
  have hn:¬ (σ.any (· == n))=true:=fun z=>by
   obtain ⟨x,hx,e⟩:=List.any_eq_true.mp z;have e:=eq_of_beq e;subst e;rw[ybc]at h;exact h.2.2 x hx x yaD rfl
  rw[List.foldl_cons];have e:step_dedup σ n=σ++[n]:=by
   unfold step_dedup;rw[if_neg hn]
  rw[e,zgz ns (σ++[n]) (by rw[yaM];exact h),yaM];rfl
theorem zha {ns:List Int}(h:ns.Nodup):metI ns=ns:=by
 unfold metI firstMet;rw[zln];exact zgz ns [] h
theorem zcL:∀{ns:List Int} {us:List Value},Vals (ns.map V.int) us→IntsAre us ns
 | [],_,.nil=>.nil
 | n::_,_,.cons ⟨t,e⟩ q=>by
  subst e;exact .cons n t (zcL q)
section
variable {X:Cx}
theorem zlQ:zdA X (.builtin "len") (fun xs H Q=>∃ p S n,xs=[.ref p]∧H p=some (.set S n)∧n≤1000∧Q (.int (n:Nat)) H):=by
 intro pins s σ H xs us Q I r h;obtain ⟨p,S,n,rfl,hp,hn,q⟩:=h;obtain ⟨u,rfl,rx⟩:=zgb r;cases rx
 have ok:s.heap.SetOf (intKind X.prog X.w) p S n:=I.hok p _ hp;obtain ⟨o,ho,hex,es,ep,t,hd,_,_,hm,hf⟩:=ok.objOf;subst hm;exact call_len_set ho hex hd hf (by omega) ⟨.int _,H,I.tok _,⟨_,rfl⟩,q⟩
end
end L2
namespace L2
open PySem PySem.Spec PyProof.Rows
theorem ziX:kitO "tuple" "tuple" = some true:=by decide +kernel
end L2
namespace L2
theorem zdz {i:Nat}{x:V}{σ:St}{H:Hp}{A B:St→Hp→Prop}(h:A (σ.set i (some x)) H):zib i x σ H fun σ2 H2=>tYes σ2 H2 fun b H3=>if b=true then A σ2 H3 else B σ2 H3:=by
 show (if true=true then A (σ.set i (some x)) H else B (σ.set i (some x)) H)
 rw[if_pos rfl];exact h
end L2
namespace L2
open PySem PySem.Spec PyProof.Rows
section
variable {X:Cx}
theorem znK (hc:X.calm=true):zdA X (.builtin "sum") (fun xs H Q=>∃(p:Addr) (ns:List Int),xs=[.ref p]∧SqL X.K H p (ns.map V.int)∧Q (.int ns.sum) H):=by
 intro pins s σ H xs us Q I r h;obtain ⟨p,ns,rfl,hq,q⟩:=h;obtain ⟨u,rfl,rx⟩:=zgb r;cases rx
 obtain ⟨its,rv,pl,_⟩:=I.list hq;have hi:=zcL rv;obtain ⟨xs,hx⟩:=hi.allInts.items;have hl':s.heap.IsList p (intItems xs):=hx ▸ pl.isList;refine sum_intListG (I.ok.hd hc) hl' fun h' tk t' hk=>?_;have e1:ns=xs.toList.map (·.1):=by
  rw[← nums_intItems,← hx];exact (show numsOf its.toArray.toList=ns from hi.numsOf).symm
 have e2:preSum (numAt xs) xs.size=ns.sum:=by
  rw[preSum_eq,yas (by simp),e1]
 rw[e2];exact ⟨.int _,H,Inv.kept (t':=tk) I hk,⟨t',rfl⟩,q⟩
end
end L2
namespace L2
open PySem PySem.Spec PyProof.Rows
section
variable {X:Cx}{K:Frag}
theorem zif (h:X.K=K:=by rfl):zdA X (.builtin "len") (fun xs H Q=>∃ p ys,xs=[.ref p]∧(SqL K H p ys∨SqT K H p ys)∧Q (.int ys.length) H):=by
 subst h;exact zan
theorem zjd (h:X.K=K:=by rfl):zdA X (.builtin "isinstance") (rIsi K):=by
 subst h;exact zbY
theorem zoT (h:X.K=K:=by rfl):IxR X (rIxL K):=by
 subst h;exact zaI
theorem zjU (h:X.K=K:=by rfl):IxR X (rIxT K):=by
 subst h;exact zaO
end
end L2
namespace L2
open PySem PySem.Spec PyProof.Rows
theorem zga {c:TT}{tb:TS}{D:Ends}{σ:St}{H:Hp}(Pv Pe:St→Hp→Prop)(μ:St→Hp→Nat)(h0:Pv σ H)
  (hs:∀ σ H,Pv σ H→c σ H fun b H1=>if b=true then tb { D with nx:=fun σ' H'=>Pv σ' H'∧μ σ' H' < μ σ H,ct:=fun σ' H'=>Pv σ' H'∧μ σ' H' < μ σ H,bk:=D.nx } σ H1 else Pe σ H1)
  (mono:∀ σ H Q Q',(∀ b H1,Q b H1→Q' b H1)→c σ H Q→c σ H Q') (he:∀ σ H,Pe σ H→D.nx σ H):zme c tb D σ H:=by
 refine zkh Pv μ h0 (fun σ H p=>mono σ H _ _ (fun b H1 q=>?_) (hs σ H p)) mono;cases b with
 | true=>exact q
 | false=>exact he _ _ q
def zrc (c:TT):Prop:=∀ σ H Q Q',(∀ b H1,Q b H1→Q' b H1)→c σ H Q→c σ H Q'
theorem ziy {a b:TT}(ha:zrc a)(hb:zrc b):zrc (tAnd a b):=fun σ H Q Q' m h=>ha σ H _ _ (fun c H1 q=>by
 cases c with
 | false=>exact m _ _ q
 | true=>exact hb σ H1 Q Q' m q) h
section
variable {X:Cx}{K:Frag}
theorem zeX (h:X.K=K:=by rfl):OpR X (compareOp .NotIn) (rIn K true):=by
 subst h;exact zcc
theorem zqc {es:List Expr}{k:Nat}{t:TGs}{n:Nat}{pos:Pos}(hc:X.calm=true)(h:PGs X es t)(hK:X.K=K:=by rfl)
  (hn:(assignEach es X.env).length=n:=by rfl) (hst:(assignEach es X.env).findIdx? (·.1)=none:=by rfl):PG X (.Tuple es k pos) (gTup K n t):=by
 subst hK;exact zg3 hc h hn hst
end
theorem zo9 {K:Frag}{a b D:Addr}{xs ys:List V}{g:TG}{ts:TT}{te:TE}{σ:St}{H:Hp}{Q:Hp→Prop}(hlen:xs.length=ys.length)(Pv:Nat→St→Hp→Prop)(h0:Pv 0 σ H)(hl:∀ i σ H,i≤xs.length→Pv i σ H→SqL K H a xs∧SqL K H b ys)
  (hs:∀ i m x y σ H r,xs[i]?=some x→ys[i]?=some y→i+m=xs.length→Pv i σ H→H r=none→g (.ref r) σ (upd H r (.tup [x,y])) fun σ2 H2=>ts σ2 H2 fun b H3=>if b=true then te σ2 H3 fun y H4=>∃ zs,H4 D=some (.lst zs)∧zs.length < sizeLine∧∃ m',m' < m∧(i+1+m'=xs.length∧Pv (i+1) σ2 (upd H4 D (.lst (zs++[y])))) else ∃ m',m' < m∧(i+1+m'=xs.length∧Pv (i+1) σ2 H3))
  (hd:∀ σ H,Pv xs.length σ H→Q H) :
  ∃ W:Nat→Nat→St→Hp→Prop,(∃ m,W 0 m σ H)∧∀ i m σ H,W i m σ H→((Itz K a b).stop i H∧Q H)∨((Itz K a b).go i H∧∀ x H',(Itz K a b).yld i H x H'→g x σ H' fun σ2 H2=>ts σ2 H2 fun b H3=>if b=true then te σ2 H3 fun y H4=>∃ xs,H4 D=some (.lst xs)∧xs.length < sizeLine∧∃ m',m' < m∧W (i+1) m' σ2 (upd H4 D (.lst (xs++[y]))) else ∃ m',m' < m∧W (i+1) m' σ2 H3):=by
 refine ⟨fun i m σ H=>i+m=xs.length∧Pv i σ H,⟨xs.length,by omega,h0⟩,fun i m σ H zq0=>?_⟩;obtain ⟨e,pv⟩:=zq0;obtain ⟨hS,hS'⟩:=hl i σ H (by omega) pv;by_cases hi:i < xs.length
 ·refine .inr ⟨⟨xs,ys,xs[i],ys[i]'(by omega),hS,hS',yac hi,yac (by omega)⟩,fun x H' y=>?_⟩;obtain ⟨p,z,z',rfl,hp,hz,hz',rfl⟩:=y;exact hs i m z z' σ H p (hz xs hS) (hz' ys hS') e pv hp
 ·have:i=xs.length:=by omega
  subst this;exact .inl ⟨⟨xs,ys,hS,hS',.inl (yaa _)⟩,hd σ H pv⟩
end L2
namespace L2
open PySem PySem.Spec PyProof.Rows
section
variable {X:Cx}
theorem znM (hc:X.calm=true):zdA X (.builtin "min") (fun xs H Q=>∃(p:Addr) (ns:List Int),xs=[.ref p]∧SqL X.K H p (ns.map V.int)∧0 < ns.length∧∀ M,M∈ns→(∀ a,a∈ns→M≤a)→Q (.int M) H):=by
 intro pins s σ H xs us Q I r h;obtain ⟨p,ns,rfl,hq,hne,q⟩:=h;obtain ⟨u,rfl,rx⟩:=zgb r;cases rx
 obtain ⟨its,rv,pl,_⟩:=I.list hq;have hi:=zcL rv;obtain ⟨xs,hx⟩:=hi.allInts.items;have hl':s.heap.IsList p (intItems xs):=hx ▸ pl.isList;have e1:ns=xs.toList.map (·.1):=by
  rw[← nums_intItems,← hx];exact (show numsOf its.toArray.toList=ns from hi.numsOf).symm
 have hsz:0 < xs.size:=by
  rw[e1,yab,yax]at hne;exact hne
 refine min_intList (I.ok.hd hc) hl' hsz fun v h' tk hv hk=>?_;obtain ⟨t,rfl⟩:=intItems_at hv;obtain ⟨h1,h2⟩:=argBest_lt (numAt xs) (xs.size - 1);refine ⟨.int _,H,Inv.kept (t':=tk) I hk,⟨t,rfl⟩,q _ ?_ fun a ha=>?_⟩
 ·rw[e1,numAt_eq];rw[yae,yac (by rw[yab,yax];omega)];exact yaN _
 ·rw[e1]at ha;obtain ⟨j,hj,rfl⟩:=mem_getD ha;rw[yab,yax]at hj;rw[← numAt_eq];exact h2 j (by omega)
end
theorem zdv {K:Frag}{a D:Addr}{xs:List V}{g:TG}{ts:TT}{te:TE}{σ:St}{H:Hp}{Q:Hp→Prop}(Pv:Nat→St→Hp→Prop)(h0:Pv 0 σ H)(hl:∀ i σ H,i≤xs.length→Pv i σ H→SqT K H a xs)
  (hs:∀ i m x σ H,xs[i]?=some x→i+m=xs.length→Pv i σ H→g x σ H fun σ2 H2=>ts σ2 H2 fun b H3=>if b=true then te σ2 H3 fun y H4=>∃ zs,H4 D=some (.lst zs)∧zs.length < sizeLine∧∃ m',m' < m∧(i+1+m'=xs.length∧Pv (i+1) σ2 (upd H4 D (.lst (zs++[y])))) else ∃ m',m' < m∧(i+1+m'=xs.length∧Pv (i+1) σ2 H3))
  (hd:∀ σ H,Pv xs.length σ H→Q H) :
  ∃ W:Nat→Nat→St→Hp→Prop,(∃ m,W 0 m σ H)∧∀ i m σ H,W i m σ H→((Itt K a).stop i H∧Q H)∨((Itt K a).go i H∧∀ x H',(Itt K a).yld i H x H'→g x σ H' fun σ2 H2=>ts σ2 H2 fun b H3=>if b=true then te σ2 H3 fun y H4=>∃ xs,H4 D=some (.lst xs)∧xs.length < sizeLine∧∃ m',m' < m∧W (i+1) m' σ2 (upd H4 D (.lst (xs++[y]))) else ∃ m',m' < m∧W (i+1) m' σ2 H3):=by
 refine ⟨fun i m σ H=>i+m=xs.length∧Pv i σ H,⟨xs.length,by omega,h0⟩,fun i m σ H zq0=>?_⟩;obtain ⟨e,pv⟩:=zq0;have hS:=hl i σ H (by omega) pv;by_cases hi:i < xs.length
 ·refine .inr ⟨⟨xs,xs[i],hS,yac hi⟩,fun x H' y=>?_⟩;obtain ⟨e1,y⟩:=y;subst e1;exact hs i m x σ _ (y xs hS) e pv
 ·have:i=xs.length:=by omega
  subst this;exact .inl ⟨⟨xs,hS,yaa _⟩,hd σ H pv⟩
end L2
namespace L2
open PySem PySem.Spec PyProof.Rows
def Itv (K:Frag)(a:Addr)(n:Nat):It:=
 ⟨fun i H=>i < n∧∃ xs,SqL K H a xs∧xs.length=n,fun i H x H'=>H'=H∧∀ xs,SqL K H a xs→xs.length=n→xs.reverse[i]?=some x,fun i _=>i=n⟩
theorem zn1 {P:Program}{w:World}{K:Frag}{tg:Expr}(a it:Addr)(n:Nat):Turn P w K tg (Itv K a n) [it] it (fun i h=>h.IsRevIter it a ((n:Int) - 1 - (i:Int))) where
 mem:=by simp
 obj:=fun i h st b hb=>by
  have e:b=it:=by simpa using hb
  subst e;obtain ⟨o,e,c,d⟩:=st;exact ⟨o,e,fun v z=>by rw[d]at z;cases z⟩
 keep:=fun i h h' st k=>st.at fun o e=>k it (by simp) o e
 item:=by
  intro X hP hw hK hc i pins s σ H E I hf st hg;subst hP hw hK;obtain ⟨hi,xs,hq,hn⟩:=hg;obtain ⟨its,rv,p,hz⟩:=I.list hq;have hx:xs[n - 1 - i]?=some (xs[n - 1 - i]'(by omega)):=yac (by omega);obtain ⟨u,hu,ru⟩:=rv.get hx;obtain ⟨f0,f1,f2,f3,f4,f5⟩:=hf it (by simp);have e1:(n:Int) - 1 - (i:Int)=((n - 1 - i:Nat):Int):=by omega
  rw[e1]at st;refine wpAny_pyNext_rev_item st p.isList (x:=u) (by simpa using hu) fun h' st' sb=>?_;have e2:((n - 1 - i:Nat):Int) - 1=(n:Int) - 1 - ((i+1:Nat):Int):=by omega
  rw[e2]at st';have I1:Inv X pins σ H { s with heap:=h' }:=I.turned (t':=s.toks) (fun b o hb e=>(sb.2 b hb).trans e) f0 f1 f3 f4 f5;obtain ⟨o,e,c,d⟩:=id st';refine ⟨u,rfl,znt (s:={ s with heap:=h' }) e c d (by decide) ⟨xs[n - 1 - i]'(by omega),H,I1,ru,⟨rfl,fun ys hy hyn=>?_⟩,st',fun b hb=>(hf b hb).1⟩⟩;rw[I.list_inj hy hq,ycA (by omega),show xs.length - 1 - i=n - 1 - i by omega];exact hx
 done:=by
  intro X hP hw hK hc i pins s σ H E I hf st hg;subst hP hw hK;have hi:i=n:=hg;subst hi;obtain ⟨f0,f1,f2,f3,f4,f5⟩:=hf it (by simp);have e1:(i:Int) - 1 - (i:Int) = -1:=by omega
  rw[e1]at st;exact wpAny_pyNext_rev_end (I.ok.hd hc) st fun h' eb=>⟨rfl,I.turned (t':=s.toks) (fun b o hb e=>eb b o hb e) f0 f1 f3 f4 f5⟩
 self:=fun _ _ _ _ _ st h=>wpAny_pyIter_revIter st h
def iRev (K:Frag)(ta:TA):TI:=fun σ H R=>ta σ H fun vs H1=>∃ a xs,vs=[.ref a]∧SqL K H1 a xs∧R (Itv K a xs.length) H1
section
variable {X:Cx}
theorem zjC {tg:Expr}{a:Expr}{ta:TA}{p pos:Pos}(hg:Gl X "reversed")(hm:X.mg "reversed" = none)(ha:PA X [a] ta)(hs:starEach [a] X.env=[(false,eval a X.env)]:=by rfl):PI X tg (.Call (.Name "reversed" p) [a] [] pos) (iRev X.K ta):=by
 intro pins s σ H R I h;refine Call_ (ze1 I hg hm boot_reversed (PyProof.Rows.callWith_type1 (thn (ha pos pins s σ H _ I h) fun us s1 zq0=>?_) hs rfl));obtain ⟨vs,H1,I1,r1,q1⟩:=zq0;obtain ⟨l,xs,e,hq,q⟩:=q1;subst e;cases r1 with
 | cons r rr=>
  cases rr
  cases r
  obtain ⟨its,rv,pl,hz⟩:=I1.list hq;have hl:=rv.length;refine call_reversed_list pl.isList ?_;have I2:Inv X pins σ H1 { s1 with heap:=s1.heap.push (revObj l ((its.toArray.size:Int) - 1)) }:=I1.kept (t':=s1.toks) fun b o e=>yai _ e;have hr:(s1.heap.push (revObj l ((its.toArray.size:Int) - 1))).IsRevIter s1.heap.objs.size l (((xs.length:Nat):Int) - 1 - ((0:Nat):Int)):=by
   refine ⟨_,yaB _ rfl,rfl,?_⟩;have:(its.toArray.size:Int) - 1=((xs.length:Nat):Int) - 1 - ((0:Nat):Int):=by
    rw[yav,hl];omega
   rw[this];rfl
  refine wpAny_pyIter_revIter (s:={ s1 with heap:=s1.heap.push (revObj l ((its.toArray.size:Int) - 1)) }) hr ⟨_,[s1.heap.objs.size],_,_,H1,rfl,I2,zn1 l s1.heap.objs.size xs.length,hr,fun b hb=>?_,q⟩;have e:b=s1.heap.objs.size:=by simpa using hb
  subst e;exact I1.fpOk (yaa _) (I1.hok.fresh (yaa _))
end
theorem zqR {K:Frag}{a:Addr}{xs:List V}{g:TG}{tb:TS}{D:Ends}{σ:St}{H:Hp}(Pv:Nat→St→Hp→Prop)(h0:Pv 0 σ H)(hl:∀ i σ H,i≤xs.length→Pv i σ H→SqL K H a xs)
  (hs:∀ i x σ H,xs.reverse[i]?=some x→Pv i σ H→g x σ H fun σ2 H2=>tb { D with nx:=Pv (i+1),ct:=Pv (i+1),bk:=D.nx } σ2 H2) (hd:∀ σ H,Pv xs.length σ H→D.nx σ H) :
  ∃ W:Nat→Nat→St→Hp→Prop,(∃ m,W 0 m σ H)∧∀ i m σ H,W i m σ H→((Itv K a xs.length).stop i H∧D.nx σ H)∨((Itv K a xs.length).go i H∧∃ N:St→Hp→Prop,(∀ σ' H',N σ' H'→∃ m',m' < m∧W (i+1) m' σ' H')∧∀ x H',(Itv K a xs.length).yld i H x H'→g x σ H' fun σ2 H2=>tb { D with nx:=N,ct:=N,bk:=D.nx } σ2 H2):=by
 refine ⟨fun i m σ H=>i+m=xs.length∧Pv i σ H,⟨xs.length,by omega,h0⟩,fun i m σ H zq0=>?_⟩;obtain ⟨e,pv⟩:=zq0;have hS:=hl i σ H (by omega) pv;by_cases hi:i < xs.length
 ·refine .inr ⟨⟨hi,xs,hS,rfl⟩,Pv (i+1),fun σ' H' q=>⟨m - 1,by omega,by omega,q⟩,fun x H' y=>?_⟩;obtain ⟨e1,y⟩:=y;subst e1;exact hs i x σ _ (y xs hS rfl) pv
 ·have:i=xs.length:=by omega
  subst this;exact .inl ⟨rfl,hd σ H pv⟩
end L2
namespace L2
open PySem PySem.Spec PyProof.Rows
theorem zmA {P:Program}{w:World}{k:Key}{u:Value}(h:(zbc P w).is k u=true):RelV (kV k) u:=by
 rw[zlB]at h;rcases za1 h with ⟨i,t,rfl,rfl⟩ | ⟨x,t,rfl,rfl⟩
 ·exact ⟨t,rfl⟩
 ·exact ⟨t,rfl⟩
section
variable {X:Cx}
theorem zlP (hc:X.calm=true):zdA X (.type "list") (fun xs H Q=>∃(p:Addr) (kvs:List (Key×V)),xs=[.ref p]∧H p=some (.dK kvs)∧∀ l,H l=none→Q (.ref l) (upd H l (.lst (kvs.map fun kv=>kV kv.1)))):=by
 intro pins s σ H xs us Q I r h;obtain ⟨p,kvs,rfl,hq,q⟩:=h;obtain ⟨u,rfl,rx⟩:=zgb r;cases rx
 obtain ⟨hz,hne,vs,rel,o,es,ep,h1,h2,h3,h4,h5,h6⟩:=zqW I.hok hq;have hlen:kvs.length=vs.length:=rel.length;refine PySem.W.kdl_call (PySem.W.kdl_dict (knd:=zbc X.prog X.w) (kvs:=vs) (ep:=ep) hne) (I.ok.hd hc) ⟨o,es,h1,h2,h3,h4,h5,h6⟩ (by omega) fun h' tk acc c k e hi=>?_;have hv:Vals (kvs.map fun kv=>kV kv.1) acc.toList:=by
  obtain ⟨g1,g2⟩:=hi;have key:∀(m:Nat) (kvs:List (Key×V)) (vs:List (Key×Value)) (us:List Value),KV kvs vs→us.length=vs.length→(∀(i:Nat) (v:Value),us[i]?=some v→∃ k x,vs[i]?=some (k,x)∧(zbc X.prog X.w).is k v=true)→Vals (kvs.map fun kv=>kV kv.1) us:=by
   intro m kvs
   induction kvs with
   | nil=>
    intro vs us r hl _;cases r
    have:us=[]:=ycB hl;subst this;exact .nil
   | cons kv kvs ih=>
    intro vs us r hl hh;cases r with
    | cons a b=>
     cases us with
     | nil=>cases hl
     | cons v us=>
      refine .cons ?_ (ih _ us b (Nat.succ.inj hl) fun i v e=>?_)
      ·obtain ⟨k,x,e1,e2⟩:=hh 0 v rfl;cases e1
       have h9:=zmA e2;have a1:kv.1=k:=a.1;rw[← a1]at h9;exact h9
      ·have:=hh (i+1) v (by simpa using e);simpa using this
  refine key 0 kvs vs acc.toList rel (by rw[yax];exact g1) fun i v e=>?_;exact g2 i v (by rw[← ya2];exact e)
 refine ⟨.ref s.heap.objs.size,_,I.laid (a:=s.heap.objs.size) (o:=.lst (kvs.map fun kv=>kV kv.1)) (t':=tk) k (yaa _) ⟨?_,acc.toList,c,hv,by rw[Array.toArray_toList];exact e⟩,rfl,q _ (I.hok.fresh (yaa _))⟩;rw[yab];omega
end
end L2
namespace L2
open PySem PySem.Spec PyProof.Rows
def iSeq (K:Frag)(tl:TE):TI:=fun σ H R=>tl σ H fun x H1=>∃ a,x=.ref a∧((∃ xs,SqL K H1 a xs)∧R (Itl K a) H1∨(∃ xs,SqT K H1 a xs)∧R (Itt K a) H1)
section
variable {X:Cx}{tg:Expr}
theorem zrD {l:Expr}{tl:TE}(hl:PE X l tl):PI X tg l (iSeq X.K tl):=by
 intro pins s σ H R I h;refine thn (hl pins s σ H _ I h) fun v s1 zq0=>?_;obtain ⟨x,H1,I1,r1,a,e,q1⟩:=zq0;subst e;cases r1
 have new:∀ b∈[s1.heap.objs.size],FpOk X pins H1 b:=fun b hb=>by
  rw[yal.mp hb];exact I1.fpOk (yaa _) (I1.hok.fresh (yaa _))
 rcases q1 with ⟨⟨xs,hq⟩,q⟩ | ⟨⟨xs,hq⟩,q⟩
 ·obtain ⟨its,rv,p,hz⟩:=I1.list hq;exact wpAny_pyIter_list p.isList ⟨s1.heap.objs.size,[s1.heap.objs.size],_,_,H1,rfl,Inv.kept (t':=s1.toks) I1 (fun b o e=>yai _ e),zir a _,⟨_,yaB _ rfl,rfl,rfl⟩,new,q⟩
 ·obtain ⟨its,rv,p,hz⟩:=I1.tuple hq;exact wpAny_pyIter_tuple (show s1.heap.IsTuple a its.toArray from p) ⟨s1.heap.objs.size,[s1.heap.objs.size],_,_,H1,rfl,Inv.kept (t':=s1.toks) I1 (fun b o e=>yai _ e),zgU a _,⟨_,yaB _ rfl,rfl,rfl⟩,new,q⟩
end
section
variable {prog:Program}{w:World}{A:Around}{E:Value→Shared→Prop}{s:Shared}
theorem zj3 {l:Addr}{vs:List Value}{Q:List Value→Shared→Prop}(hl:s.heap.IsTuple l vs.toArray)
  (h:Q vs { s with heap:=(s.heap.push (seqObj "list" #[] 0)).update s.heap.objs.size (Obj.mapSeq (· ++ vs.toArray)) }) (hsz:vs.length≤sizeLine):wpAny (model prog w) A (collect (.ref l)) Q E s:=by
 obtain ⟨o,ho,hc,n,hd⟩:=id hl;unfold collect;refine wpAny_bind (wpAny_runValue (codeAny_builtin entry_proto_collect' ?_));show wpAny _ _ (do again (.builtin "list.__iadd__" ⟨[← newList [],.ref l],[]⟩)) _ _ s
 refine wpAny_bind (wpAny_newList (wpAny_pure ⟨Code.quiet_builtin _ (by decide +kernel),codeAny_builtin entry_list_iadd' ?_⟩));show wpAny _ _ (Builtin.List.listExtendWith (.ref s.heap.objs.size) (.ref l) (.ref s.heap.objs.size)) _ _ { s with heap:=s.heap.push (seqObj "list" #[] 0) };unfold Builtin.List.listExtendWith;have there:(s.heap.push (seqObj "list" #[] 0)).get? l=some o:=yai _ ho;refine wpAny_bind (wpAny_typeOf (T := "tuple") ⟨o,there,hc⟩ ?_);have ht:(Value.type "tuple" == Value.type "tuple")=true:=rfl;rw[if_pos (by rw[ht,Bool.or_true])];refine wpAny_bind (listItems_at there hd ?_);refine wpAny_bind (listItems_at (xs:=#[]) (n:=0) (yaB _ rfl) rfl ?_);rw[if_neg (by simp)];have fits:(#[]++vs.toArray).size≤sizeLine+1:=by
  simp only[Array.size_append,yav,yby];omega
 refine wpAny_bind (listUpdate_at (xs:=#[]) (n:=0) (yaB _ rfl) rfl ?_ (yaC _) fits);refine wpAny_pure ?_;show wpAny (model prog w) A (load s.heap.objs.size >>= fun o=>match o.data with | .seq xs _=>pure xs.toList | _=>unsupported "internal:collect") Q E { s with heap:=(s.heap.push (seqObj "list" #[] 0)).update s.heap.objs.size (Obj.mapSeq (· ++ vs.toArray)) }
 refine wpAny_bind (wpAny_load (get?_update_seq (yaB _ rfl) _) ?_);show wpAny _ _ (pure ((#[]:Array Value)++vs.toArray).toList) Q E _;have e0:((#[]:Array Value)++vs.toArray).toList=vs:=by simp
 rw[e0];exact wpAny_pure h
end
end L2
namespace Tim
open PySem PyProof.Rows
section
variable {prog:Program}{w:World}{A:Around}{E:Value→Shared→Prop}{s:Shared}{κ:KeyKind}{kd:SortKind}
theorem zn8 {l:Addr}{vs:List Value}{Q:Value→Shared→Prop}(hl:s.heap.IsTuple l vs.toArray)(hz:vs.length≤sizeLine)(keys:∀ v∈vs,∃ k,κ.keyOf v=some k)
  (hlt:∀ h',(∀ b o,s.heap.get? b=some o→h'.get? b=some o)→LtG prog w A.in1.in1 { s with heap:=h' } κ kd)
  (hkd:∀(h':Heap) (E:Value→Shared→Prop) (Q:SortKind→Shared→Prop),(∀ b o,s.heap.get? b=some o→h'.get? b=some o)→2≤vs.length→Q kd { s with heap:=h' }→wpAny (model prog w) A.in1.in1 (keyKind' vs.toArray) Q E { s with heap:=h' })
  (h:∀(out:List Value) (h':Heap) (c:Nat),out.Perm vs→out.Pairwise (fun x y=>κ.kle (keyV κ x) (keyV κ y))→(∀ b o,s.heap.get? b=some o→h'.get? b=some o)→
   h'.get? (s.heap.objs.size+1)=some (seqObj "list" out.toArray c)→Q (.ref (s.heap.objs.size+1)) { s with heap:=h' }) :
  wpAny (model prog w) A (call (.builtin "sorted") [.ref l]) Q E s:=by
 refine Calls.call_function_entry kind_sorted plain_sorted entry_sorted (args_sorted1 _) ?_;unfold Builtin.«sorted»;refine wpAny_bind (m:=checkCount "sorted" 1 1 _) (wpAny_pure ?_);refine wpAny_bind (L2.zj3 hl ?_ hz);refine wpAny_bind (wpAny_newList ?_ (by simpa using hz));have z1:((s.heap.push (seqObj "list" #[] 0)).update s.heap.objs.size (Obj.mapSeq (· ++ vs.toArray))).objs.size=s.heap.objs.size+1:=by
  rw[Heap.size_update,size_push']
 have hn:(((s.heap.push (seqObj "list" #[] 0)).update s.heap.objs.size (Obj.mapSeq (· ++ vs.toArray))).push (seqObj "list" vs.toArray 0)).get? (s.heap.objs.size+1)=some (seqObj "list" vs.toArray 0):=by
  rw[← z1];exact yaB _ rfl
 have hk:∀ b o,s.heap.get? b=some o→(((s.heap.push (seqObj "list" #[] 0)).update s.heap.objs.size (Obj.mapSeq (· ++ vs.toArray))).push (seqObj "list" vs.toArray 0)).get? b=some o:=fun b o e=>
  yai _ ((ybx _ _ (ybo (yaf e))).trans (yai _ e))
 show wpAny _ _ _ _ _ { s with heap:=((s.heap.push (seqObj "list" #[] 0)).update s.heap.objs.size (Obj.mapSeq (· ++ vs.toArray))).push (seqObj "list" vs.toArray 0) };rw[z1];generalize ((s.heap.push (seqObj "list" #[] 0)).update s.heap.objs.size (Obj.mapSeq (· ++ vs.toArray))).push (seqObj "list" vs.toArray 0)=h1 at hn hk ⊢;have up:∀ h',zfB (s.heap.objs.size+1) h1 h'→∀ b o,s.heap.get? b=some o→h'.get? b=some o:=fun h' kb b o e=>kb b o (fun z=>by
  have:=yaf e;rw[z]at this;exact absurd this (ybB.mpr (yaV _))) (hk b o e)
 refine wpAny_bind (wpAny_holding (wpAny_call_entry slot_list_sort ⟨_,hn,rfl⟩ entry_list_sort (zpx (s:={ s with heap:=h1 }) hn hz keys (fun h' kb=>hlt h' (up h' kb)) (fun h' E Q kb h2 q=>hkd h' E Q (up h' kb) h2 q) fun out p1 p2=>⟨_,rfl,?_⟩) (args_list_sort _)));obtain ⟨kb,c,hc⟩:=zgs (out:=out) hn;exact wpAny_pure ⟨_,rfl,h out _ c p1 p2 (up _ kb) hc⟩
end
end Tim
namespace L2
open PySem PySem.Spec PyProof.Rows
section
variable {X:Cx}
def zrx (α:Type)[Rep α][Srt α](K:Frag):List V→Hp→VK→Prop:=fun xs H Q=>∃(p:Addr) (vs:List V) (as:List α),xs=[.ref p]∧SqT K H p vs∧zal K H as vs∧
 ∀ l ws,H l=none→zal K H (zcJ as) ws→Q (.ref l) (upd H l (.lst ws))
theorem zhp (α:Type)[Rep α][Srt α]:zdA X (.builtin "sorted") (zrx α X.K):=by
 intro pins s σ H xs us Q I r h;obtain ⟨p,vs,as,rfl,hq,ha,q⟩:=h;obtain ⟨u,rfl,rx⟩:=zgb r;cases rx
 obtain ⟨its,rv,pl,hz⟩:=I.tuple hq;have hlen:=rv.length;obtain ⟨km,kk⟩:=zjQ I ha rv;refine Tim.zn8 (κ:=srtKind α X.K H) (kd:=Srt.kd α) (show s.heap.IsTuple p its.toArray from pl) (by omega) (fun v hv=>?_) (fun h' k E x y a b Q hx hy q=>?_) (fun h' E Q k h2 q=>Srt.kind (Inv.kept (t':=s.toks) I k) ha rv h2 q) fun out h' c p1 p2 k hc=>?_
 ·obtain ⟨a,_,_,_,e⟩:=kk v hv;exact ⟨a,e⟩
 ·obtain ⟨x1,r1,e1⟩:=zef hx;obtain ⟨y1,r2,e2⟩:=zef hy;exact Srt.lt (Inv.kept (t':=s.toks) I k) e1 e2 r1 r2 q
 ·obtain ⟨ws,bs,w1,w2,w3⟩:=zgp (α:=α) (K:=X.K) (H:=H) (out:=out) fun v hv=>kk v (p1.mem_iff.mp hv);have eb:bs=zcJ as:=by
   refine zez ?_ ?_
   ·rw[w3,← km];exact p1.map _
   ·rw[w3];exact ybL.mpr p2
  rw[eb]at w2;have hw:ws.length≤sizeLine:=by
   have:=w1.length;have:=p1.length_eq;omega
  exact ⟨.ref (s.heap.objs.size+1),_,I.laid (a:=s.heap.objs.size+1) (o:=.lst ws) (t':=s.toks) k (yaV _) ⟨hw,out,c,w1,hc⟩,rfl,q _ ws (I.hok.fresh (yaV _)) w2⟩
end
section
variable {prog:Program}{w:World}{A:Around}{E:Value→Shared→Prop}{s:Shared}
theorem zjt:isSubtype (.type "tuple") (.type "set")=pure false:=by rw[isSubtype_type];kernel_rfl
theorem zgQ:isSubtype (.type "tuple") (.type "frozenset")=pure false:=by rw[isSubtype_type];kernel_rfl
abbrev zhZ (led:Bool):Obj:={ cls:=.type "set",dict:=none,data:=.set #[] 0 (.fresh 0 0 led) }
set_option maxRecDepth 100000 in
set_option maxHeartbeats 3200000 in
theorem zlk {l:Addr}{items:Array Value}{ns:List Int}{Q:Value→Shared→Prop}(hh:A.handled=none)(hl:s.heap.IsTuple l items)(hi:IntsAre items.toList ns)(hb:items.size+1 < scanBound)
  (h:∀(h':Heap) (tk:Nat),h'.SetOf (intKind prog w) s.heap.objs.size (fun k'=>(firstMet (fun i=>ns.getD i 0) items.size).any (· == k')) (firstMet (fun i=>ns.getD i 0) items.size).length→
   (∀ b o,b < s.heap.objs.size→s.heap.get? b=some o→h'.get? b=some o)→Q (.ref s.heap.objs.size) { s with heap:=h',toks:=tk }) :
  wpAny (model prog w) A (call (.type "set") [.ref l]) Q E s:=by
 obtain ⟨c,tl,hmro⟩:=F.called_set.mro;have hmade:=F.called_set.made;have hsub:=F.called_set.sub;refine wpAny_call (codeAny_of_tree ?_);show wpAny _ _ (callAny (.type "set") _) _ _ _;refine wpAny_pure ⟨Code.quiet_builtin _ (by decide +kernel),codeAny_builtin F.entry_type_call ?_⟩;rw[Around.under_plain (weight_type_call_type "set" [.ref l] []) rfl];have h1:=F.called_set.notType;have h2:=F.called_set.canCreate;have hct:=F.typeCall_set_1 (.ref l)
 repeat (any_goals (first | assumption | wp_step))
 refine codeAny_mono (code_set_new_1 (.ref l) (E:=E) (Q₁:=fun obj s₁=>∃ led:Bool,obj=.ref s.heap.objs.size∧s₁={ s with heap:=s.heap.push (zhZ led) }) fun led=>⟨led,rfl,rfl⟩) fun r s₁ hr=>?_;cases r with
 | error e=>exact hr
 | ok fl=>
  cases fl with
  | ret obj=>
   obtain ⟨led,rfl,rfl⟩:=hr;have hS:(s.heap.push (zhZ led)).get? s.heap.objs.size=some (zhZ led):=yaB _ rfl;have hT:Shared.TypeIs { s with heap:=s.heap.push (zhZ led) } (.ref s.heap.objs.size) "set":=⟨_,hS,rfl⟩;have hli:=F.called_set.init.lookup;have hbi:=F.called_set.init.bind (.ref s.heap.objs.size)
   repeat (any_goals (first | assumption | wp_step))
   refine codeAny_mono (codeAny_call_builtin (R:=wants (fun r s₂=>r=.none∧∃ h' tk,s₂={ s with heap:=h',toks:=tk }∧
     h'.SetOf (intKind prog w) s.heap.objs.size (fun k'=>(firstMet (fun i=>ns.getD i 0) items.size).any (· == k')) (firstMet (fun i=>ns.getD i 0) items.size).length∧
     (∀ b o,b < s.heap.objs.size→s.heap.get? b=some o→h'.get? b=some o)) E) F.called_set.init.plain F.entry_set_init (check_set_init_1 hT ?_)) fun r₂ s₂ hr₂=>?_
   ·obtain ⟨ol,hol,hcl,nl,hdl⟩:=hl;obtain ⟨ocls,odict,odata,oslots⟩:=ol;simp only at hcl hdl;subst hcl;subst hdl;have there:(s.heap.push (zhZ led)).get? l=some { cls:=.type "tuple",dict:=odict,data:=.seq items nl,slots:=oslots }:=yai _ hol;have hsls:=zjt;have hslf:=zgQ;have hne:(Value.type "tuple" == Value.type "dict")=false:=by decide
    have hl1:(s.heap.push (zhZ led)).IsTuple l items:=⟨_,there,rfl,nl,rfl⟩;unfold Builtin.«set.__init__» noKeywords Builtin.Frozenset.updateFrom;generalize hPI:pyIter=PI
    wp_walk
    subst hPI;refine wpAny_pyIter_tuple hl1 ?_;refine wpAny_bind (wpAny_runValue ?_);have hlS:l < s.heap.objs.size:=yaf hol;have h3:A.in1.in1.in1.handled=none:=by simp[hh]
    have hsz:(s.heap.push (zhZ led)).objs.size=s.heap.objs.size+1:=ybw ..;have hneI:l≠(s.heap.push (zhZ led)).objs.size:=by
     rw[hsz];exact yan (ycj hlS)
    have hSf:s.heap.objs.size∉[(s.heap.push (zhZ led)).objs.size,l]:=by
     rw[hsz];simp only[yam,ybm,or_false,not_or];exact ⟨yan (ybE _),ybo hlS⟩
    have hval:∀(i:Nat) (v:Value),items[i]?=some v→∃ t,v=.int ((fun i=>ns.getD i 0) i) t:=fun i v hv=>
     IntsAre.int_at hi i v (by rw[ya2];exact hv)
    refine codeAny_set_update_loopS ((Walks.tuple h3 _ l hneI items).toS) s.heap.objs.size
     hSf (fun i=>ns.getD i 0) hval hb (items.size - 0) 0 _ (by omega) (yaC _)
     ⟨⟨_,yaB _ rfl,rfl,rfl⟩,(hl1.push _)⟩ ?hS0 ?hR
    case hS0=>
     exact SetOf_congr ((setObjOf_fresh (knd:=intKind prog w) led).setOf (yai _ hS) (by unfold scanBound;omega)) (fun _=>rfl) rfl
    case hR=>
     intro s' hm hS';obtain ⟨h',g',d',tk',os'⟩:=s';have eg:g'=s.gens:=hm.gens;have ed:d'=s.drawn:=hm.drawn;have eo:os'=s.os:=hm.os;subst eg;subst ed;subst eo;show wpAny _ _ _ _ _ _;refine wpAny_pure ?_;show wpAny _ _ (ret Value.none) _ _ _;refine wpAny_pure ⟨rfl,h',tk',rfl,hS',fun b o hb e=>?_⟩;refine hm.heap b o ?_ (yai _ (yai _ e));rw[hsz];simp only[yam,ybm,or_false,not_or];exact ⟨yan hb,yan (ycj hb)⟩
   ·cases r₂ with
    | error e=>exact hr₂
    | ok fl₂=>
     cases fl₂ with
     | ret r=>
      obtain ⟨rfl,h',tk,rfl,hS',hk'⟩:=hr₂
      repeat (any_goals (first | assumption | wp_step))
      exact h _ _ hS' hk'
     | _=>exact hr₂.elim
  | _=>exact hr.elim
end
section
variable {X:Cx}
def zsH (K:Frag):List V→Hp→VK→Prop:=fun xs H Q=>∃(p:Addr) (ns:List Int),xs=[.ref p]∧SqT K H p (ns.map V.int)∧ns.length≤1000∧
 ∀ l,H l=none→Q (.ref l) (upd H l (.set (fun k=>(metI ns).any (· == k)) (metI ns).length))
theorem znL (hc:X.calm=true):zdA X (.type "set") (zsH X.K):=by
 intro pins s σ H xs us Q I r h;obtain ⟨p,ns,rfl,hq,hz,q⟩:=h;obtain ⟨u,rfl,rx⟩:=zgb r;cases rx
 obtain ⟨its,rv,pl,_⟩:=I.tuple hq;have hl:=rv.length;rw[yab]at hl;refine zlk (ns:=ns) (I.ok.hd hc) (show s.heap.IsTuple p its.toArray from pl) (by simpa using zcL rv) (by unfold scanBound;simp only[yav];omega) fun h' tk hS hk=>?_;have e:its.toArray.size=ns.length:=by simp only[yav];omega
 rw[e]at hS;exact ⟨.ref s.heap.objs.size,_,I.laid (a:=s.heap.objs.size) (o:=.set _ _) (t':=tk) (fun b o eb=>hk b o (yaf eb) eb) (yaa _) hS,rfl,q _ (I.hok.fresh (yaa _))⟩
theorem zfy:zdA X (.builtin "isinstance") (fun xs H Q=>∃ a p,xs=[.ref a,.ref p]∧H p=some (.tup [.ty "list",.ty "tuple"])∧((∃ ys,H a=some (.lst ys))∨∃ ys,H a=some (.tup ys))∧Q (.bl true) H):=by
 intro pins s σ H xs us Q I r h;obtain ⟨a,p,rfl,hp,ha,q⟩:=h;obtain ⟨u,w',rfl,r1,r2⟩:=zhu r;cases r1
 cases r2
 obtain ⟨_,its,rv,⟨oc,od,odt,osl⟩,h1,h2,n,h3⟩:=(show zbp X.prog X.w H s.heap p (.tup [.ty "list",.ty "tuple"]) from I.hok p _ hp);have h2:oc=.type "tuple":=h2;have h3:odt=.seq its.toArray n:=h3;subst h2 h3;obtain ⟨c1,c2,rfl,e1,e2⟩:=zhu rv;have e1:c1=.type "list":=e1;have e2:c2=.type "tuple":=e2;subst e1 e2;have fin:∀ tk,(fun v s'=>∃ x H',Inv X pins σ H' s'∧RelV x v∧Q x H') (Value.bool true) { s with toks:=tk }:=fun tk=>⟨.bl true,H,I.tok tk,rfl,q⟩;rcases ha with ⟨ys,ha⟩ | ⟨ys,ha⟩
 ·obtain ⟨_,_,n,_,g1⟩:=(show zbp X.prog X.w H s.heap a (.lst ys) from I.hok a _ ha);exact PySem.W.kia_tup PySem.W.kitx_list I.kIn ⟨_,g1,rfl⟩ h1 (b:=true) (by rfl) (fun z=>nomatch z) fin
 ·obtain ⟨_,_,_,o,g1,g2,_⟩:=(show zbp X.prog X.w H s.heap a (.tup ys) from I.hok a _ ha);exact PySem.W.kia_tup PySem.W.kitx_tuple I.kIn ⟨o,g1,g2⟩ h1 (b:=true) (by rfl) (fun z=>nomatch z) fin
end
end L2
namespace HT
open PySem PySem.Spec PyProof.Rows
section
variable {prog:Program}{w:World}{A:Around}{E:Value→Shared→Prop}{s:Shared}
theorem getItem_tuple_all {t sl:Addr}{items:Array Value}{vl vu:Value}{lo hi:Option Int}{Q:Value→Shared→Prop}(ht:IsTup s.heap t items)(hs:s.heap.IsSliceOf sl vl vu .none)(pl:IsPart vl lo)(pu:IsPart vu hi)
  (hw:sIx items.size 0 lo=0∧sIx items.size items.size hi=items.size) (h:Q (.ref t) s):wpAny (model prog w) A (getItem (.ref t) (.ref sl)) Q E s:=by
 obtain ⟨os,hos,hcs,hds⟩:=id hs;have hTs:s.TypeIs (.ref sl) "slice":=⟨os,hos,hcs⟩;unfold getItem
 try with_reducible refine wpAny_holding ?_
 first | refine wpAny_bind (wpAny_pure ?_) | skip
 refine wpAny_bind (wpAny_sequenceKey ht.typeIs (by decide) ?_);refine wpAny_bind (wpAny_callSpecial?_slot (name:=Str.ofString "__getitem__") ht.typeIs PyProof.Rows.slot_tuple_getitem (wpAny_call_entry PyProof.Rows.slot_tuple_getitem ht.typeIs entry_tuple_getitem ?_ (args_tuple_getitem _ _)));show wpAny _ _ (Builtin.Tuple.tupleItemsOf (.ref t) >>= _) _ _ s;refine wpAny_bind (tupleItemsOf_ ht ?_);refine wpAny_bind (wpAny_typeOf hTs ?_);rw[if_pos (by decide)];refine wpAny_bind (zdw hs pl pu ?_);have yes:(((sIx items.size 0 lo:Nat):Int) == 0 && (1:Int) == 1 && (sIx items.size items.size hi - sIx items.size 0 lo) == items.size)=true:=by
  rw[hw.1,hw.2];simp
 show wpAny _ _ (if (((sIx items.size 0 lo:Nat):Int) == 0 && (1:Int) == 1 && (sIx items.size items.size hi - sIx items.size 0 lo) == items.size)=true then _ else _) _ _ s
 rw[if_pos yes];refine wpAny_bind ?_;unfold Builtin.Tuple.tupleIsExact;refine wpAny_bind (wpAny_typeOf ht.typeIs ?_);refine wpAny_pure ?_;rw[if_pos (by decide)];exact wpAny_bind (wpAny_rule (wpAny_pure ⟨_,rfl,wpAny_pure h⟩))
end
end HT
namespace L2
open PySem PySem.Spec PyProof.Rows
section
variable {X:Cx}
def rSlX (K:Frag):V→Option Int→Option Int→Hp→VK→Prop:=fun x lo hi H Q=>∃ a xs,x=.ref a∧SqT K H a xs∧
 ((HT.sIx xs.length 0 lo=0∧HT.sIx xs.length xs.length hi=xs.length)→Q (.ref a) H)∧(¬ (HT.sIx xs.length 0 lo=0∧HT.sIx xs.length xs.length hi=xs.length)→∀ p,H p=none→Q (.ref p) (upd H p (.tup (cutV xs lo hi))))
theorem zfj:SlR X (rSlX X.K):=by
 intro pins s σ H x v vl vu lo hi sl Q I rx hs pl pu h;obtain ⟨a,xs,e,hx,q1,q2⟩:=h;by_cases hw:HT.sIx xs.length 0 lo=0∧HT.sIx xs.length xs.length hi=xs.length
 ·subst e;cases rx
  obtain ⟨its,r,ht,hz⟩:=I.tuple hx;have hlen:its.toArray.size=xs.length:=by rw[yav];exact r.length.symm
  refine ⟨"tuple",_,PyProof.Rows.slot_tuple_getitem.lookup,ht.typeIs,?_⟩;exact HT.getItem_tuple_all ht hs pl pu (by rw[hlen];exact hw) ⟨.ref a,H,I,rfl,q1 hw⟩
 ·exact zru pins s σ H x v vl vu lo hi sl Q I rx hs pl pu ⟨a,xs,e,hx,hw,q2 hw⟩
def zrA (K:Frag):R2:=fun x y H Q=>∃ a b xs ys,x=.ref a∧y=.ref b∧SqT K H a xs∧SqT K H b ys∧ys≠[]∧xs.length+ys.length≤sizeLine∧
 (xs=[]→Q (.ref b) H)∧(xs≠[]→∀ p,H p=none→Q (.ref p) (upd H p (.tup (xs++ys))))
theorem zjG:OpR X (binaryOp .Add) (zrA X.K):=by
 intro pins s σ H x y v u Q I rx ry h;obtain ⟨a,b,xs,ys,e1,e2,ha,hb,hy,hz,q1,q2⟩:=h;by_cases hx:xs=[]
 ·subst e1 e2;cases rx
  cases ry
  obtain ⟨its,r1,p1,_⟩:=I.tuple ha;obtain ⟨its2,r2,p2,_⟩:=I.tuple hb;obtain ⟨⟨cls,dd,data,sl⟩,ho,hc,n,hd⟩:=id p1;obtain ⟨⟨cls2,dd2,data2,sl2⟩,ho2,hc2,n2,hd2⟩:=id p2;simp only at hc hd hc2 hd2;subst hc hd hc2 hd2;have hv:its=[]:=r1.nil_iff.mpr hx;exact concat_meets ⟨_,ho,rfl⟩ ⟨_,ho2,rfl⟩ noFill_tuple_add seq_tuple_add PySem.F.slot_tuple_add PySem.F.entry_tuple_add (PySem.F.args_tuple_add_2 _ _)
   (tuple_addW0 a b its.toArray its2.toArray n n2 dd dd2 sl sl2 (by simp[hv])) ⟨ho,ho2,.ref b,H,I,rfl,q1 hx⟩
 ·exact zhW pins s σ H x y v u Q I rx ry ⟨a,b,xs,ys,e1,e2,ha,hb,hx,hz,fun z=>absurd z hy,fun _=>q2 hx⟩
end
end L2
namespace L2
open PySem PySem.Spec PyProof.Rows PySem.SeqAt
def hasO (o:Option Int)(v:V):Prop:=match o with
 | none=>v=.non
 | some i=>v=.int i
instance:Rep (Option Int) where
 dec:=inferInstance
 depth:=0
 has:=fun _ _ o v=>hasO o v
 mono:=fun _ h=>h
 inj:=fun {_ _ _ _ _ a b v} _ h1 h2=>by
  cases a <;> cases b
  ·rfl
  ·have h1:v=.non:=h1;have h2:v=.int _:=h2;rw[h1]at h2;cases h2
  ·have h1:v=.int _:=h1;have h2:v=.non:=h2;rw[h1]at h2;cases h2
  ·have h1:v=.int _:=h1;have h2:v=.int _:=h2;rw[V.int.inj (h1.symm.trans h2)]
 rc:=fun {_ _ _ _ _ _ a b x y u v} _ _ h1 h2 r1 r2=>by
  cases a with
  | none=>
   have h1:x=.non:=h1;subst h1;obtain rfl:u=.none:=r1;cases b with
   | none=>
    have h2:y=.non:=h2;subst h2;obtain rfl:v=.none:=r2;exact RcAt.none_none
   | some j=>
    have h2:y=.int j:=h2;subst h2;obtain ⟨t,rfl⟩:=r2;exact RcAt.none_int _ _
  | some i=>
   have h1:x=.int i:=h1;subst h1;obtain ⟨t,rfl⟩:=r1;cases b with
   | none=>
    have h2:y=.non:=h2;subst h2;obtain rfl:v=.none:=r2;exact RcAt.int_none _ _
   | some j=>
    have h2:y=.int j:=h2;subst h2;obtain ⟨t',rfl⟩:=r2;have e:decide (some i=some j)=(i == j):=by
     by_cases z:i=j
     ·subst z;simp
     ·rw[yah (fun q=>z (yad q)),beq_eq_false_iff_ne.mpr z]
    have:=RcAt.int_int (A:=‹Around›) (s:=‹Shared›) i t j t';rw[← e]at this;exact this
 rn:=fun {_ _ _ _ _ _ a b x y u v} _ _ h1 h2 r1 r2=>by
  cases a with
  | none=>
   have h1:x=.non:=h1;subst h1;obtain rfl:u=.none:=r1;cases b with
   | none=>
    have h2:y=.non:=h2;subst h2;obtain rfl:v=.none:=r2;exact RcNeAt.none_none
   | some j=>
    have h2:y=.int j:=h2;subst h2;obtain ⟨t,rfl⟩:=r2;exact RcNeAt.none_int _ _
  | some i=>
   have h1:x=.int i:=h1;subst h1;obtain ⟨t,rfl⟩:=r1;cases b with
   | none=>
    have h2:y=.non:=h2;subst h2;obtain rfl:v=.none:=r2;exact RcNeAt.int_none _ _
   | some j=>
    have h2:y=.int j:=h2;subst h2;obtain ⟨t',rfl⟩:=r2;have e:decide (some i=some j)=(i == j):=by
     by_cases z:i=j
     ·subst z;simp
     ·rw[yah (fun q=>z (yad q)),beq_eq_false_iff_ne.mpr z]
    have:=RcNeAt.int_int (A:=‹Around›) (s:=‹Shared›) i t j t';rw[← e]at this;exact this
 eq:=fun {_ _ _ _ _ _ a b x y u v} _ _ h1 h2 r1 r2=>by
  cases a with
  | none=>
   have h1:x=.non:=h1;subst h1;obtain rfl:u=.none:=r1;cases b with
   | none=>
    have h2:y=.non:=h2;subst h2;obtain rfl:v=.none:=r2;exact EqAt.same _
   | some j=>
    have h2:y=.int j:=h2;subst h2;obtain ⟨t,rfl⟩:=r2;exact EqAt.none_int _ _
  | some i=>
   have h1:x=.int i:=h1;subst h1;obtain ⟨t,rfl⟩:=r1;cases b with
   | none=>
    have h2:y=.non:=h2;subst h2;obtain rfl:v=.none:=r2;exact EqAt.int_none _ _
   | some j=>
    have h2:y=.int j:=h2;subst h2;obtain ⟨t',rfl⟩:=r2;have e:decide (some i=some j)=(i == j):=by
     by_cases z:i=j
     ·subst z;simp
     ·rw[yah (fun q=>z (yad q)),beq_eq_false_iff_ne.mpr z]
    have:=EqAt.int_int (A:=‹Around›) (s:=‹Shared›) i t j t';rw[← e]at this;exact this
structure Tup (α:Type) where
 l:List α
theorem Tup.ext' {α:Type}{a b:Tup α}(h:a.l=b.l):a=b:=by
 cases a
 cases b
 cases h
 rfl
instance {α:Type} [DecidableEq α]:DecidableEq (Tup α):=fun a b=>if h:a.l=b.l then .isTrue (Tup.ext' h) else .isFalse fun z=>h (by rw[z])
def hasT {α:Type}[Rep α](K:Frag)(H:Hp)(t:Tup α)(v:V):Prop:=∃ a xs,v=.ref a∧SqT K H a xs∧zal K H t.l xs
section
variable {α:Type}[r:Rep α]{X:Cx}{pins:List (Addr×Obj)}{σ:St}{H:Hp}{s:Shared}{A:Around}{as bs:Tup α}{x y:V}{u v:Value}
theorem zkZ (I:Inv X pins σ H s)(h1:hasT X.K H as x)(h2:hasT X.K H bs x):as=bs:=by
 obtain ⟨a,xs,rfl,q1,h1⟩:=h1;obtain ⟨b,ys,e,q2,h2⟩:=h2;cases e
 rw[I.tuple_inj q2 q1]at h2;exact Tup.ext' (h1.inj I h2)
theorem zl9 {as bs:List α}(n m:Nat)(hn:as.length=n)(hm:bs.length=m):((List.range (min n m)).all (fun j=>decide (as[j]?=bs[j]?)) && n == m)=decide (as=bs):=by
 by_cases hl:as.length=bs.length
 ·have e:=zfA as bs hl;have z:min n m=as.length:=by omega
  rw[z,e,beq_iff_eq.mpr (by omega:n=m),yci]
 ·rw[yah (fun z=>hl (by rw[z])),beq_eq_false_iff_ne.mpr (by omega:n≠m),Bool.and_false]
theorem znA:decide (as=bs)=decide (as.l=bs.l):=by
 by_cases h:as.l=bs.l
 ·rw[yag h,yag (Tup.ext' h)]
 ·rw[yah h,yah (fun z=>h (by rw[z]))]
theorem zno (I:Inv X pins σ H s)(hu:A.units+(Rep.depth α+1) < cLine)(h1:hasT X.K H as x)(h2:hasT X.K H bs y)(r1:RelV x u)(r2:RelV y v):RcAt A s u v (decide (as=bs)):=by
 obtain ⟨a,xs,rfl,q1,h1⟩:=h1;obtain ⟨b,ys,rfl,q2,h2⟩:=h2;cases r1
 cases r2
 obtain ⟨us,ru,pu,_⟩:=I.tuple q1;obtain ⟨vs,rv,pv,_⟩:=I.tuple q2;have l1:=ru.length;have l2:=rv.length;have m1:=h1.length;have m2:=h2.length;have hin:A.in1.units+Rep.depth α < cLine:=ya1 (ybl zbU _) (by omega);have:=RcAt.tuples (A:=A) (s:=s) (l:=a) (b:=b) (items:=us.toArray) (items2:=vs.toArray) (e:=fun j=>decide (as.l[j]?=bs.l[j]?)) pu pv (by omega) (zf6 I hin h1 h2 ru rv);rw[zl9 (as:=as.l) (bs:=bs.l) us.toArray.size vs.toArray.size (by simp;omega) (by simp;omega),← znA]at this;exact this
theorem zqH (I:Inv X pins σ H s)(hu:A.units+(Rep.depth α+1) < cLine)(h1:hasT X.K H as x)(h2:hasT X.K H bs y)(r1:RelV x u)(r2:RelV y v):RcNeAt A s u v (!decide (as=bs)):=by
 obtain ⟨a,xs,rfl,q1,h1⟩:=h1;obtain ⟨b,ys,rfl,q2,h2⟩:=h2;cases r1
 cases r2
 obtain ⟨us,ru,pu,_⟩:=I.tuple q1;obtain ⟨vs,rv,pv,_⟩:=I.tuple q2;have l1:=ru.length;have l2:=rv.length;have m1:=h1.length;have m2:=h2.length;have hin:A.in1.units+Rep.depth α < cLine:=ya1 (ybl zbU _) (by omega);have:=RcNeAt.tuples (A:=A) (s:=s) (l:=a) (b:=b) (items:=us.toArray) (items2:=vs.toArray) (e:=fun j=>decide (as.l[j]?=bs.l[j]?)) pu pv (by omega) (zf6 I hin h1 h2 ru rv);rw[zl9 (as:=as.l) (bs:=bs.l) us.toArray.size vs.toArray.size (by simp;omega) (by simp;omega),← znA]at this;exact this
theorem zqI (I:Inv X pins σ H s)(hu:A.units+(Rep.depth α+1) < cLine)(h1:hasT X.K H as x)(h2:hasT X.K H bs y)(r1:RelV x u)(r2:RelV y v):EqAt A s u v (decide (as=bs)):=by
 have rc:=zno (A:=A) I hu h1 h2 r1 r2;have h1':=id h1;have h2':=id h2;obtain ⟨a,xs,rfl,q1,h1⟩:=h1;obtain ⟨b,ys,rfl,q2,h2⟩:=h2;cases r1
 cases r2
 by_cases hab:a=b
 ·subst hab;rw[yag (zkZ I h1' h2')];exact EqAt.same _
 ·exact EqAt.of_refs hab rc
end
instance {α:Type} [Rep α]:Rep (Tup α) where
 dec:=inferInstance
 depth:=Rep.depth α+1
 has:=hasT
 mono:=fun e ⟨a,xs,h1,h2,h3⟩=>⟨a,xs,h1,h2.ext e,h3.mono e⟩
 inj:=fun I h1 h2=>zkZ I h1 h2
 rc:=fun I hu h1 h2 r1 r2=>zno I hu h1 h2 r1 r2
 rn:=fun I hu h1 h2 r1 r2=>zqH I hu h1 h2 r1 r2
 eq:=fun I hu h1 h2 r1 r2=>zqI I hu h1 h2 r1 r2
end L2
namespace L2
open PySem PySem.Spec PyProof.Rows
section
variable {X:Cx}{K:Frag}{tg:Expr}
theorem zqb {l:Expr}{tl:TE}(hl:PE X l tl)(h:X.K=K:=by rfl):PI X tg l (iTup K tl):=by
 subst h;exact zdF hl
end
end L2
namespace L2
open PySem PySem.Spec PyProof.Rows
def zbw (X:Cx)(N:List Str)(scope:Scope)(z:Str)(cl:List (Str×Addr))(C:Addr)(s₂:Shared)(H₂:Hp)(fp:List Addr):Cx:=
 { X with N:=N,s₀:=s₂,H₀:=H₂,env:=compEnvC scope ((z,C+1)::cl) C X.env,outer:=X.stack,stack:=X.stack,ex:=fp,fn:=fun x=>x == z,xe:=fun _ _=>False }
theorem zhn {n:Nat}{h:Heap}:∀{names:List (Str×NameKind)} {acc:List (Str×Addr)},names.filter (fun y=>y.2 == .cell)=[]→cellsFrom n names acc=acc∧pushCells h names=h
 | [],_,_=>⟨rfl,rfl⟩
 | (x,k)::r,acc,e=>by
  cases hk:k == NameKind.cell with
  | true=>
   rw[ybd (by exact hk)]at e;cases e
  | false=>
   rw[ybn (by rw[show ((x,k):Str×NameKind).2=k from rfl,hk];decide)]at e;unfold cellsFrom pushCells;rw[hk];exact zhn e
theorem zgG {n:Nat}{h:Heap}{z:Str}:∀{names:List (Str×NameKind)} {acc:List (Str×Addr)},names.filter (fun y=>y.2 == .cell)=[(z,.cell)]→cellsFrom n names acc=(z,n)::acc∧pushCells h names=h.push { cls:=.type "cell",data:=.cell none }
 | [],_,e=>by cases e
 | (x,k)::r,acc,e=>by
  cases hk:k == NameKind.cell with
  | true=>
   rw[ybd (by exact hk)]at e;obtain ⟨e1,e2⟩:=List.cons.inj e;have e3:x=z:=congrArg Prod.fst e1;subst e3;unfold cellsFrom pushCells;rw[hk];exact zhn e2
  | false=>
   rw[ybn (by rw[show ((x,k):Str×NameKind).2=k from rfl,hk];decide)]at e;unfold cellsFrom pushCells;rw[hk];exact zgG e
theorem zqV {M:Model}{A:Around}{E:Value→Shared→Prop}{s:Shared}{scope:Scope}{z:Str}{globals:Addr}{closure:List (Str×Addr)}{qual:Str}{env:Env}{Q:Env→Shared→Prop}
  (one:scope.names.filter (fun y=>y.2 == .cell)=[(z,.cell)])
  (hQ:Q { scope,locals:=s.heap.objs.size,globals,cells:=(z,s.heap.objs.size+1)::closure,qual,func:=none,code:=env.code,frame:=env.frame,builtins:=env.builtins } { s with heap:=(s.heap.push { cls:=.type "dict",data:=.dict #[] }).push { cls:=.type "cell",data:=.cell none } }) :
  wpAny M A (newFunctionEnv scope globals closure [] qual none .none (some env)) Q E s:=by
 simp only[newFunctionEnv,Option.isSome_some,if_true];refine wpAny_bind (wpAny_alloc ?_);refine wpAny_bind (wpAny_layCells _ (fun name kind cells=>by cases hkc:kind == NameKind.cell <;> simp[hkc]) _ _ _ _ ?_)
 rw[show ({ s with heap:=s.heap.push { cls:=.type "dict",data:=.dict #[] } }:Shared).heap.objs.size=s.heap.objs.size+1 from ybw ..];rw[(zgG (n:=s.heap.objs.size+1) (h:=s.heap) one).1,(zgG (n:=0) (h:=s.heap.push { cls:=.type "dict",data:=.dict #[] }) (acc:=[]) one).2];refine wpAny_bind ?_;rw[List.forIn_nil];exact wpAny_pure (wpAny_pure hQ)
theorem zfm {env:Env}:∀{names:List (Str×NameKind)} {x:Str} {k':NameKind},(names.map fun (n,k)=>if (k == NameKind.free && env.scope.kind == .function && env.kindOf n == some .cell) then (n,NameKind.cell) else (n,k)).lookup x=some k'→k'=.cell∨k'=.free→
  (x,NameKind.free)∈names∨(x,NameKind.cell)∈names
 | [],_,_,h,_=>by simp at h
 | (n,k)::r,x,k',h,hk=>by
  have ih:=@zfm env r x k';have h':List.lookup x ((if (k == NameKind.free && env.scope.kind == .function && env.kindOf n == some .cell)=true then (n,NameKind.cell) else (n,k))::r.map fun (n,k)=>if (k == NameKind.free && env.scope.kind == .function && env.kindOf n == some .cell) then (n,NameKind.cell) else (n,k))=some k':=h
  cases hx:x == n with
  | true=>
   have e:=eq_of_beq hx;subst e;by_cases hf:k=.free
   ·subst hf;exact .inl yaD
   ·have hb:(k == NameKind.free)=false:=by simpa using hf
    rw[if_neg (by rw[hb];simp),yaK,hx]at h';cases h'
    rcases hk with z | z
    ·subst z;exact .inr yaD
    ·exact absurd z hf
  | false=>
   refine (ih ?_ hk).imp (yaF _) (yaF _);by_cases hcd:(k == NameKind.free && env.scope.kind == .function && env.kindOf n == some .cell)=true
   ·rw[if_pos hcd,yaK,hx]at h';exact h'
   ·rw[if_neg hcd,yaK,hx]at h';exact h'
structure zkd (X:Cx)(scope:Scope)(z:Str)(N:List Str)(own:Nat)(cap:List Nat):Prop where
 kind:scope.kind=.function
 one:scope.names.filter (fun y=>y.2 == .cell)=[(z,.cell)]
 look:scope.names.lookup z=some .cell
 locs:(scope.names.all fun y=>y.2 != .local || scope.names.lookup y.1 == some .local)=true
 frees:(scope.names.all fun y=>y.2 != .free || (X.env.kindOf y.1 == some .cell || X.env.kindOf y.1 == some .free))=true
 len:N.length=own+cap.length
 caps:((List.range cap.length).all fun j=>(N[own+j]? == X.N[cap[j]!]?) && (match N[own+j]? with | some x=>scope.names.lookup x == some .free && (X.env.kindOf x == some .cell || X.env.kindOf x == some .free) | none=>false))=true
section
variable {X:Cx}
theorem znl {z:Str}{pins:List (Addr×Obj)}{σ:St}{H:Hp}{s:Shared}{N:List Str}{own:Nat}{cap:List Nat}{scope:Scope}{cl:List (Str×Addr)}{C:Addr}{fp:List Addr}{h₁:Heap}{tk:Nat}{D:Addr}
  (I:Inv X pins σ H s) (c:zkd X scope z N own cap) (hcl:zgP scope X.env cl) (f:∀ b∈fp,FpOk X pins H b) (hD:s.heap.objs.size≤D) (hC:s.heap.objs.size≤C) (hCD:D≠C)
  (kp:∀ b o,s.heap.get? b=some o→h₁.get? b=some o) (hnew:h₁.get? D=some { cls:=.type "list",data:=.seq #[] }) (hns:∃ m,h₁.Ns C m) (hcz:h₁.IsCell (C+1) none) (hDz:D≠C+1) (hfp:∀ b∈fp,b < s.heap.objs.size) (hcalm:X.calm=true) :
  Inv (zbw X N scope z cl C s H fp) pins (zcB own cap σ) (upd H D (.lst [])) { s with heap:=h₁,toks:=tk }:=by
 have hfr:H D=none:=I.hok.fresh hD;have hfrC:H C=none:=I.hok.fresh hC;have sz:∀ b o,s.heap.get? b=some o→b≠D∧b≠C:=fun b o e=>⟨yan (yaw (yaf e) hD),yan (yaw (yaf e) hC)⟩;have cells:∀ x cc,cl.lookup x=some cc→∃ v,s.heap.IsCell cc v:=fun x cc e=>I.cell x cc (hcl.sub x cc e);have cellne:∀ x cc,cl.lookup x=some cc→cc≠D∧cc≠C:=fun x cc e=>by
  obtain ⟨v,o,ho,_⟩:=cells x cc e;exact sz cc o ho
 have czlt:∀ x cc,cl.lookup x=some cc→cc≠C+1:=fun x cc e q=>by
  obtain ⟨v,o,ho,_⟩:=cells x cc e;exact absurd (show C+1 < s.heap.objs.size from (by rw[← q];exact yaf ho)) (ybB.mpr (yao hC (yaV _)))
 have lk:∀ x cc,((z,C+1)::cl).lookup x=some cc→(x=z∧cc=C+1)∨(x≠z∧cl.lookup x=some cc):=fun x cc e=>by
  rw[yaK]at e;cases hx:x == z with
  | true=>
   rw[hx]at e;exact .inl ⟨eq_of_beq hx,(yad e).symm⟩
  | false=>
   rw[hx]at e;exact .inr ⟨fun q=>(by rw[q,beq_self_eq_true]at hx;cases hx),e⟩
 have hfrZ:H (C+1)=none:=I.hok.fresh (yao hC (yaV _));have ok:(zbw X N scope z cl C s H fp).Ok:=by
  refine ⟨I.ok.mod,c.kind,I.ok.glob,I.ok.blt,hC,fun x y cc e1 e2=>?_,fun x hx=>?_,fun x cc e1 e2=>?_,I.ok.hd,I.ok.frames,.inl rfl,fun b hb=>?_,fun b o e=>I.bs b o e,?_,fun b o e hb=>?_,fun b hb z=>?_,I.stack,fun b hb=>I.stkFree b hb⟩
  ·rcases lk x cc e1 with ⟨q1,q2⟩ | ⟨q1,q2⟩ <;> rcases lk y cc e2 with ⟨r1,r2⟩ | ⟨r1,r2⟩
   ·rw[q1,r1]
   ·exact absurd q2 (czlt y cc r2)
   ·exact absurd r2 (czlt x cc q2)
   ·exact I.ok.inj x y cc (hcl.sub x cc q2) (hcl.sub y cc r2)
  ·show ∃ c,((z,C+1)::cl).lookup x=some c;cases hxz:x == z with
   | true=>exact ⟨C+1,by rw[yaK,hxz]⟩
   | false=>
    have hm:(x,NameKind.free)∈scope.names:=by
     have hor:(x,NameKind.free)∈scope.names∨(x,NameKind.cell)∈scope.names:=by
      rcases hx with y | y
      ·exact zfm (env:=X.env) (names:=scope.names) (x:=x) (k':=.cell) y (.inl rfl)
      ·exact zfm (env:=X.env) (names:=scope.names) (x:=x) (k':=.free) y (.inr rfl)
     rcases hor with q | q
     ·exact q
     ·have hf:(x,NameKind.cell)∈scope.names.filter (fun y=>y.2 == .cell):=ya7.mpr ⟨q,rfl⟩;rw[c.one]at hf;have e:=congrArg Prod.fst (yal.mp hf);have e:x=z:=e;rw[e,beq_self_eq_true]at hxz;cases hxz
    obtain ⟨cc,hcc⟩:=hcl.has x hm;exact ⟨cc,by rw[yaK,hxz];exact hcc⟩
  ·have e1:(x == z)=true:=e1;rcases lk x cc e2 with ⟨_,q2⟩ | ⟨q1,_⟩
   ·rw[q2];exact yao hC (yaV _)
   ·exact absurd (eq_of_beq e1) q1
  ·exact ⟨yan (yaw (hfp b hb) hC),fun x cc e q=>by
    rcases lk x cc e with ⟨_,q2⟩ | ⟨_,q2⟩
    ·exact absurd (show C+1 < s.heap.objs.size from (by rw[← q2,q];exact hfp b hb)) (ybB.mpr (yao hC (yaV _)))
    ·exact (f b hb).2.2.2.2.1 x cc (hcl.sub x cc q2) q⟩
  ·exact yao I.ok.bsz I.sz
  ·obtain ⟨_,_,_,h4,_⟩:=f b hb;rcases h4 with z | z
   ·exact I.ok.noex b o e z
   ·exact absurd (yaw (yaf e) (yao I.ok.bsz z)) (ybi _)
  ·obtain ⟨_,h2,h3,_⟩:=f b hb;rcases yam.mp (I.stkSub b z) with q | q
   ·exact h2 q
   ·exact h3 q
 have hokN:zbp X.prog X.w (upd H D (.lst [])) h₁ D (.lst []):=⟨yaC _,[],0,.nil,hnew⟩;refine ⟨ok,I.os.symm ▸ rfl,I.bare,Un.laid kp hD hfr,?_,fun x cc e=>?_,?_,fun x cc e=>?_,fun p hp=>?_,I.hok.laid kp hD hokN,?_⟩
 ·obtain ⟨m,hm⟩:=hns;refine ⟨m,hm,fun i x v e1 e2 e3=>?_⟩;have hi:own≤i:=by
   false_or_by_contra
   rename_i z;unfold zcB at e2;rw[ybp (by rw[ya9];omega),yct]at e2;split at e2 <;> cases e2
  obtain ⟨j,rfl⟩:∃ j,i=own+j:=⟨i - own,by omega⟩;have hj:j < cap.length:=by
   have:=(yak.mp e1).1;have z:=c.len;have this':own+j < N.length:=this;omega
  have hc:=yaU.mp c.caps j (ya8.mpr hj);have e1':N[own+j]?=some x:=e1;rw[e1']at hc;simp only[ybk,beq_iff_eq,Bool.or_eq_true]at hc;obtain ⟨hN,hf,hk⟩:=hc;have e2':σ[cap[j]!]?=some (some v):=by
   unfold zcB at e2;rw[ybj (by rw[ya9];omega),ya9,show own+j - own=j by omega,yar]at e2;have g:cap[j]! = cap[j]:=by simp[hj]
   rw[yac hj,Option.map_some]at e2;rw[g];have e2:=yad e2;cases q:σ[cap[j]]? with
   | none=>rw[q]at e2;cases e2
   | some z=>rw[q]at e2;exact congrArg some e2
  obtain ⟨m0,_,hl⟩:=I.loc;obtain ⟨u,ru,lk⟩:=hl (cap[j]!) x v hN.symm e2' (by
   rcases hk with z | z
   ·exact .inr (.inl z)
   ·exact .inr (.inr z))
  refine ⟨u,ru,.inr ⟨zbF (env:=X.env) hf,?_⟩⟩;rcases lk with ⟨z,_⟩ | ⟨_,cc,ec,ic⟩
  ·rcases hk with q | q
   ·rw[q]at z;cases z
   ·rw[q]at z;cases z
  ·obtain ⟨c',hc'⟩:=hcl.has x (by
    have:(x,NameKind.free)∈scope.names:=by
     have hlk:=hf;obtain ⟨l1,l2,hs,hno⟩:=List.lookup_eq_some_iff.mp hlk;rw[hs];exact yay _ yaD
    exact this)
   have:=hcl.sub x c' hc';rw[ec]at this;cases this
   obtain ⟨o,ho,hd⟩:=ic;refine ⟨cc,?_,o,kp cc o ho,hd⟩;show ((z,C+1)::cl).lookup x=some cc;cases hxz:x == z with
   | true=>
    rw[eq_of_beq hxz,c.look]at hf;cases hf
   | false=>rw[yaK,hxz];exact hc'
 ·rcases lk x cc e with ⟨_,q2⟩ | ⟨_,q2⟩
  ·rw[q2];exact ⟨_,hcz⟩
  ·obtain ⟨v,o,ho,hd⟩:=cells x cc q2;exact ⟨v,o,kp cc o ho,hd⟩
 ·show upd H D (.lst []) C=none;rw[zag (Ne.symm hCD)];exact hfrC
 ·show upd H D (.lst []) cc=none;rcases lk x cc e with ⟨_,q2⟩ | ⟨_,q2⟩
  ·rw[q2,zag (Ne.symm hDz)];exact hfrZ
  ·rw[zag (cellne x cc q2).1];exact I.freeC x cc (hcl.sub x cc q2)
 ·obtain ⟨e,n,ne,nf,d⟩:=I.pin p hp;refine ⟨kp _ _ e,?_,(sz _ _ e).2,fun z=>?_,d⟩
  ·show upd H D (.lst []) p.1=none;rw[zag (sz _ _ e).1];exact n
  ·rcases yam.mp (I.stkSub p.1 z) with q | q
   ·exact ne q
   ·exact nf q
 ·show (zcB own cap σ).length=N.length;unfold zcB;rw[yap,ya9,yab,c.len]
theorem zlN {z:Str}{pins:List (Addr×Obj)}{σ:St}{H2:Hp}{s2:Shared}{N:List Str}{own:Nat}{cap:List Nat}{scope:Scope}{cl:List (Str×Addr)}{fp:List Addr}{tg elt iter:Expr}{ifs:List Expr}{pos:Pos}{J:It}{it:Addr}{tn:Nat→Heap→Prop}{g:TG}{ts:TT}{te:TE}{Q:VK}
  {E:Value→Shared→Prop} {RR:Value→Addr→Result→Shared→Prop}
  (hcalm:X.calm=true) (c:zkd X scope z N own cap) (hcl:zgP scope X.env cl)
  (hg:∀ cl C s₂ H₂ fp,PG (zbw X N scope z cl C s₂ H₂ fp) tg g) (hts:∀ cl C s₂ H₂ fp,PTs (zbw X N scope z cl C s₂ H₂ fp) ifs ts) (he:∀ cl C s₂ H₂ fp,PE (zbw X N scope z cl C s₂ H₂ fp) elt te)
  (I2:Inv X pins σ H2 s2) (T:Turn X.prog X.w X.K tg J fp it tn) (st2:tn 0 s2.heap) (f2:∀ b∈fp,FpOk X pins H2 b)
  (rd:∀ D,H2 D=none→∃ W:Nat→Nat→St→Hp→Prop,(∃ m,W 0 m (zcB own cap σ) (upd H2 D (.lst [])))∧∀ i m σ H,W i m σ H→
   (J.stop i H∧Q (.ref D) H)∨(J.go i H∧∀ x H',J.yld i H x H'→g x σ H' fun σ2 H2=>ts σ2 H2 fun b H3=>if b=true then te σ2 H3 fun y H4=>∃ xs,H4 D=some (.lst xs)∧xs.length < sizeLine∧∃ m',m' < m∧W (i+1) m' σ2 (upd H4 D (.lst (xs++[y]))) else ∃ m',m' < m∧W (i+1) m' σ2 H3))
  (hRR:∀ D C s' H',Inv X pins σ H' s'→(∃ m,s'.heap.Ns C m)→FpOk X pins H' C→Q (.ref D) H'→RR (.ref D) C (.ok .next) s') :
  wpAny (model X.prog X.w) X.A (newList []) (fun acc s₃=>wpAny (model X.prog X.w) X.A (newFunctionEnv scope X.env.globals cl [] X.env.qual none .none (some X.env)) (fun cenv s₄=>
   codeAny (model X.prog X.w) X.A (.compStart (.ListComp elt [⟨tg,iter,ifs,0⟩] scope pos) 0 (.ref it) acc { cenv with scope:=relabel scope X.env }) (RR acc cenv.locals) s₄) E s₃) E s2:=by
 have hfp:∀ b∈fp,b < s2.heap.objs.size:=fun b hb=>by
  obtain ⟨o,e,_⟩:=T.obj 0 _ st2 b hb;exact yaf e
 refine wpAny_newObj_type (zqV c.one ?_);dsimp only;generalize hHH:s2.heap.push { cls:=.type "list",dict:=none,data:=.seq ([]:List Value).toArray }=HH;generalize hh₁:(HH.push { cls:=.type "dict",data:=.dict #[] }).push { cls:=.type "cell",data:=.cell none }=h₁;have hC:HH.objs.size=s2.heap.objs.size+1:=by rw[← hHH,ybw]
 have hDC:s2.heap.objs.size≠HH.objs.size:=by rw[hC];exact yan (ybE _)
 have hCle:s2.heap.objs.size≤HH.objs.size:=by rw[hC];exact yaV _
 have kp₁:∀ b o,HH.get? b=some o→h₁.get? b=some o:=fun b o e=>hh₁ ▸ yai _ (yai _ e);have old:∀ b o,s2.heap.get? b=some o→h₁.get? b=some o:=fun b o e=>kp₁ b o (hHH ▸ yai _ e);have hnew:h₁.get? s2.heap.objs.size=some { cls:=.type "list",data:=.seq #[] }:=kp₁ _ _ (hHH ▸ yaB _ rfl);have hns₁:h₁.Ns HH.objs.size fun _=>none:=hh₁ ▸ (Heap.Ns.new HH (.type "dict")).push _;have hcz:h₁.IsCell (HH.objs.size+1) none:=by
  refine ⟨{ cls:=.type "cell",data:=.cell none },?_,rfl⟩;rw[← hh₁];have e:(HH.push { cls:=.type "dict",data:=.dict #[] }).objs.size=HH.objs.size+1:=ybw ..;rw[← e];exact yaB _ rfl
 have I3:∀ tk,Inv (zbw X N scope z cl HH.objs.size s2 H2 fp) pins (zcB own cap σ) (upd H2 s2.heap.objs.size (.lst [])) { s2 with heap:=h₁,toks:=tk }:=fun tk=>
  znl I2 c hcl f2 (yaa _) hCle hDC old hnew ⟨_,hns₁⟩ hcz (by rw[hC];exact yan (ycj (ybE _))) hfp hcalm
 obtain ⟨W,⟨m0,w0⟩,turn⟩:=rd s2.heap.objs.size (I2.hok.fresh (yaa _));have st3:tn 0 h₁:=T.keep _ _ _ st2 fun b _ o e=>old b o e;have fr3:∀ b∈fp,upd H2 s2.heap.objs.size (.lst []) b=none:=fun b hb=>by rw[zag (yan (hfp b hb))];exact (f2 b hb).1
 have stat:∀{H':Hp},(∀ b∈fp,H' b=none)→∀ b∈fp,FpOk (zbw X N scope z cl HH.objs.size s2 H2 fp) pins H' b:=fun hn b hb=>by
  obtain ⟨_,h2,h3,_,h5,h6⟩:=f2 b hb;refine ⟨hn b hb,yan (yaw (hfp b hb) hCle),fun z=>?_,.inl hb,fun x cc e=>?_,h6⟩
  ·rcases yam.mp (I2.stkSub b z) with q | q
   ·exact h2 q
   ·exact h3 q
  ·have e:((_,HH.objs.size+1)::cl).lookup x=some cc:=e;rw[yaK]at e;split at e
   ·exact fun q=>absurd (show HH.objs.size+1 < s2.heap.objs.size from (by rw[yad e,q];exact hfp b hb)) (ybB.mpr (yao hCle (yaV _)))
   ·exact h5 x cc (hcl.sub x cc e)
 have loop:∀ s₃:Shared,s₃={ s2 with heap:=h₁ }→
   codeAny (model X.prog X.w) X.A (.compLoop (.ListComp elt [⟨tg,iter,ifs,0⟩] scope pos) 0 (.ref it) (.ref s2.heap.objs.size) (compEnvC scope ((z,HH.objs.size+1)::cl) HH.objs.size X.env)) (RR (.ref s2.heap.objs.size) HH.objs.size) s₃:=by
  rintro s₃ rfl;refine zgC (fun n s'=>∃ i σ' H',Inv (zbw X N scope z cl HH.objs.size s2 H2 fp) pins σ' H' s'∧tn i s'.heap∧(∀ b∈fp,H' b=none)∧W i n σ' H') ?_ m0 ⟨0,_,_,I3 _,st3,fr3,w0⟩;rintro n s3 ⟨i,σ3,H3,J3,t3,fr,w3⟩;rcases turn i n σ3 H3 w3 with ⟨stop,qn⟩ | ⟨go,step⟩
  ·refine thn (T.done (zbw X N scope z cl HH.objs.size s2 H2 fp) rfl rfl rfl hcalm i pins s3 σ3 H3 (fun _ _=>False) J3 (stat fr) t3 stop) fun r s4 zq0=>?_;obtain ⟨hr,I4⟩:=zq0;subst hr;obtain ⟨mm,hmm,_⟩:=I4.loc;refine hRR _ _ s4 H3 (I2.call' I4.os I4.base I4.hok I4.bare fun b hb=>?_) ⟨mm,hmm⟩ (I2.fpOk hCle I4.free) qn;obtain ⟨_,h2,_,h4,h5,h6⟩:=f2 b hb;exact ⟨h4,h2,h5,h6⟩
  ·refine thn (T.item (zbw X N scope z cl HH.objs.size s2 H2 fp) rfl rfl rfl hcalm i pins s3 σ3 H3 (fun _ _=>False) J3 (stat fr) t3 go) fun r s4 zq0=>?_;obtain ⟨u,hr,h4⟩:=zq0;subst hr;refine thn h4 fun _ s5 zq0=>?_;obtain ⟨x,H5,I5,r5,y5,st5,fr5⟩:=zq0;have I5':=I5.pinned (stat fr5) (T.obj _ _ st5);have back:∀{σ7:St} {H7:Hp} {s7:Shared} {m':Nat},Inv (zbw X N scope z cl HH.objs.size s2 H2 fp) (pins++zg2 fp s5.heap) σ7 H7 s7→W (i+1) m' σ7 H7→∃ i σ' H',Inv (zbw X N scope z cl HH.objs.size s2 H2 fp) pins σ' H' s7∧tn i s7.heap∧(∀ b∈fp,H' b=none)∧W i m' σ' H':=fun {σ7 H7 s7 m'} I7 w7=>by
    refine ⟨i+1,σ7,H7,I7.unpinned,T.keep _ _ _ st5 fun b hb o e=>(I7.pin (b,o) (yay _ (yay _ (zcw hb e)))).1,fun b hb=>?_,w7⟩;obtain ⟨o,e,d⟩:=T.obj _ _ st5 b hb;exact (I7.pin (b,o) (yay _ (yay _ (zcw hb e)))).2.1
   refine thn (hg cl HH.objs.size s2 H2 fp _ s5 σ3 H5 x u _ I5' r5 (step x H5 y5)) fun _ s6 zq0=>?_;obtain ⟨σ6,H6,I6,q6⟩:=zq0;refine thn (hts cl HH.objs.size s2 H2 fp _ s6 σ6 H6 _ I6 q6) fun b s7 zq0=>?_;obtain ⟨H7,I7,q7⟩:=zq0;cases b with
   | false=>
    rw[if_neg yaA]at q7 ⊢;obtain ⟨m',hm,w7⟩:=q7;exact ⟨m',hm,back I7 w7⟩
   | true=>
    rw[if_pos rfl]at q7 ⊢;refine thn (he cl HH.objs.size s2 H2 fp _ s7 σ6 H7 _ I7 q7) fun v s8 zq0=>?_;obtain ⟨y,H8,I8,r8,q8⟩:=zq0;obtain ⟨xs,hx,hz,m',hm,w8⟩:=q8;refine thn (zaU (X:=zbw X N scope z cl HH.objs.size s2 H2 fp) _ s8 σ6 H8 (.ref s2.heap.objs.size) [y] (.ref s2.heap.objs.size) [v] (fun _ H9=>H9=upd H8 s2.heap.objs.size (.lst (xs++[y]))) I8 rfl (.cons r8 .nil) ⟨_,xs,y,rfl,rfl,hx,hz,rfl⟩) fun _ s9 zq0=>?_;obtain ⟨_,H9,I9,_,e9⟩:=zq0;subst e9;exact ⟨m',hm,back I9 w8⟩
 refine codeAny_compStart_list (loop _ rfl) ?_;exact T.self _ 0 _ _ _ st3 (loop _ rfl)
theorem zog (z:Str){i:Nat}{x:Str}{N:List Str}{own:Nat}{cap:List Nat}{scope:Scope}{tg elt iter:Expr}{ifs:List Expr}{pos pos' spos:Pos}{wi:TI}{g:TG}{ts:TT}{te:TE}(hN:X.N.Nodup)(hxi:X.N[i]?=some x)(hx:X.env.scope.names.lookup x=some .local)(hcalm:X.calm=true)(hi:PI X tg iter wi)(c:zkd X scope z N own cap)
  (hg:∀ cl C s₂ H₂ fp,PG (zbw X N scope z cl C s₂ H₂ fp) tg g) (hts:∀ cl C s₂ H₂ fp,PTs (zbw X N scope z cl C s₂ H₂ fp) ifs ts) (he:∀ cl C s₂ H₂ fp,PE (zbw X N scope z cl C s₂ H₂ fp) elt te)
  (hsw:swapsWith (.ListComp elt [⟨tg,iter,ifs,0⟩] scope pos) (some (.Name x pos')) spos.line X.env=pure true:=by rfl)
  (hs:∀ x,foldedSetIterable iter X.env x=pure x:=by intro _;rfl):PS X (.Assign [.Name x pos'] (.ListComp elt [⟨tg,iter,ifs,0⟩] scope pos) spos) (tAsg (zpX own cap wi g ts te) (zib i)):=by
 intro pins s σ H D I h;obtain ⟨cl,hcl⟩:=zfb (scope:=scope) (env:=X.env) fun x hx=>I.ok.has x (by
  have:=yaU.mp c.frees _ hx;simpa using this)
 rw[exec_Assign_Name_used _ _ _ _ hsw];refine wpAny_bind (wpAny_standAt (wpAny_bind ?_));show wpAny _ X.A (do let _ ← comprehension (.ListComp elt [⟨tg,iter,ifs,0⟩] scope pos) scope X.env _ (newList []) false (eval iter X.env) (some (assign (.Name x pos') X.env))) _ _ s
 refine wpAny_bind (wpAny_mono (wpAny_comprehension_free (use:=some (assign (.Name x pos') X.env)) (Q:=fun _ s'=>SP X pins D .next s') rfl hs hcl.eq c.kind (fun x hx hl=>by
  have:=yaU.mp c.locs x hx;rw[hl]at this;simpa using this) (thn (hi pins s σ H _ I h) fun v s1 h1=>thn h1 fun itv s2 h2=>?_)) (fun _ s' hq=>wpAny_pure (wpAny_pure hq)) fun _ _ e=>e)
 obtain ⟨it,fp,tn,J,H2,e,I2,T,st2,f2,rd⟩:=h2;subst e;refine zlN (RR:=fun acc C=>compPost (model X.prog X.w) X.A X.xe (some (assign (.Name x pos') X.env)) (fun _ s'=>SP X pins D .next s') acc C) (Q:=fun x H1=>zib i x σ H1 D.nx) hcalm c hcl hg hts he I2 T st2 f2 rd ?_;intro Dd C s' H' I' hm fC q;obtain ⟨m,hm⟩:=hm;have hne:∀ a,(a=X.env.locals∨X.env.cells.lookup x=some a)→a≠C:=fun a z=>by
  obtain ⟨f0,f1,f2,f3,f4,f5⟩:=fC;rcases z with z | z
  ·rw[z];exact Ne.symm f1
  ·exact f4 x a z
 show wpAny _ X.A (assign (.Name x pos') X.env (.ref Dd)) _ _ _;refine wpAny_assign_Name (zgd I' hN hxi (.inl hx) (v:=.ref Dd) rfl (fun s'' I'' hch=>?_) (.inr hx));obtain ⟨a,hsb,ha⟩:=hch;refine ⟨m,hm.sameBut hsb (Ne.symm (hne a ha)),fun h' hs'=>?_⟩;obtain ⟨f0,f1,f2,f3,f4,f5⟩:=fC;exact ⟨_,H',I''.turned (t':=s''.toks) (fun b o hb e=>(hs'.2 b hb).trans e) f0 f1 f3 f4 f5,q⟩
end
end L2
namespace L2
open PySem PySem.Spec PyProof.Rows PySem.SeqAt
theorem RelV.uniq {x y:V}{u:Value}(h:RelV x u)(g:RelV y u):x=y:=by
 cases x <;> cases y <;> (unfold RelV at h g) <;> (first | (obtain ⟨_,rfl⟩:=h) | subst h) <;> (first | (obtain ⟨_,g⟩:=g;cases g <;> rfl) | (cases g <;> rfl) | rfl)
theorem znS (its:List Value)(e:Value→Bool):its.toArray.any e=its.any e:=by simp
def rInD (α:Type)[Rep α](K:Frag)(neg:Bool):R2:=fun x y H Q=>∃(p:Addr) (xs:List V) (a:α) (as:List α),y=.ref p∧(SqL K H p xs∨SqT K H p xs)∧Rep.has K H a x∧zal K H as xs∧∀ b:Bool,(b=true↔a∈as)→Q (.bl (if neg then !b else b)) H
section
variable {X:Cx}{α:Type}[Rep α]
theorem zq6 {pins:List (Addr×Obj)}{σ:St}{H:Hp}{s:Shared}(I:Inv X pins σ H s){a:α}{e:Value→Bool}(he:∀ u,e u=true↔∃ y,RelV y u∧Rep.has X.K H a y):∀{as:List α} {xs:List V} {us:List Value},zal X.K H as xs→Vals xs us→us.any e=decide (a∈as)
 | _,_,_,.nil,.nil=>rfl
 | b::as,x::xs,u::us,.cons h t,.cons r t2=>by
  rw[ybf,zq6 I he t t2];by_cases z:a=b
  ·subst z;rw[(he u).mpr ⟨x,r,h⟩,yag yaD];rfl
  ·have e1:e u=false:=by
    cases c:e u with
    | false=>rfl
    | true=>
     obtain ⟨y,r2,h2⟩:=(he u).mp c;rw[RelV.uniq r2 r]at h2;exact absurd (Rep.inj I h2 h) z
   rw[e1,Bool.false_or];by_cases m:a∈as
   ·rw[yag m,yag (yaF _ m)]
   ·rw[yah m,yah (fun q=>(yam.mp q).elim z m)]
theorem zqv {pins:List (Addr×Obj)}{σ:St}{H:Hp}{s:Shared}{A:Around}(I:Inv X pins σ H s)(hu:A.units+Rep.depth α < cLine){a:α}{x0:V}{v:Value}(ha:Rep.has X.K H a x0)(rv:RelV x0 v){e:Value→Bool}(he:∀ u,e u=true↔∃ y,RelV y u∧Rep.has X.K H a y):∀{as:List α} {xs:List V} {us:List Value},zal X.K H as xs→Vals xs us→∀ u∈us,EqAt A s u v (e u)
 | _,_,_,.nil,.nil=>fun u hu=>by cases hu
 | b::as,x::xs,u::us,.cons h t,.cons r t2=>fun u' hm=>by
  rcases yam.mp hm with z | z
  ·subst z;have q:=Rep.eq (A:=A) I hu h ha r rv;have e2:e u'=(Rep.dec b a).decide:=by
    by_cases c:b=a
    ·have e3:(Rep.dec b a).decide=true:=yag c;rw[e3];exact (he u').mpr ⟨x,r,c ▸ h⟩
    ·have e3:(Rep.dec b a).decide=false:=yah c;rw[e3];cases k:e u' with
     | false=>rfl
     | true=>
      obtain ⟨y,r2,h2⟩:=(he u').mp k;rw[RelV.uniq r2 r]at h2;exact absurd (Rep.inj I h h2) c
   rw[e2];exact q
  ·exact zqv I hu ha rv he t t2 u' z
theorem zmO (α:Type)[Rep α](hu:X.A.units+Rep.depth (List α) < cLine):OpR X (compareOp .NotIn) (rInD α X.K true):=by
 intro pins s σ H x y v u Q I rx ry h;obtain ⟨p,xs,a,as,rfl,hq,ha,hs,q⟩:=h;cases ry
 have hin:X.A.in1.units+Rep.depth α < cLine:=ya1 (ybl zbU _) (by have e:Rep.depth (List α)=Rep.depth α+1:=rfl;omega);have he:∀ u,(@decide (∃ y,RelV y u∧Rep.has X.K H a y) (Classical.propDecidable _))=true↔∃ y,RelV y u∧Rep.has X.K H a y:=fun u=>by
  exact @decide_eq_true_iff _ (Classical.propDecidable _)
 rcases hq with hq | hq
 ·obtain ⟨its,r,pl,hz⟩:=I.list hq;refine SeqAt.notIn_listAt _ pl.isList (fun w hw=>zqv I hin ha rx he hs r w (by simpa using hw)) ⟨.bl _,H,I,rfl,?_⟩;rw[znS,zq6 I he hs r];exact q _ decide_eq_true_iff
 ·obtain ⟨its,r,pl,hz⟩:=I.tuple hq;refine SeqAt.notIn_tupleAt _ pl (fun w hw=>zqv I hin ha rx he hs r w (by simpa using hw)) ⟨.bl _,H,I,rfl,?_⟩;rw[znS,zq6 I he hs r];exact q _ decide_eq_true_iff
end
end L2
namespace L2
open PySem PySem.Spec PyProof.Rows
def ItF (hi:Int)(n:Nat):It:=⟨fun i _=>i < n,fun i H x H'=>H'=H∧x=.int (hi - i),fun i _=>n≤i⟩
theorem zl6 {P:Program}{w:World}{K:Frag}{tg:Expr}(it:Addr)(hi:Int)(n:Nat):Turn P w K tg (ItF hi n) [it] it (fun i h=>IsRangeIter h it (hi+(i:Nat) * (-1)) ((n:Int) - (i:Nat)) (-1)) where
 mem:=by simp
 obj:=fun i h st b hb=>by
  have e:b=it:=by simpa using hb
  subst e;exact ⟨_,st,fun v z=>by
   have z':Data.fields _=Data.cell v:=z;cases z'⟩
 keep:=fun i h h' st k=>k it (by simp) _ st
 item:=by
  intro X hP hw hK hc i pins s σ H E I hf st hg;subst hP hw hK;obtain ⟨f0,f1,f2,f3,f4,f5⟩:=hf it (by simp);have W:=Walks.range (prog:=X.prog) (w:=X.w) (I.ok.hd hc) it hi (-1) n;refine W.item i s _ _ hg st fun v h' tk hv st' kk=>?_;obtain ⟨t,rfl⟩:=hv;have I1:Inv X pins σ H { s with heap:=h',toks:=tk }:=I.turned (fun b o hb e=>kk b o (by simpa using hb) e) f0 f1 f3 f4 f5;refine ⟨_,rfl,znt (s:={ s with heap:=h',toks:=tk }) (n := "range_iterator") st' rfl rfl (by decide) ⟨.int (hi - i),H,I1,⟨t,?_⟩,⟨rfl,rfl⟩,st',fun b hb=>(hf b hb).1⟩⟩;rw[show hi+((i:Nat):Int) * (-1)=hi - i by omega]
 done:=by
  intro X hP hw hK hc i pins s σ H E I hf st hg;subst hP hw hK;obtain ⟨f0,f1,f2,f3,f4,f5⟩:=hf it (by simp);exact wpAny_pyNext_range_end (I.ok.hd hc) st (by have:n≤i:=hg;omega) fun h' eb=>⟨rfl,I.turned (t':=s.toks) (fun b o hb e=>eb b o hb e) f0 f1 f3 f4 f5⟩
 self:=fun _ _ _ _ _ st h=>wpAny_pyIter_rangeiter st h
theorem ziG (a b:Int):Builtin.Range.rangeSize a b (-1)=if a > b then a - b else 0:=by
 unfold Builtin.Range.rangeSize;rw[if_neg (by decide)];split
 ·rw[show -(-1:Int)=1 from rfl,Int.ediv_one];omega
 ·rfl
theorem zli {a b:Int}(ha:-(2 ^ 62)≤a)(ha':a < 2 ^ 62)(hb:-(2 ^ 62)≤b)(hb':b < 2 ^ 62):Builtin.Range.small a b (-1)=true:=by
 unfold Builtin.Range.small;rw[ziG];simp only[Builtin.Range.rangeFitsLong,ybk,Bool.or_eq_true,decide_eq_true_eq,beq_iff_eq,show ¬ (-1:Int) > 0 by decide,if_false];split <;> omega
section
variable {X:Cx}{tg:Expr}
theorem zqU {pins:List (Addr×Obj)}{σ:St}{H:Hp}{s:Shared}{R:It→Hp→Prop}{E:Value→Shared→Prop}{hi lo:Int}{t u v:Tok}{tk:Nat}(I:Inv X pins σ H s)(h1:-(2 ^ 62)≤hi)(h2:hi < 2 ^ 62)(h3:-(2 ^ 62)≤lo)(h4:lo < 2 ^ 62)
  (q:R (ItF hi (hi - lo).toNat) H):wpAny (model X.prog X.w) X.A (pyIter (.ref s.heap.objs.size)) (PIE X pins σ tg R) E { s with heap:=s.heap.push { cls:=.type "range",data:=.fields #[.int hi t,.int lo u,.int (-1) v] },toks:=tk }:=by
 refine wpAny_pyIter_range (IsRange.new ..) (zli h1 h2 h3 h4) ?_;have I1:Inv X pins σ H { s with heap:=s.heap.push { cls:=.type "range",data:=.fields #[.int hi t,.int lo u,.int (-1) v] },toks:=tk }:=I.kept fun b o e=>yai _ e;refine ⟨(s.heap.push { cls:=.type "range",data:=.fields #[.int hi t,.int lo u,.int (-1) v] }).objs.size,[(s.heap.push { cls:=.type "range",data:=.fields #[.int hi t,.int lo u,.int (-1) v] }).objs.size],_,_,H,rfl,
  I1.kept (t':=tk) fun b o e=>yai _ e,zl6 _ hi (hi - lo).toNat,?_,fun b hb=>?_,q⟩
 ·have e1:hi+((0:Nat):Int) * (-1)=hi:=by simp
  have e2:(((hi - lo).toNat:Nat):Int) - ((0:Nat):Int)=Builtin.Range.rangeSize hi lo (-1):=by rw[ziG];split <;> omega
  show IsRangeIter _ _ (hi+((0:Nat):Int) * (-1)) ((((hi - lo).toNat:Nat):Int) - ((0:Nat):Int)) (-1);rw[e1,e2];exact yaB _ rfl
 ·have e:b=(s.heap.push { cls:=.type "range",data:=.fields #[.int hi t,.int lo u,.int (-1) v] }).objs.size:=by simpa using hb
  subst e;exact I1.fpOk (yaa _) (I1.hok.fresh (yaa _))
def zsL (ta:TA):TI:=fun σ H R=>ta σ H fun vs H1=>∃ i j:Int,vs=[.int i,.int j,.int (-1)]∧(-(2 ^ 62)≤i∧i < 2 ^ 62∧-(2 ^ 62)≤j∧j < 2 ^ 62)∧R (ItF i (i - j).toNat) H1
theorem zmF {a b c:Expr}{ta:TA}{p pos:Pos}(hg:Gl X "range")(hm:X.mg "range" = none)(ha:PA X [a,b,c] ta)(hs:starEach [a,b,c] X.env=[(false,eval a X.env),(false,eval b X.env),(false,eval c X.env)]:=by rfl)(hs2:starEach [b,c] X.env=[(false,eval b X.env),(false,eval c X.env)]:=by rfl) :
  PI X tg (.Call (.Name "range" p) [a,b,c] [] pos) (zsL ta):=by
 intro pins s σ H R I h;refine Call_ (ze1 I hg hm boot_range (PyProof.Rows.callWith_type1 (thn (ha pos pins s σ H _ I h) fun us s1 zq0=>?_) (by rw[hs,hs2]) (by rw[hs2];rfl)));obtain ⟨vs,H1,I1,r1,q1⟩:=zq0;obtain ⟨i,j,e,⟨q1,q2,q3,q4⟩,q⟩:=q1;subst e;cases r1 with
 | cons r rr=>
  cases rr with
  | cons r' rr=>
   cases rr with
   | cons r2 rr=>
    cases rr
    obtain ⟨t,rfl⟩:=r;obtain ⟨t',rfl⟩:=r';obtain ⟨t2,rfl⟩:=r2;exact call_range_3 (by decide) (zqU I1 q1 q2 q3 q4 q) (Or.inl (PyProof.noPylong_small (by decide)))
end
theorem zo2 {hi:Int}{n:Nat}{g:TG}{tb:TS}{D:Ends}{σ:St}{H:Hp}(Pv:Nat→St→Hp→Prop)(h0:Pv 0 σ H)
  (hs:∀ i σ H,i < n→Pv i σ H→g (.int (hi - i)) σ H fun σ2 H2=>tb { D with nx:=Pv (i+1),ct:=Pv (i+1),bk:=D.nx } σ2 H2) (hd:∀ σ H,Pv n σ H→D.nx σ H) :
  ∃ W:Nat→Nat→St→Hp→Prop,(∃ m,W 0 m σ H)∧∀ i m σ H,W i m σ H→
   ((ItF hi n).stop i H∧D.nx σ H)∨((ItF hi n).go i H∧∃ N:St→Hp→Prop,(∀ σ' H',N σ' H'→∃ m',m' < m∧W (i+1) m' σ' H')∧∀ x H',(ItF hi n).yld i H x H'→g x σ H' fun σ2 H2=>tb { D with nx:=N,ct:=N,bk:=D.nx } σ2 H2):=by
 refine ⟨fun i m σ H=>m=n - i∧i≤n∧Pv i σ H,⟨n,by simp,yaC _,h0⟩,?_⟩;rintro i m σ H ⟨rfl,hi,p⟩;by_cases hlt:i < n
 ·refine .inr ⟨hlt,Pv (i+1),fun σ' H' p'=>⟨n - (i+1),by omega,rfl,hlt,p'⟩,fun x H' y=>?_⟩;obtain ⟨e,y⟩:=y;subst e y;exact hs i σ _ hlt p
 ·have e:i=n:=by omega
  subst e;exact .inl ⟨yaa _,hd σ H p⟩
end L2
namespace L2
open PySem PySem.Spec PyProof.Rows
structure zim (scope:Scope)(ps caps:List Str):Prop where
 kind:scope.kind=.function
 co:scope.isCoroutine=false
 gen:scope.isGenerator=false
 nocell:∀ x∈scope.names,x.2≠.cell
 par:∀ x∈ps,scope.names.lookup x=some .local
 cap:∀ x∈caps,scope.names.lookup x=some .free
 nd:(ps++caps).Nodup
def zo8 (P:Program)(w:World)(K:Frag)(mg:Str→Option Value)(base:Heap)(N:List Str)(qual:Str)(scope:Scope)(f:Addr)(cd:Value)(cl:List (Str×Addr))(A:Around)(outer:List Env)(s:Shared)(H:Hp):Cx where
 prog:=P
 w:=w
 K:=K
 mg:=mg
 base:=base
 A:=A.deeper (PySem.W.envX qual scope s.heap.objs.size f cd cl)
 N:=N
 s₀:=s
 H₀:=H
 env:=PySem.W.envX qual scope s.heap.objs.size f cd cl
 outer:=outer
 stack:=PySem.W.envX qual scope s.heap.objs.size f cd cl::outer
 ex:=[]
 calm:=true
 fn:=fun _=>false
 pn:=[]
 xe:=fun _ _=>False
def znI (c:Addr)(q:Str):Heap→Prop:=fun h=>h.CodeRec (.ref c) q
def zhr (H:Hp)(c:Addr)(q:Str):Prop:=H c=some (.ext (znI c q))
theorem zlO {c:Addr}{q:Str}(h1 h2:Heap)(x:znI c q h1)(k:∀ o,h1.get? c=some o→h2.get? c=some o):znI c q h2:=by
 obtain ⟨c',o,vs,t,e,ho,r⟩:=x;cases e
 exact ⟨c,o,vs,t,rfl,k o ho,r⟩
theorem zhr.rec {P:Program}{w:World}{H:Hp}{h:Heap}{c:Addr}{q:Str}(x:zhr H c q)(ok:HOk P w H h):h.CodeRec (.ref c) q:=(ok c _ x).1
theorem zg0 {x:Str}{u:Value}:∀{ps:List Str} {us:List Value} {i:Nat},ps.Nodup→ps[i]?=some x→us[i]?=some u→(ps.zip us).reverse.lookup x=some u
 | [],_,_,_,e,_=>by simp at e
 | _::_,[],_,_,_,e=>by simp at e
 | p::ps,v::us,0,hn,e1,e2=>by
  have e1:p=x:=by simpa using e1
  have e2:v=u:=by simpa using e2
  subst e1 e2;rw[ycz,ycl,List.lookup_append];have z:(ps.zip us).reverse.lookup p=none:=by
   rw[List.lookup_eq_none_iff];intro y hy;have:=ybS (yb2.mp hy);simp only[beq_eq_false_iff_ne,ne_eq,bne_iff_ne];intro q;rw[yaW]at hn
   first
    | exact hn.1 (q ▸ this.1)
    | (rw[q]at hn;exact hn.1 this.1)
  rw[z];simp
 | p::ps,v::us,i+1,hn,e1,e2=>by
  rw[yaW]at hn;have ih:=zg0 (ps:=ps) (us:=us) (i:=i) hn.2 (by simpa using e1) (by simpa using e2);rw[ycz,ycl,List.lookup_append,ih];rfl
def zp2 (n:Nat)(tb:TE)(vcs:List V)(c:Addr)(q:Str):Sp:=fun vs H Q _=>vs.length=n∧zhr H c q∧tb (vs.map some++vcs.map some) H Q
theorem zr5 {P:Program}{w:World}{K:Frag}{mg:Str→Option Value}{base:Heap}{k:Nat}{f c:Addr}{name qual:Str}{params:Arguments}{body:Expr}{scope:Scope}{cl:List (Str×Addr)}{pm ctv:Value}{ps caps:List Str}{vcs:List V}{tb:TE}
  (S:zim scope ps caps) (hf:base.get? f=some (PySem.W.kla_obj name qual params body scope cl pm c ctv)) (hlen:vcs.length=caps.length)
  (hcap:∀(j:Nat) (x:Str) (v:V),caps[j]?=some x→vcs[j]?=some v→∃ a u,cl.lookup x=some a∧base.IsCell a (some u)∧RelV v u)
  (hcell:∀ x a,cl.lookup x=some a→∃ v,base.IsCell a v) (hinj:∀ x y a,cl.lookup x=some a→cl.lookup y=some a→x=y) (hhas:∀ x,scope.names.lookup x=some .free→∃ a,cl.lookup x=some a)
  (hb:∀(A:Around) (outer:List Env) (s:Shared) (H:Hp),Room k (A.deeper (PySem.W.envX qual scope s.heap.objs.size f (.ref c) cl))→PE (zo8 P w K mg base (ps++caps) qual scope f (.ref c) cl A outer s H) body tb) :
  FnOk P w K mg base CX0 (k+1) f (PySem.W.kla_fn name qual params body scope cl pm (.ref c) ctv) ps (zp2 ps.length tb vcs c qual):=by
 refine ⟨fun vs H Q E h=>h.1,fun A outer s H args us vs Q E hr e0 hbind r hsp=>?_⟩;obtain ⟨hl,hc,hq⟩:=hsp;have bk:∀ b o,base.get? b=some o→s.heap.get? b=some o:=fun b o e=>(e0.bs b o e).1;have hul:us.length=ps.length:=by rw[← r.length];exact hl
 refine PySem.W.kla_callFunE hr.depth (bk _ _ hf) rfl S.co S.gen rfl (hc.rec e0.hok) ?_;refine hbind _ _ _ _ ?_;refine wpAny_newFunctionEnv S.nocell (fun y hy=>S.par _ (ybS hy).1) (fun h1 hns hsb=>⟨(e0.mod.nolimit.keeps bk).fresh _ hsb,?_⟩) S.kind;show codeAny _ _ (.expr body (PySem.W.envX qual scope s.heap.objs.size f (.ref c) cl)) _ _;have hk:∀ b o,s.heap.get? b=some o→h1.get? b=some o:=fun b o e=>hsb.extBut b o (yan (yaf e)) (yai _ e);have cellK:∀ a v,base.IsCell a v→h1.IsCell a v∧H a=none:=fun a v ⟨o,ho,hd⟩=>⟨⟨o,hk _ _ (bk _ _ ho),hd⟩,(e0.bs _ _ ho).2⟩;have ndps:ps.Nodup:=(ybc.mp S.nd).1;have noA:∀ b:Addr,b∉([]:List Addr):=fun b z=>absurd z (by simp);have I:Inv (zo8 P w K mg base (ps++caps) qual scope f (.ref c) cl A outer s H) [] (vs.map some++vcs.map some) H { s with heap:=h1,toks:=s.toks+(ps.zip us).length }:=by
  refine ⟨⟨e0.mod,S.kind,rfl,rfl,yaa _,hinj,fun y hy=>?_,fun y a z _=>(by cases z),fun _=>hr.hd,Around.frames_deeper e0.frames,.inr ⟨rfl,rfl⟩,fun b z=>absurd z (noA b),e0.bs,e0.bsz,fun b _ _=>noA b,fun b z=>absurd z (noA b),e0.funs,e0.frf⟩,
   rfl,e0.bare,Un.kept hk,⟨_,hns,fun i y v h1' h2 h3=>?_⟩,fun y a h=>?_,e0.hok.fresh (yaa _),fun y a h=>?_,fun p hp=>absurd (show p∈([]:List (Addr×Obj)) from hp) (by simp),e0.hok.kept hk,?_⟩
  ·have hy:scope.names.lookup y=some .cell∨scope.names.lookup y=some .free:=hy;rcases hy with hy | hy
   ·exact absurd rfl (S.nocell _ (PySem.mem_of_lookup hy))
   ·exact hhas y hy
  ·have h1':(ps++caps)[i]?=some y:=h1';by_cases hi:i < ps.length
   ·rw[ybp hi]at h1';rw[ybp (by rw[yab];omega),yar]at h2;cases e:vs[i]? with
    | none=>rw[e]at h2;cases h2
    | some v'=>
     rw[e]at h2;cases h2
     obtain ⟨u,hu,ru⟩:=r.get e;exact ⟨u,ru,.inl ⟨S.par y (yaE h1'),zg0 ndps h1' hu⟩⟩
   ·rw[ybj (by omega)]at h1';rw[ybj (by rw[yab];omega),yab,yar]at h2;cases e:vcs[i - vs.length]? with
    | none=>rw[e]at h2;cases h2
    | some v'=>
     rw[e]at h2;cases h2
     rw[hl]at e;obtain ⟨a,u,e1,e2,ru⟩:=hcap _ _ _ h1' e;exact ⟨u,ru,.inr ⟨.inr (S.cap y (yaE h1')),a,e1,(cellK _ _ e2).1⟩⟩
  ·obtain ⟨v,z⟩:=hcell y a h;exact ⟨v,(cellK _ _ z).1⟩
  ·obtain ⟨v,z⟩:=hcell y a h;exact (cellK _ _ z).2
  ·show (vs.map some++vcs.map some).length=(ps++caps).length;rw[yap,yap,yab,yab,hl,hlen]
 refine PySem.W.kla_codeExpr (wpAny_mono (hb A outer s H (hr.deeper _) [] _ _ H Q I hq) (fun u s' hu=>?_) fun _ _ z=>(show False from z).elim);obtain ⟨v,H',J,rv,q⟩:=hu;exact ⟨v,H',J.os,J.bare,J.base,J.hok,rv,q⟩
end L2
namespace L2
open PySem PySem.Spec PyProof.Rows
def Gro (Pt:Addr)(H H':Hp):Prop:=∀ b o,b≠Pt→H b=some o→H' b=some o
theorem Gro.refl (Pt:Addr)(H:Hp):Gro Pt H H:=fun _ _ _ h=>h
structure zbo (H:Hp)(Pt:Addr)(pos:Pos)(q:Str):Prop where
 ex:∃ tab:Array Value,H Pt=some (.tbl tab)∧TriplesOk tab.toList∧(codeAmong pos tab.toList=none∨∃ c,codeAmong pos tab.toList=some (.ref c)∧zhr H c q)
theorem zbo.ext {H H':Hp}{Pt:Addr}{pos:Pos}{q:Str}(x:zbo H Pt pos q)(e:Ext H H'):zbo H' Pt pos q:=by
 obtain ⟨tab,h1,h2,h3⟩:=x.ex;refine ⟨tab,e _ _ h1 (fun _ z=>nomatch z),h2,?_⟩;rcases h3 with h3 | ⟨c,h3,h4⟩
 ·exact .inl h3
 ·exact .inr ⟨c,h3,e _ _ h4 (fun _ z=>nomatch z)⟩
def BMAt (mg:Str→Option Value)(base:Heap):Prop:=∃ bm o,mg "__builtins__" = some (.ref bm)∧bm≠builtinsNs∧bm≠mainGlobals∧base.get? bm=some o∧o.cls=.type "module"∧o.dict=some builtinsNs∧o.data=.plain
section
variable {X:Cx}{pins:List (Addr×Obj)}{σ:St}{H:Hp}{s:Shared}{params:Arguments}{body:Expr}{scope:Scope}{lpos:Pos}{c Pt:Addr}{Q:Value→Shared→Prop}
theorem zoZ {c':Addr}{q:Str}{tab more:Array Value}{h':Heap}{tk:Nat}(I:Inv X pins σ H s)(hP:H Pt=some (.tbl tab))(hx:∀ b o,b≠Pt→s.heap.get? b=some o→h'.get? b=some o)(hge:s.heap.objs.size≤c')
  (hrec:h'.CodeRec (.ref c') q) (htb:h'.get? Pt=some (PySem.W.tabObj (tab++more))):Inv X pins σ (upd (upd H Pt (.tbl (tab++more))) c' (.ext (znI c' q))) { s with heap:=h',toks:=tk }:=by
 have hfr:H c'=none:=I.hok.fresh hge;have nPc:Pt≠c':=zac hP hfr;have low:∀ b u,H b=some u→b≠c':=fun b u e=>zac e hfr;have lows:∀ b o,s.heap.get? b=some o→b≠c':=fun b o e=>yan (yaw (yaf e) hge);have nP:∀ b,H b=none→b≠Pt:=fun b n z=>by rw[z,hP]at n;cases n
 refine I.un (t':=tk) ⟨fun b o e n _ _=>hx b o (nP b n) e,fun b o e n _ _=>⟨o.slots,hx b o (nP b n) e⟩,fun b o e n _=>?_,fun b o e _=>?_,fun b xs e=>?_,fun b o u e=>?_,fun b ps e=>?_⟩ fun a o e=>?_
 ·rw[zag (lows b o e),zag (nP b n)];exact n
 ·by_cases z:b=Pt
  ·exact ⟨_,by rw[z];exact htb⟩
  ·exact ⟨o,hx b o z e⟩
 ·rw[zag (low b _ e),zag (fun z=>by rw[z,hP]at e;cases e)]
  exact e
 ·rw[zag (low b _ e),zag (fun z=>by rw[z,hP]at e;cases e)]
  exact e
 ·by_cases z:b=Pt
  ·rw[z,hP]at e;cases e
   exact ⟨more,by rw[z,zag nPc,zab]⟩
  ·exact ⟨#[],by rw[zag (low b _ e),zag z,e];simp⟩
 ·by_cases z:a=c'
  ·subst z;rw[zab]at e;cases e
   obtain ⟨c2,o2,vs,t,e2,ho2,r2⟩:=id hrec;cases e2
   exact ⟨hrec,⟨o2,ho2⟩,fun h1 h2 x k=>zlO h1 h2 x k⟩
  ·rw[zag z]at e;by_cases y:a=Pt
   ·subst y;rw[zab]at e;cases e
    exact htb
   ·rw[zag y]at e;refine (I.hok a o e).stay (fun b u hb q=>hx b u ?_ q) (fun b q=>?_) fun b xs q=>?_
    ·rcases hb with rfl | hb
     ·exact y
     ·intro z2;rw[z2,hP]at hb;cases hb
    ·rw[zag (low b _ q),zag (fun z2=>by rw[z2,hP]at q;cases q)]
     exact q
    ·rw[zag (low b _ q),zag (fun z2=>by rw[z2,hP]at q;cases q)]
     exact q
theorem zoQ (I:Inv X pins σ H s)(hdef:defaultsOf params X.env=([],[]))(hfr:∀ x,(x,NameKind.free)∈scope.names→(X.env.kindOf x=some .cell∨X.env.kindOf x=some .free))(hcode:X.env.code=.ref c)(hC:codeHdIn X.K c Pt=true)(hBM:BMAt X.mg X.base)
  (hT:zbo H Pt lpos (X.env.qual ++ "<lambda>"))
  (h:∀(f c':Addr) (cl:List (Str×Addr)) (pm ctv:Value) (H':Hp) (s':Shared),zgP scope X.env cl→Inv X pins σ H' s'→s'.heap.get? f=some (PySem.W.kla_obj "<lambda>" (X.env.qual ++ "<lambda>") params body scope cl pm c' ctv)→H' f=none→s.heap.objs.size≤f→
   Gro Pt H H'→zbo H' Pt lpos (X.env.qual ++ "<lambda>")→zhr H' c' (X.env.qual ++ "<lambda>")→Q (.ref f) s') :
  wpAny (model X.prog X.w) X.A (eval (.Lambda params body scope lpos) X.env) Q X.xe s:=by
 obtain ⟨cl,hcl⟩:=zfb (scope:=scope) (env:=X.env) fun x hx=>I.ok.has x (hfr x hx);obtain ⟨tab,hP,ht,hor⟩:=hT.ex;have hPo:s.heap.get? Pt=some (PySem.W.tabObj tab):=I.hok Pt _ hP;have C:PySem.W.CodeHd s.heap c Pt:=(PySem.W.codeHd_of_K I.ok.mod.kin hC).keeps I.bk;have hgl:=I.mod.glob.keeps I.bk;have hgP:mainGlobals≠Pt:=fun z=>by
  obtain ⟨o,es,ep,e,_⟩:=I.mod.glob;have:=(I.bs _ _ e).2;rw[z,hP]at this;cases this
 have hb:s.heap.BuiltinsAt X.mg Pt:=by
  obtain ⟨bm,o,b1,b2,b3,b4,b5⟩:=hBM;refine ⟨bm,o,b1,b2,b3,fun z=>?_,I.bk _ _ b4,b5⟩;have:=(I.bs _ _ b4).2;rw[z,hP]at this;cases this
 refine PySem.W.kla_eval hdef ?_;rcases hor with hnone | ⟨c',hsome,hca⟩
 ·refine PySem.W.kla_makeFunction (clos:=cl) hcl.eq I.ok.glob hgl hcode C hPo ht hnone hgP hb fun c' ctv h' tk hx hge hlt hrec htb=>?_;have hx':∀ o2 b o,b≠Pt→s.heap.get? b=some o→(h'.push o2).get? b=some o:=fun o2 b o n e=>yai _ (hx b o n e);have I':=zoZ (c':=c') (q:=X.env.qual ++ "<lambda>") (tk:=tk) I hP (hx' _) hge (hrec.push (PySem.W.kla_obj "<lambda>" (X.env.qual ++ "<lambda>") params body scope cl ((X.mg "__name__").getD .none) c' ctv)) (yai _ htb);have hsz:s.heap.objs.size≤h'.objs.size:=ya4 (ya1 hge hlt);have nPc:Pt≠c':=zac hP (I.hok.fresh hge);have eT:(tab++#[rawInt lpos.line,rawInt lpos.col,.ref c']).toList=tab.toList++[rawInt lpos.line,rawInt lpos.col,.ref c']:=by simp
  have hTI:zbo (upd (upd H Pt (.tbl (tab++#[rawInt lpos.line,rawInt lpos.col,.ref c']))) c' (.ext (znI c' (X.env.qual ++ "<lambda>")))) Pt lpos (X.env.qual ++ "<lambda>"):=
   ⟨_,by rw[zag nPc,zab],by rw[eT];exact TriplesOk_snoc _ _ _ _ ht,.inr ⟨c',by rw[eT];exact codeAmong_snoc _ ht hnone,zab⟩⟩
  refine h h'.objs.size c' cl _ ctv _ _ hcl I' (yaB _ rfl) ?_ hsz ?_ hTI zab
  ·rw[zag (ybo hlt),zag (fun z=>?_)]
   ·exact I.hok.fresh hsz
   ·have:=yaf hPo;rw[← z]at this;exact absurd this (ybB.mpr hsz)
  ·intro b o n e;rw[zag (zac e (I.hok.fresh hge)),zag n];exact e
 ·refine PySem.W.kla_makeFunctionHit (clos:=cl) hcl.eq I.ok.glob hgl hcode C hPo ht hsome hb fun ctv h' tk hk hsz=>?_;exact h h'.objs.size c' cl _ ctv H _ hcl (I.kept (t':=tk) fun b o e=>yai _ (hk b o e)) (yaB _ rfl) (I.hok.fresh hsz) hsz (Gro.refl _ _) hT hca
end
end L2
namespace L2
open PySem PySem.Spec PyProof.Rows
def zfd (X:Cx)(s:Shared)(H:Hp):Heap:=PySem.W.hideAll s.heap (trk s.heap H++frs X.stack)
theorem zgw {h b1 b2:Heap}:∀{l:List Env},h.FunFrames b1 l→(∀ b∈frs l,b2.get? b=none)→h.FunFrames b2 l
 | [],_,_=>trivial
 | env::l,⟨h1,⟨L,o,h2,h3,h4,h5⟩,h6⟩,k=>by
  have m:∀ b∈frs l,b∈frs (env::l):=fun b hb=>by
   unfold frs;rw[ybR,h2];exact yaF _ hb
  refine ⟨h1,⟨L,o,h2,k L ?_,h4,h5⟩,zgw h6 fun b hb=>k b (m b hb)⟩;unfold frs;rw[ybR,h2];exact yaD
section
variable {X:Cx}{pins:List (Addr×Obj)}{σ:St}{H:Hp}{s:Shared}
theorem zfz {b:Addr}{o:Obj}(e:s.heap.get? b=some o)(n:H b=none)(hf:b∉frs X.stack):(zfd X s H).get? b=some o:=
 PySem.W.hideAll_get _ e fun hm=>by
  rcases yaj.mp hm with z | z
  ·have q:(H b).isSome=true:=(ya7.mp z).2;rw[n]at q;cases q
  ·exact hf z
theorem ziP {b:Addr}{o:Obj}(e:(zfd X s H).get? b=some o):s.heap.get? b=some o∧H b=none∧b∉frs X.stack:=by
 have e1:=PySem.W.of_hideAll _ e;have hm:b∉trk s.heap H++frs X.stack:=fun z=>by
  unfold zfd at e;rw[PySem.W.hideAll_none _ z]at e;cases e
 rw[yaj,not_or]at hm;refine ⟨e1,?_,hm.2⟩;cases q:H b with
 | none=>rfl
 | some u=>exact absurd (ya7.mpr ⟨ya8.mpr (yaf e1),by rw[q];rfl⟩) hm.1
theorem zlR (I:Inv X pins σ H s):∀ b o,X.base.get? b=some o→(zfd X s H).get? b=some o:=fun b o e=>by
 obtain ⟨h1,h2⟩:=I.bs b o e;refine zfz h1 h2 fun z=>?_;have:=(I.stack.mem z).1;rw[e]at this;cases this
theorem zj8 (I:Inv X pins σ H s):Env0 X.prog X.w X.K X.mg (zfd X s H) X.A X.stack s H:=by
 have sub:=zlR I;refine ⟨I.ok.frames,⟨I.mod.kin.keeps sub,I.mod.glob.keeps sub,?_,I.mod.nolimit.keeps sub⟩,fun b o e=>⟨(ziP e).1,(ziP e).2.1⟩,Nat.le_of_eq (PySem.W.hideAll_size _ _),zgw I.stack fun b hb=>PySem.W.hideAll_none _ (yay _ hb),I.stkFree,I.hok,I.bare⟩;obtain ⟨mb,h1,h2⟩:=I.mod.blt;exact ⟨mb,h1.keeps sub,h2⟩
end
structure FV (P:Program)(w:World)(K:Frag)(mg:Str→Option Value)(base:Heap)(k:Nat)(f:Addr)(ps:List Str)(sp:Sp):Prop where
 ex:∃ fd,FnOk P w K mg base CX0 k f fd ps sp∧zdT K fd ps []∧PySem.W.FnAt f base
section
variable {X:Cx}
def zrm (X:Cx)(kr:Nat)(tf:TE)(t:TA):TE:=fun σ H Q=>tf σ H fun x H1=>∃ f k ps sp,x=.ref f∧FV X.prog X.w X.K X.mg X.base k f ps sp∧k≤kr∧t σ H1 fun vs H2=>sp vs H2 Q E0
theorem zom {kr:Nat}{x:Str}{e:Expr}{es:List Expr}{tf:TE}{t:TA}{p pos:Pos}(hr:Room kr X.A)(hf:PE X (.Name x p) tf)(ha:PA X (e::es) t)
  (he:starEach (e::es) X.env=(false,eval e X.env)::starEach es X.env:=by rfl) (hpl:(backTo pos (starEach es X.env)).any (·.1)=false:=by rfl):PE X (.Call (.Name x p) (e::es) [] pos) (zrm X kr tf t):=by
 intro pins s σ H Q I h;refine wpAny_Call_Name_kw (thn (hf pins s σ H _ I h) fun u s1 zq0=>?_);obtain ⟨x1,H1,I1,r1,q1⟩:=zq0;obtain ⟨f,k,ps,sp,rfl,hF,hk,q⟩:=q1;cases r1
 obtain ⟨fd,ok,bd,oc,od,fd2,sl,ho⟩:=hF.ex;refine PySem.W.callWith_F ⟨oc,od,fd2,sl,I1.bk _ _ ho⟩ (thn (ha pos pins s1 σ H1 _ I1 q) fun us s2 zq0=>?_) he hpl;obtain ⟨vs,H2,I2,r,q2⟩:=zq0;refine ⟨⟨oc,od,fd2,sl,I2.bk _ _ ho⟩,?_⟩;exact zkA ok (hr.mono hk) bd .nil zmJ I2 r (by rw[yaz];exact q2)
structure zre (X:Cx)(params:Arguments)(body:Expr)(scope:Scope)(ps caps:List Str)(cap:List Nat):Prop where
 sc:zim scope ps caps
 frees:∀ x,(x,NameKind.free)∈scope.names→(X.env.kindOf x=some .cell∨X.env.kindOf x=some .free)
 capAt:∀(j:Nat) (x:Str),caps[j]?=some x→∃ i:Nat,cap[j]?=some i∧X.N[i]?=some x∧(X.env.kindOf x=some .cell∨X.env.kindOf x=some .free)
 dflt:defaultsOf params X.env=([],[])
 binds:∀(cl:List (Str×Addr)) (pm cdv ct:Value) (us:List Value),us.length=ps.length→bindArgs (PySem.W.kla_fn "<lambda>" (X.env.qual ++ "<lambda>") params body scope cl pm cdv ct) ⟨us,[]⟩=pure (ps.zip us)
 own:∀ x,X.fn x=true
theorem zsR {pins:List (Addr×Obj)}{σ:St}{H:Hp}{s:Shared}{params:Arguments}{body:Expr}{scope:Scope}{ps caps:List Str}{cap:List Nat}{f c':Addr}{cl:List (Str×Addr)}{pm ctv:Value}{vcs:List V}{tb:TE}{k n:Nat}(I:Inv X pins σ H s)(L:zre X params body scope ps caps cap)(hcl:zgP scope X.env cl)
  (ho:s.heap.get? f=some (PySem.W.kla_obj "<lambda>" (X.env.qual ++ "<lambda>") params body scope cl pm c' ctv)) (hn:H f=none) (hfr:∀ b∈frs X.stack,b < n) (hge:n≤f)
  (hv:vcs.length=caps.length) (hvs:∀(j i:Nat) (v:V),cap[j]?=some i→vcs[j]?=some v→σ[i]?=some (some v))
  (hb:∀(base:Heap) (f:Addr) (cd:Value) (cl:List (Str×Addr)) (A:Around) (outer:List Env) (s:Shared) (H:Hp),Room k (A.deeper (PySem.W.envX (X.env.qual ++ "<lambda>") scope s.heap.objs.size f cd cl))→PE (zo8 X.prog X.w X.K X.mg base (ps++caps) (X.env.qual ++ "<lambda>") scope f cd cl A outer s H) body tb) :
  FV X.prog X.w X.K X.mg (zfd X s H) (k+1) f ps (zp2 ps.length tb vcs c' (X.env.qual ++ "<lambda>")):=by
 have nf:f∉frs X.stack:=fun z=>absurd (yaw (hfr f z) hge) (ybi _);have hbf:=zfz (X:=X) ho hn nf;have cellB:∀ x a v,X.env.cells.lookup x=some a→s.heap.IsCell a v→(zfd X s H).IsCell a v:=fun x a v e ⟨o,h1,h2⟩=>by
  refine ⟨o,zfz h1 (I.freeC x a e) fun z=>?_,h2⟩;rcases yam.mp (I.stkSub a z) with y | y
  ·exact I.cne x a e y
  ·obtain ⟨_,o2,h3,_⟩:=I.ok.funs.mem y;exact absurd (yaw (yaf h3) (I.ok.cab x a (L.own x) e)) (ybi _)
 refine ⟨_,zr5 L.sc hbf hv (fun j x v h1 h2=>?_) (fun x a e=>?_) (fun x y a h1 h2=>I.ok.inj x y a (hcl.sub x a h1) (hcl.sub y a h2)) (fun x e=>?_) (fun A outer s H hr=>hb _ f _ cl A outer s H hr),.all (L.binds cl pm (.ref c') ctv),⟨_,_,_,_,hbf⟩⟩
 ·obtain ⟨i,e1,e2,e3⟩:=L.capAt j x h1;obtain ⟨m,hm,hl⟩:=I.loc;obtain ⟨u,ru,lk⟩:=hl i x v e2 (hvs j i v e1 h2) (by
   rcases e3 with z | z
   ·exact .inr (.inl z)
   ·exact .inr (.inr z))
  rcases lk with ⟨z,_⟩ | ⟨_,a,e4,e5⟩
  ·rcases e3 with y | y
   ·rw[y]at z;cases z
   ·rw[y]at z;cases z
  ·obtain ⟨a',e6⟩:=hcl.has x (PySem.mem_of_lookup (L.sc.cap x (yaE h1)));have e7:=hcl.sub x a' e6;rw[e4]at e7;cases e7
   exact ⟨a,u,e6,cellB x a _ e4 e5,ru⟩
 ·obtain ⟨v,z⟩:=I.cell x a (hcl.sub x a e);exact ⟨v,cellB x a v (hcl.sub x a e) z⟩
 ·exact hcl.has x (PySem.mem_of_lookup e)
def zn5 (X:Cx)(n kf:Nat)(ps:List Str)(cap:List Nat)(Pt:Addr)(lpos:Pos)(tb te:TE)(spH:Heap→Sp):TE:=fun σ H Q=>te σ H fun x1 H1=>zbo H1 Pt lpos (X.env.qual ++ "<lambda>")∧∃ vcs:List V,vcs.length=n∧(∀(j i:Nat) (v:V),cap[j]?=some i→vcs[j]?=some v→σ[i]?=some (some v))∧
 ∀(base:Heap) (f c':Addr) (H2:Hp),Gro Pt H1 H2→zbo H2 Pt lpos (X.env.qual ++ "<lambda>")→zhr H2 c' (X.env.qual ++ "<lambda>")→FV X.prog X.w X.K X.mg base kf f ps (zp2 ps.length tb vcs c' (X.env.qual ++ "<lambda>"))→spH base [x1,.ref f] H2 Q E0
theorem zlp {x q1 q2:Str}{e1:Expr}{params:Arguments}{body:Expr}{scope:Scope}{lpos p pos:Pos}{te tb:TE}{spH:Heap→Sp}{j k kf:Nat}{c Pt:Addr}{ps caps:List Str}{cap:List Nat}
  (F:∀ base,FC X.prog X.w X.K X.mg base j x [q1,q2] (spH base)) (hr:Room k X.A) (h1:PE X e1 te) (L:zre X params body scope ps caps cap) (hcode:X.env.code=.ref c) (hC:codeHdIn X.K c Pt=true) (hBM:BMAt X.mg X.base)
  (hb:∀(base:Heap) (f:Addr) (cd:Value) (cl:List (Str×Addr)) (A:Around) (outer:List Env) (s:Shared) (H:Hp),Room kf (A.deeper (PySem.W.envX (X.env.qual ++ "<lambda>") scope s.heap.objs.size f cd cl))→PE (zo8 X.prog X.w X.K X.mg base (ps++caps) (X.env.qual ++ "<lambda>") scope f cd cl A outer s H) body tb)
  (hjk:j≤k:=by decide) (hg:Gl X x:=by rfl) (hdb:(x == ("__debug__" : Str))=false:=by decide) (he:starEach [e1,.Lambda params body scope lpos] X.env=(false,eval e1 X.env)::starEach [.Lambda params body scope lpos] X.env:=by rfl)
  (he2:starEach [.Lambda params body scope lpos] X.env=[(false,eval (.Lambda params body scope lpos) X.env)]:=by rfl) (hpl:(backTo pos (starEach [.Lambda params body scope lpos] X.env)).any (·.1)=false:=by rfl) :
  PE X (.Call (.Name x p) [e1,.Lambda params body scope lpos] [] pos) (zn5 X caps.length (kf+1) ps cap Pt lpos tb te spH):=by
 intro pins s σ H Q I h;obtain ⟨g,fd,_,_,kp,m,oc,od,osl,lk⟩:=(F X.base).ex;refine wpAny_Call_Name_kw (zh6 I hg m ?_ hdb);refine PySem.W.callWith_K (h₀:=X.base) I.ok.mod.kin kp ?_ he hpl;rw[he];show wpAny _ _ (spliced ((false,eval e1 X.env)::backTo pos (starEach [.Lambda params body scope lpos] X.env))) _ _ s;refine Calls.spliced_cons (thn (h1 pins s σ H _ I h) fun u s1 zq0=>?_);obtain ⟨x1,H1,I1,r1,q1⟩:=zq0;obtain ⟨hT,vcs,hv,hvs,q⟩:=q1;rw[he2];show wpAny _ _ (spliced ((false,eval (.Lambda params body scope lpos) X.env)::[])) _ _ s1;refine Calls.spliced_cons (zoQ I1 L.dflt L.frees hcode hC hBM hT fun f c' cl pm ctv H2 s2 hcl I2 ho hn hge hgr hT2 hca=>?_);refine Calls.spliced_nil ⟨I2.kIn,?_⟩;have hF:=zsR (k:=kf) (n:=s1.heap.objs.size) I2 L hcl ho hn (fun b hb=>by
  obtain ⟨_,o,e,_⟩:=I1.stack.mem hb;exact yaf e) hge hv hvs hb
 have hsp:=q (zfd X s2 H2) f c' H2 hgr hT2 hca hF;obtain ⟨g2,fd2,ok,bd,_,m2,_⟩:=(F (zfd X s2 H2)).ex;rw[m]at m2;cases m2
 have r2:Vals [x1,.ref f] [u,.ref f]:=.cons r1 (.cons rfl .nil);refine wpAny_call (codeAny_mono (ok.run X.A X.stack s2 H2 ⟨[u,.ref f],[]⟩ [u,.ref f] [x1,.ref f] Q E0 (hr.mono hjk) (zj8 I2) (bd s2 [u,.ref f] I2.kIn rfl) r2 hsp) fun r s' hq=>?_);cases r with
 | error e=>exact False.elim hq
 | ok fl=>
  cases fl with
  | ret u=>exact I2.after hq
  | next=>exact False.elim hq
  | brk=>exact False.elim hq
  | cont=>exact False.elim hq
end
end L2
namespace L2
open PySem PySem.Spec PyProof.Rows
theorem znc {P:Program}{w:World}{K:Frag}{mg mb:Str→Option Value}{CX:CXT}{k:Nat}{fa a:Addr}{fd:FuncData}{x:Str}{sp:Sp}{s₁:Shared}{vs:List Value}{ns:List Int}{tabs:List (Addr×Addr)}
  (KX:K.In s₁.heap) (hns:s₁.heap.Ns mainGlobals mg) (hb:s₁.heap.Ns builtinsNs mb) (hbb:∀ x:Str,x ≠ "__name__"→mb x=bootBuiltins x) (hlim:s₁.heap.NoLimit) (hg:s₁.gens=#[]) (hBM:BMAt mg s₁.heap)
  (hT:PySem.W.TabsAt tabs s₁.heap) (hKT:∀ q∈tabs,K.lookup q.2=none)
  (ha:s₁.heap.get? a=some { cls:=.type "list",data:=.seq vs.toArray }) (hi:IntsAre vs ns) (hl:ns.length≤sizeLine) (hr:Room k callerA)
  (F:∀ base:Heap,K.In base→base.Ns mainGlobals mg→BMAt mg base→FnOk P w K mg base CX k fa fd [x] sp) (hbind:∀(s:Shared) (u:Value),BindsTo s fd ⟨[u],[]⟩ [(x,u)])
  (hsp:∀ H:Hp,(∀ q∈tabs,H q.2=some (.tbl #[]))→SqL K H a (ns.map V.int)→sp [.ref a] H (fun v _=>v=.bl true) fun _ _ _=>False)
  (hCX:∀ H e s',CX [] H s₁ (fun _ _ _=>False) e s'→False) :
  codeAny (model P w) callerA (.call (.ref fa) ⟨[.ref a],[]⟩) (fun r s'=>r=.ok (.ret (.bool true))∧OldK s₁.heap s'.heap∧s'.os=s₁.os∧AllBare s'.gens) s₁:=by
 have rv:=zio hi;have lenV:=hi.length;have tabO:∀ b,b∈tabs.map (·.2)→s₁.heap.get? b=some (PySem.W.tabObj #[])∧isCodeTable s₁.heap b∧K.lookup b=none:=fun b hm=>by
  obtain ⟨q,hq,rfl⟩:=yaG.mp hm;exact ⟨(hT q hq).2,((hT q hq).1.tab (hT q hq).2).isCodeTable,hKT q hq⟩
 have nat:a∉tabs.map (·.2):=fun z=>by
  have:=(tabO a z).1;rw[ha]at this;cases this
 have core:∀ Hs:Hp,(∀ b,Hs b=none∨(b=a∧Hs b=some (.frz { cls:=.type "list",data:=.seq vs.toArray } (.lst (ns.map V.int)))))→(∀ H:Hp,(∀ b,b∉tabs.map (·.2)→H b=Hs b)→SqL K H a (ns.map V.int))→(Hs a≠none→K.lookup a=none)→
   codeAny (model P w) callerA (.call (.ref fa) ⟨[.ref a],[]⟩) (fun r s'=>r=.ok (.ret (.bool true))∧OldK s₁.heap s'.heap∧s'.os=s₁.os∧AllBare s'.gens) s₁:=by
  intro Hs hO hS hK;obtain ⟨H,hH⟩:∃ H:Hp,H=fun b=>if b∈tabs.map (·.2) then some (.tbl #[]) else Hs b:=⟨_,rfl⟩
  have H1:∀ b,b∈tabs.map (·.2)→H b=some (.tbl #[]):=fun b z=>by rw[hH];exact if_pos z
  have H2:∀ b,b∉tabs.map (·.2)→H b=Hs b:=fun b z=>by rw[hH];exact if_neg z
  have cases3:∀ b,H b=none∨(b=a∧H b=some (.frz { cls:=.type "list",data:=.seq vs.toArray } (.lst (ns.map V.int))))∨(b∈tabs.map (·.2)∧H b=some (.tbl #[])):=fun b=>by
   by_cases z:b∈tabs.map (·.2)
   ·exact .inr (.inr ⟨z,H1 b z⟩)
   ·rcases hO b with y | ⟨y1,y2⟩
    ·exact .inl ((H2 b z).trans y)
    ·exact .inr (.inl ⟨y1,(H2 b z).trans y2⟩)
  have hok:HOk P w H s₁.heap:=fun b u e=>by
   rcases cases3 b with y | ⟨y1,y2⟩ | ⟨y1,y2⟩
   ·rw[y]at e;cases e
   ·rw[y2]at e;cases e
    subst y1;exact ⟨ha,by rw[yab];exact hl,vs,_,rv,ha⟩
   ·rw[y2]at e;cases e
    exact (tabO b y1).1
  have base_of:∀{b:Addr} {o:Obj},s₁.heap.get? b=some o→H b=none→(hidT s₁.heap H).get? b=some o:=fun e n=>zoW e n;have noD:∀{b:Addr} {o:Obj},s₁.heap.get? b=some o→(∀ xs n,o.data≠.seq xs n)→(∀ xs,o.data≠.fields xs)→H b=none:=fun {b o} e d1 d2=>by
   rcases cases3 b with y | ⟨y1,y2⟩ | ⟨y1,y2⟩
   ·exact y
   ·subst y1;rw[ha]at e;cases e
    exact absurd rfl (d1 _ _)
   ·rw[(tabO b y1).1]at e;cases e
    exact absurd rfl (d2 _)
  have nsK:∀{b:Addr} {m:Str→Option Value},s₁.heap.Ns b m→(hidT s₁.heap H).Ns b m:=fun {b m} ⟨o,es,ep,e,d,r⟩=>⟨o,es,ep,base_of e (noD e (fun _ _ z=>by rw[d]at z;cases z) (fun _ z=>by rw[d]at z;cases z)),d,r⟩
  have hKb:K.In (hidT s₁.heap H):=fun b o e=>base_of (KX b o e) (by
   rcases cases3 b with y | ⟨y1,y2⟩ | ⟨y1,y2⟩
   ·exact y
   ·subst y1;rw[hK (by rw[← H2 b nat,y2];exact fun z=>nomatch z)]at e;cases e
   ·rw[(tabO b y1).2.2]at e;cases e)
  have hM:Mod K mg (hidT s₁.heap H):=⟨hKb,nsK hns,⟨mb,nsK hb,hbb⟩,let ⟨mc,h1,h2⟩:=hlim;⟨mc,nsK h1,h2⟩⟩;have hBMb:BMAt mg (hidT s₁.heap H):=by
   obtain ⟨bm,o,b1,b2,b3,b4,b5,b6,b7⟩:=hBM;exact ⟨bm,o,b1,b2,b3,base_of b4 (noD b4 (fun _ _ z=>by rw[b7]at z;cases z) (fun _ z=>by rw[b7]at z;cases z)),b5,b6,b7⟩
  have e0:Env0 P w K mg (hidT s₁.heap H) callerA [] s₁ H:=⟨rfl,hM,fun b o e=>zqu e,Nat.le_of_eq (znn _ _),trivial,fun b hb=>absurd (show b∈([]:List Addr) from hb) (by simp),hok,.of_eq hg⟩;refine codeAny_mono ((F _ hKb (nsK hns) hBMb).run callerA [] s₁ H ⟨[.ref a],[]⟩ [.ref a] [.ref a] _ _ hr e0 (hbind s₁ (.ref a)) (.cons rfl .nil) (hsp H (fun q hq=>H1 _ (List.mem_map_of_mem hq)) (hS H H2))) fun r s' h=>?_;cases r with
  | error e=>exact (hCX H e s' h).elim
  | ok fl=>
   cases fl with
   | next=>exact False.elim h
   | brk=>exact False.elim h
   | cont=>exact False.elim h
   | ret u=>
    obtain ⟨v,H',os,bare,un,hok',r',q⟩:=h;have q':v=.bl true:=q;subst q';obtain rfl:u=Value.bool true:=r';have keep:∀ b o,H b=none→s₁.heap.get? b=some o→s'.heap.get? b=some o:=fun b o n e=>un.keep b o e n (by intro z;exact absurd (show b∈([]:List Addr) from z) (by simp)) (by simp);have frz:∀ b o,b=a→H b=some (.frz { cls:=.type "list",data:=.seq vs.toArray } (.lst (ns.map V.int)))→s₁.heap.get? b=some o→s'.heap.get? b=some o:=fun b o y1 y2 e=>by
     obtain ⟨e1,_⟩:=hok b _ y2;obtain ⟨e2,_⟩:=hok' b _ (un.frzs b _ _ y2);rw[e]at e1;cases e1
     exact e2
    have tbl:∀ b,H b=some (.tbl #[])→∃ ps,s'.heap.get? b=some (PySem.W.tabObj ps):=fun b y=>by
     obtain ⟨more,e⟩:=un.tbls b _ y;exact ⟨_,hok' b _ e⟩
    refine ⟨rfl,⟨fun b o e=>?_,fun b o e=>?_⟩,os,bare⟩
    ·rcases cases3 b with y | ⟨y1,y2⟩ | ⟨y1,y2⟩
     ·exact .inl (keep b o y e)
     ·exact .inl (frz b o y1 y2 e)
     ·obtain ⟨ps,hp⟩:=tbl b y2;obtain ⟨t1,t2,_⟩:=tabO b y1;rw[e]at t1;cases t1
      exact .inr (.inl ⟨t2,rfl,#[],ps,rfl,by rw[Array.empty_append];exact hp⟩)
    ·rcases cases3 b with y | ⟨y1,y2⟩ | ⟨y1,y2⟩
     ·exact ⟨o,keep b o y e⟩
     ·exact ⟨o,frz b o y1 y2 e⟩
     ·obtain ⟨ps,hp⟩:=tbl b y2;exact ⟨_,hp⟩
 cases hk:K.lookup a with
 | some o=>
  have e:=KX a o hk;rw[ha]at e;cases e
  exact core (fun _=>none) (fun _=>.inl rfl) (fun H _=>.inr ⟨_,vs.toArray,_,hk,rfl,rfl,rfl,by rw[yav,lenV];exact hl,by simpa using rv⟩) fun z=>absurd rfl z
 | none=>
  refine core (fun b=>if b=a then some (.frz { cls:=.type "list",data:=.seq vs.toArray } (.lst (ns.map V.int))) else none) (fun b=>?_) (fun H h=>.inl (.inr ⟨{ cls:=.type "list",data:=.seq vs.toArray },by rw[h a nat];exact if_pos rfl⟩)) fun _=>hk
  by_cases z:b=a
  ·exact .inr ⟨z,if_pos z⟩
  ·exact .inl (if_neg z)
theorem znW {l:OpenLaw}{n k:Nat}{q:Program}{loose:List Str}{XP:(Str→Option Value)→Heap→Prop}{YP:World→Heap→Prop}{d:DefRec}{K:Params→Frag}{sp:World→Sp}{x:Str}{tabs:List (Addr×Addr)}
  (hn:l.most=some n) (hn2:n≤sizeLine) (hdf:d.params.defaults=[]) (hr:Room k callerA)
  (hY:∀(w:World) (h:Heap),YP w h→(K w.params).In h) (hYT:∀(w:World) (h:Heap),YP w h→∀ q∈tabs,h.get? q.2=some (PySem.W.tabObj #[]))
  (hC:∀(w:World),∀ q∈tabs,codeHdIn (K w.params) q.1 q.2=true∧(K w.params).lookup q.2=none)
  (F:∀(w:World) (mg:Str→Option Value) (fa:Addr) (h:Heap),(K w.params).In h→h.Ns mainGlobals mg→mg d.name=some (.ref fa)→
   ∃ fd:FuncData,(∀(s:Shared) (u:Value),BindsTo s fd ⟨[u],[]⟩ [(x,u)])∧
    ∀ base:Heap,(K w.params).In base→base.Ns mainGlobals mg→BMAt mg base→FnOk l.prog w (K w.params) mg base CX0 k fa fd [x] (sp w))
  (hsp:∀(w:World) (H:Hp) (a:Addr) (ns:List Int),ns.length≤n→(∀ q∈tabs,H q.2=some (.tbl #[]))→SqL (K w.params) H a (ns.map V.int)→sp w [.ref a] H (fun v _=>v=.bl true) fun _ _ _=>False) :
  PySem.W.WalkO q loose XP YP l.row.toRowW d [] (fun f vs=>PySem.call f vs):=by
 refine Att.attach_call hn hdf fun w s₀ s₁ mg mb fa o pm cd doc a vs ns G Y ho hd hcd hmg hobj hints hlen hg=>?_;have KX:=hY w _ Y;obtain ⟨fd,hb,hF⟩:=F w mg fa _ KX G.T.g hmg;have hBM:BMAt mg s₁.heap:=by
  obtain ⟨bm,ob,b1,b2,b3,b4,b5,b6⟩:=G.T.bmain;refine ⟨bm,ob,b1,b2,fun z=>?_,b3,b4,b5,b6⟩;obtain ⟨o,es,ep,e,hd,_⟩:=G.T.g;rw[z,e]at b3;cases b3
  rw[hd]at b6;cases b6
 exact znc (tabs:=tabs) KX G.T.g G.T.b G.T.builtins G.T.nolimit hg hBM (fun q hq=>⟨PySem.W.codeHd_of_K KX (hC w q hq).1,hYT w _ Y q hq⟩) (fun q hq=>(hC w q hq).2) hobj hints (yao hlen hn2) hr hF hb (fun H hO hS=>hsp w H a ns hlen hO hS) fun H e s' z=>z
structure DFT (K:Frag)(mg:Str→Option Value)(x:Str)(st:Stmt)(ps:List Str)(c Pt:Addr):Prop where
 ex:∃(f:Addr) (oc:Value) (od:Option Addr) (kV dc pm:Value) (an:Option Addr) (ct:Value) (osl:Array (Option Value)),K.lookup f=some ⟨oc,od,.func (fnOf x x (zbV st) (zbd st) (zaj st) .none kV dc pm an (.ref c) ct),osl⟩∧
  codeIn K (.ref c) x=true∧keepIn K (.ref f)=true∧mg x=some (.ref f)∧zdT K (fnOf x x (zbV st) (zbd st) (zaj st) .none kV dc pm an (.ref c) ct) ps []
 hd:codeHdIn K c Pt=true
theorem DFT.ok {P:Program}{w:World}{K:Frag}{mg:Str→Option Value}{base:Heap}{x:Str}{st:Stmt}{N ps:List Str}{k:Nat}{sp:Sp}{c Pt:Addr}(D:DFT K mg x st ps c Pt)(S:zaq N ps (zaj st))(len:∀ vs H Q E,sp vs H Q E→vs.length=ps.length)
  (hbody:∀(f:Addr) (A:Around) (outer:List Env) (s:Shared) (H:Hp) (vs:List V) (Q:VK) (E:XK),Room k (A.deeper (envOfC x (zaj st) s.heap.objs.size f (.ref c)))→sp vs H Q E→
   ∃ t,PSs (cxOf CX0 P w K mg base N x (zaj st) f (.ref c) A outer s H E).nox (zbd st) t∧t { nx:=fun _ H'=>Q .non H',rt:=Q } (start N vs) H):FC P w K mg base (k+1) x ps sp:=by
 obtain ⟨f,oc,od,kV,dc,pm,an,ct,osl,lk,hcd,kp,m,bd⟩:=D.ex;refine ⟨f,_,zsj lk hcd S len fun A outer s H vs Q E hr hsp=>?_,bd,kp,m,oc,od,osl,lk⟩;obtain ⟨t,h,q⟩:=hbody f A outer s H vs Q E hr hsp;exact ⟨t,h.nox,q⟩
theorem zn3 {K:Frag}{x:Str}{c Pt f:Addr}{oc:Value}{od:Option Addr}{fd:FuncData}{sl:Array (Option Value)}(a:nsIn K mainGlobals x=some (some (.ref f)))(l:K.lookup f=some ⟨oc,od,.func fd,sl⟩)(t:tabIn K x=some (c,Pt)):fd.code=.ref c:=by
 unfold tabIn at t;rw[a]at t;dsimp only at t;rw[l]at t;dsimp only at t;split at t
 ·rename_i c2 hc;split at t
  ·split at t
   ·cases t
    exact hc
   ·cases t
  ·cases t
 ·cases t
end L2
namespace L2
open PySem PySem.Spec PyProof.Rows
theorem zr6 {X:Cx}{params:Arguments}{body:Expr}{scope osc:Scope}{N ps caps:List Str}{cap:List Nat}(sc:zim scope ps caps)
  (h1:∀ p∈scope.names,p.2=NameKind.free→osc.names.lookup p.1=some NameKind.cell) (h2:∀ p∈caps.zip cap,N[p.2]?=some p.1∧osc.names.lookup p.1=some NameKind.cell) (hl:caps.length=cap.length)
  (ho:X.env.scope=osc) (hN:X.N=N) (d:defaultsOf params X.env=([],[]))
  (b:∀(cl:List (Str×Addr)) (pm cdv ct:Value) (us:List Value),us.length=ps.length→bindArgs (PySem.W.kla_fn "<lambda>" (X.env.qual ++ "<lambda>") params body scope cl pm cdv ct) ⟨us,[]⟩=pure (ps.zip us))
  (o:∀ x,X.fn x=true):zre X params body scope ps caps cap:=by
 have hk:∀ x,X.env.kindOf x=osc.names.lookup x:=fun x=>by
  unfold Env.kindOf;rw[ho]
 refine ⟨sc,fun x hx=>.inl ?_,fun j x hj=>?_,d,b,o⟩
 ·rw[hk];exact h1 (x,.free) hx rfl
 ·have hj':=(yak.mp hj).1;have hc:cap[j]?=some (cap[j]'(by omega)):=yac _;have hz:(caps.zip cap)[j]?=some (x,cap[j]'(by omega)):=by
   rw[List.getElem?_zip_eq_some];exact ⟨hj,hc⟩
  obtain ⟨a1,a2⟩:=h2 _ (yaE hz);refine ⟨_,hc,?_,.inl ?_⟩
  ·rw[hN];exact a1
  ·rw[hk];exact a2
end L2
namespace L2
open PySem PySem.Spec PyProof.Rows PySem.SeqAt
structure Tri (α β γ:Type) where
 a:α
 b:β
 c:γ
theorem Tri.ext' {α β γ:Type}:∀{p q:Tri α β γ},p.a=q.a→p.b=q.b→p.c=q.c→p=q
 | ⟨_,_,_⟩,⟨_,_,_⟩,rfl,rfl,rfl=>rfl
instance {α β γ:Type} [DecidableEq α] [DecidableEq β] [DecidableEq γ]:DecidableEq (Tri α β γ):=fun p q=>
 if h1:p.a=q.a then if h2:p.b=q.b then if h3:p.c=q.c then .isTrue (Tri.ext' h1 h2 h3) else .isFalse fun z=>h3 (by rw[z]) else .isFalse fun z=>h2 (by rw[z]) else .isFalse fun z=>h1 (by rw[z])
theorem znX {x y z:V}{us:List Value}(r:Vals [x,y,z] us):∃ u v w,us=[u,v,w]∧RelV x u∧RelV y v∧RelV z w:=by
 cases r with
 | cons r1 r=>
  cases r with
  | cons r2 r=>
   cases r with
   | cons r3 r=>
    cases r
    exact ⟨_,_,_,rfl,r1,r2,r3⟩
def has3 {α β γ:Type}[Rep α][Rep β][Rep γ](K:Frag)(H:Hp)(p:Tri α β γ)(v:V):Prop:=∃ a x y z,v=.ref a∧H a=some (.tup [x,y,z])∧Rep.has K H p.a x∧Rep.has K H p.b y∧Rep.has K H p.c z
section
variable {α β γ:Type}[ra:Rep α][rb:Rep β][rc:Rep γ]{X:Cx}{pins:List (Addr×Obj)}{σ:St}{H:Hp}{s:Shared}{A:Around}{p q:Tri α β γ}{x y:V}{u v:Value}
theorem zk1 (I:Inv X pins σ H s)(h1:has3 X.K H p x)(h2:has3 X.K H q x):p=q:=by
 obtain ⟨a,x1,x2,x3,rfl,q1,e1,e2,e3⟩:=h1;obtain ⟨b,y1,y2,y3,e,q2,f1,f2,f3⟩:=h2;cases e
 have z:=I.tuple_inj (SqT.of q2) (SqT.of q1);cases z
 exact Tri.ext' (Rep.inj I e1 f1) (Rep.inj I e2 f2) (Rep.inj I e3 f3)
theorem zmb {p q:Tri α β γ}:((List.range (min 3 3)).all (fun j=>if j=0 then (Rep.dec p.a q.a).decide else if j=1 then (Rep.dec p.b q.b).decide else (Rep.dec p.c q.c).decide) && (3 == 3))=decide (p=q):=by
 rw[show List.range (min 3 3)=[0,1,2] from rfl];simp only[ybU,List.all_nil,yci,if_true,beq_self_eq_true];rw[if_neg (by decide),if_neg (by decide),if_neg (by decide)];have e1:(Rep.dec p.a q.a).decide=decide (p.a=q.a):=rfl;have e2:(Rep.dec p.b q.b).decide=decide (p.b=q.b):=rfl;have e3:(Rep.dec p.c q.c).decide=decide (p.c=q.c):=rfl;rw[e1,e2,e3];by_cases z1:p.a=q.a
 ·by_cases z2:p.b=q.b
  ·by_cases z3:p.c=q.c
   ·rw[yag z1,yag z2,yag z3,yag (Tri.ext' z1 z2 z3)];rfl
   ·have n:¬ p=q:=fun z=>z3 (by rw[z]);rw[yah z3,yah n];simp
  ·have n:¬ p=q:=fun z=>z2 (by rw[z]);rw[yah z2,yah n];simp
 ·have n:¬ p=q:=fun z=>z1 (by rw[z]);rw[yah z1,yah n];simp
theorem zit (I:Inv X pins σ H s){B:Around}{x1 x2 x3 y1 y2 y3:V}{u1 u2 u3 v1 v2 v3:Value}(hin:∀ n,n≤Rep.depth α+Rep.depth β+Rep.depth γ→B.units+n < cLine)
  (e1:Rep.has X.K H p.a x1) (e2:Rep.has X.K H p.b x2) (e3:Rep.has X.K H p.c x3) (f1:Rep.has X.K H q.a y1) (f2:Rep.has X.K H q.b y2) (f3:Rep.has X.K H q.c y3) (r1:RelV x1 u1) (r2:RelV x2 u2) (r3:RelV x3 u3) (t1:RelV y1 v1) (t2:RelV y2 v2) (t3:RelV y3 v3) :
  ∀ j (h1:j < (#[u1,u2,u3]:Array Value).size) (h2:j < (#[v1,v2,v3]:Array Value).size),EqAt B s (#[u1,u2,u3]:Array Value)[j] (#[v1,v2,v3]:Array Value)[j] (if j=0 then (Rep.dec p.a q.a).decide else if j=1 then (Rep.dec p.b q.b).decide else (Rep.dec p.c q.c).decide):=by
 have c1:=Rep.eq (A:=B) I (hin _ (by omega)) e1 f1 r1 t1;have c2:=Rep.eq (A:=B) I (hin _ (by omega)) e2 f2 r2 t2;have c3:=Rep.eq (A:=B) I (hin _ (by omega)) e3 f3 r3 t3;intro j h1 h2;have h1':j < 3:=h1;have z:j=0∨j=1∨j=2:=by omega
 rcases z with rfl | rfl | rfl
 ·exact c1
 ·exact c2
 ·exact c3
theorem znr (I:Inv X pins σ H s)(hu:A.units+(Rep.depth α+Rep.depth β+Rep.depth γ+1) < cLine)(h1:has3 X.K H p x)(h2:has3 X.K H q y)(r1:RelV x u)(r2:RelV y v):RcAt A s u v (decide (p=q)):=by
 obtain ⟨a,x1,x2,x3,rfl,q1,e1,e2,e3⟩:=h1;obtain ⟨b,y1,y2,y3,rfl,q2,f1,f2,f3⟩:=h2;cases r1
 cases r2
 obtain ⟨us,ru,pu,_⟩:=I.tuple (SqT.of q1);obtain ⟨vs,rv,pv,_⟩:=I.tuple (SqT.of q2);obtain ⟨u1,u2,u3,rfl,ru1,ru2,ru3⟩:=znX ru;obtain ⟨v1,v2,v3,rfl,rv1,rv2,rv3⟩:=znX rv;have hin:∀ n,n≤Rep.depth α+Rep.depth β+Rep.depth γ→A.in1.units+n < cLine:=fun n hn=>ya1 (ybl zbU _) (by omega);have:=RcAt.tuples (A:=A) (s:=s) (l:=a) (b:=b) (items:=#[u1,u2,u3]) (items2:=#[v1,v2,v3]) pu pv (by omega) (zit (p:=p) (q:=q) I hin e1 e2 e3 f1 f2 f3 ru1 ru2 ru3 rv1 rv2 rv3);rw[← zmb];exact this
theorem zqN (I:Inv X pins σ H s)(hu:A.units+(Rep.depth α+Rep.depth β+Rep.depth γ+1) < cLine)(h1:has3 X.K H p x)(h2:has3 X.K H q y)(r1:RelV x u)(r2:RelV y v):RcNeAt A s u v (!decide (p=q)):=by
 obtain ⟨a,x1,x2,x3,rfl,q1,e1,e2,e3⟩:=h1;obtain ⟨b,y1,y2,y3,rfl,q2,f1,f2,f3⟩:=h2;cases r1
 cases r2
 obtain ⟨us,ru,pu,_⟩:=I.tuple (SqT.of q1);obtain ⟨vs,rv,pv,_⟩:=I.tuple (SqT.of q2);obtain ⟨u1,u2,u3,rfl,ru1,ru2,ru3⟩:=znX ru;obtain ⟨v1,v2,v3,rfl,rv1,rv2,rv3⟩:=znX rv;have hin:∀ n,n≤Rep.depth α+Rep.depth β+Rep.depth γ→A.in1.units+n < cLine:=fun n hn=>ya1 (ybl zbU _) (by omega);have:=RcNeAt.tuples (A:=A) (s:=s) (l:=a) (b:=b) (items:=#[u1,u2,u3]) (items2:=#[v1,v2,v3]) pu pv (by omega) (zit (p:=p) (q:=q) I hin e1 e2 e3 f1 f2 f3 ru1 ru2 ru3 rv1 rv2 rv3);rw[← zmb];exact this
theorem zqO (I:Inv X pins σ H s)(hu:A.units+(Rep.depth α+Rep.depth β+Rep.depth γ+1) < cLine)(h1:has3 X.K H p x)(h2:has3 X.K H q y)(r1:RelV x u)(r2:RelV y v):EqAt A s u v (decide (p=q)):=by
 have rc:=znr (A:=A) I hu h1 h2 r1 r2;have h1':=id h1;have h2':=id h2;obtain ⟨a,x1,x2,x3,rfl,q1,e1,e2,e3⟩:=h1;obtain ⟨b,y1,y2,y3,rfl,q2,f1,f2,f3⟩:=h2;cases r1
 cases r2
 by_cases hab:a=b
 ·subst hab;rw[yag (zk1 I h1' h2')];exact EqAt.same _
 ·exact EqAt.of_refs hab rc
end
instance {α β γ:Type} [Rep α] [Rep β] [Rep γ]:Rep (Tri α β γ) where
 dec:=inferInstance
 depth:=Rep.depth α+Rep.depth β+Rep.depth γ+1
 has:=has3
 mono:=fun e ⟨a,x,y,z,h1,h2,h3,h4,h5⟩=>⟨a,x,y,z,h1,e _ _ h2 (fun _ z=>nomatch z),Rep.mono e h3,Rep.mono e h4,Rep.mono e h5⟩
 inj:=fun I h1 h2=>zk1 I h1 h2
 rc:=fun I hu h1 h2 r1 r2=>znr I hu h1 h2 r1 r2
 rn:=fun I hu h1 h2 r1 r2=>zqN I hu h1 h2 r1 r2
 eq:=fun I hu h1 h2 r1 r2=>zqO I hu h1 h2 r1 r2
end L2
namespace L2
open PySem PySem.Spec PyProof.Rows
structure DM (K:Frag)(C:Addr)(m q:Str)(st:Stmt)(ps:List Str):Prop where
 ex:∃ f fd,Fun K m q st f fd∧zdT K fd ps []∧Meth K C m f
structure FM (P:Program)(w:World)(K:Frag)(mg:Str→Option Value)(base:Heap)(C:Addr)(k:Nat)(m:Str)(ps:List Str)(sp:Sp):Prop where
 ex:∃ f fd,FnOk P w K mg base CX0 k f fd ps sp∧zdT K fd ps []∧Meth K C m f
structure DI (K:Frag)(C:Addr)(q:Str)(st:Stmt)(ps:List Str):Prop where
 ex:∃ f fd,Fun K "__init__" q st f fd∧zdT K fd ps []∧Mk K C f
structure FI (P:Program)(w:World)(K:Frag)(mg:Str→Option Value)(base:Heap)(C:Addr)(k:Nat)(ps:List Str)(sp:Sp):Prop where
 ex:∃ f fd,FnOk P w K mg base CX0 k f fd ps sp∧zdT K fd ps []∧Mk K C f
section
variable {P:Program}{w:World}{K:Frag}{mg:Str→Option Value}{base:Heap}{C:Addr}{m q:Str}{st:Stmt}{N ps:List Str}{k:Nat}{sp:Sp}
theorem DM.ok (D:DM K C m q st ps)(S:zaq N ps (zaj st))(len:∀ vs H Q E,sp vs H Q E→vs.length=ps.length)
  (hbody:∀(f:Addr) (cdv:Value) (A:Around) (outer:List Env) (s:Shared) (H:Hp) (vs:List V) (Q:VK) (E:XK),Room k (A.deeper (envOfC q (zaj st) s.heap.objs.size f cdv))→sp vs H Q E→
   ∃ t,PSs (cxOf CX0 P w K mg base N q (zaj st) f cdv A outer s H E).nox (zbd st) t∧t { nx:=fun _ H'=>Q .non H',rt:=Q } (start N vs) H):FM P w K mg base C (k+1) m ps sp:=by
 obtain ⟨f,fd,F,b,me⟩:=D.ex;exact ⟨f,fd,F.ok S len fun cdv A outer s H vs Q E hr h=>hbody f cdv A outer s H vs Q E hr h,b,me⟩
theorem DI.ok (D:DI K C q st ps)(S:zaq N ps (zaj st))(len:∀ vs H Q E,sp vs H Q E→vs.length=ps.length)
  (hbody:∀(f:Addr) (cdv:Value) (A:Around) (outer:List Env) (s:Shared) (H:Hp) (vs:List V) (Q:VK) (E:XK),Room k (A.deeper (envOfC q (zaj st) s.heap.objs.size f cdv))→sp vs H Q E→
   ∃ t,PSs (cxOf CX0 P w K mg base N q (zaj st) f cdv A outer s H E).nox (zbd st) t∧t { nx:=fun _ H'=>Q .non H',rt:=Q } (start N vs) H):FI P w K mg base C (k+1) ps sp:=by
 obtain ⟨f,fd,F,b,me⟩:=D.ex;exact ⟨f,fd,F.ok S len fun cdv A outer s H vs Q E hr h=>hbody f cdv A outer s H vs Q E hr h,b,me⟩
end
section
variable {X:Cx}{j k:Nat}{C:Addr}{m x:Str}{ps:List Str}{sp:Sp}{o e:Expr}{es:List Expr}{ta:TE}{t:TA}{p pos apos:Pos}
theorem ziK {pl:Sem Bool}(F:FM X.prog X.w X.K X.mg X.base C j m ps sp)(c:Cls X.K C)(hr:Room k X.A)(he:PE X o ta)(ha:PA X (e::es) t)(hjk:j≤k:=by decide)
  (hst:starEach (e::es) X.env=(false,eval e X.env)::starEach es X.env:=by rfl) (hpl:(backTo pos (starEach es X.env)).any (·.1)=false:=by rfl)
  (ht:eval (.Call (.Attribute o m apos) (e::es) [] pos) X.env=(do
   let ov ← eval o X.env
   standAt apos.atName
   let (f,first) ← holding [ov] (getMethod ov m pl)
   callWith pos f first (backTo pos (starEach (e::es) X.env)) (backToKw pos (keywordEach [] X.env))):=by rfl) :
  PE X (.Call (.Attribute o m apos) (e::es) [] pos) (zn4 C m sp [] E0 ta t):=by
 obtain ⟨f,fd,ok,b,me⟩:=F.ex;exact zqd he c me ok (hr.mono hjk) b .nil zmJ ha hst hpl ht
theorem zrG {pl:Sem Bool}(F:FM X.prog X.w X.K X.mg X.base C j m ps sp)(c:Cls X.K C)(hr:Room k X.A)(he:PE X o ta)(hjk:j≤k:=by decide)
  (ht:eval (.Call (.Attribute o m apos) [] [] pos) X.env=(do
   let ov ← eval o X.env
   standAt apos.atName
   let (f,first) ← holding [ov] (getMethod ov m pl)
   callWith pos f first (backTo pos (starEach [] X.env)) (backToKw pos (keywordEach [] X.env))):=by rfl) :
  PE X (.Call (.Attribute o m apos) [] [] pos) (zn4 C m sp [] E0 ta tNil):=by
 obtain ⟨f,fd,ok,b,me⟩:=F.ex;exact zoi he c me ok (hr.mono hjk) b .nil zmJ ht
theorem zsJ (F:FI X.prog X.w X.K X.mg X.base C j ps sp)(hr:Room k X.A)(hm:X.mg x=some (.ref C))(ha:PA X (e::es) t)(hjk:j+1≤k:=by decide)(hg:Gl X x:=by rfl)
  (hdb:(x == ("__debug__" : Str))=false:=by decide) (he:starEach (e::es) X.env=(false,eval e X.env)::starEach es X.env:=by rfl) (hpl:(backTo pos (starEach es X.env)).any (·.1)=false:=by rfl) :
  PE X (.Call (.Name x p) (e::es) [] pos) (zrj C sp [] E0 t):=by
 obtain ⟨f,fd,ok,b,me⟩:=F.ex;exact zqe me ok (hr.mono hjk) hg hm b .nil zmJ ha hdb he hpl
end
end L2
namespace L2
open PySem PySem.Spec PyProof.Rows
section
variable {X:Cx}
theorem zmN (hu:X.A.units+1 < cLine):OpR X (compareOp .NotIn) (fun x y H Q=>∃ a o,y=.ref a∧DGet H a x o∧Q (.bl (!o.isSome)) H):=by
 intro pins s σ H x y v u Q I rx ry h;obtain ⟨a,o,rfl,g,q⟩:=h;cases ry
 exact zqX hu I g rx fun s' I'=>⟨.bl _,H,I',rfl,q⟩
theorem zls {A:Around}(hu:A.units+1 < cLine)(hA:X.A=A:=by rfl):OpR X (compareOp .NotIn) (fun x y H Q=>∃ a o,y=.ref a∧DGet H a x o∧Q (.bl (!o.isSome)) H):=by
 subst hA;exact zmN hu
end
end L2
namespace L2
open PySem PySem.Spec PyProof.Rows
section
variable {X:Cx}
def zrB (K:Frag):R2:=fun x y H Q=>∃ a b xs ys,x=.ref a∧y=.ref b∧SqT K H a xs∧SqT K H b ys∧xs.length+ys.length≤sizeLine∧
 (xs=[]→Q (.ref b) H)∧(xs≠[]→(ys=[]→Q (.ref a) H)∧(ys≠[]→∀ p,H p=none→Q (.ref p) (upd H p (.tup (xs++ys)))))
theorem zqk:OpR X (binaryOp .Add) (zrB X.K):=by
 intro pins s σ H x y v u Q I rx ry h;obtain ⟨a,b,xs,ys,e1,e2,ha,hb,hz,q1,q2⟩:=h;by_cases hx:xs=[]
 ·subst e1 e2;cases rx
  cases ry
  obtain ⟨its,r1,p1,_⟩:=I.tuple ha;obtain ⟨its2,r2,p2,_⟩:=I.tuple hb;obtain ⟨⟨cls,dd,data,sl⟩,ho,hc,n,hd⟩:=id p1;obtain ⟨⟨cls2,dd2,data2,sl2⟩,ho2,hc2,n2,hd2⟩:=id p2;simp only at hc hd hc2 hd2;subst hc hd hc2 hd2;have hv:its=[]:=r1.nil_iff.mpr hx;exact concat_meets ⟨_,ho,rfl⟩ ⟨_,ho2,rfl⟩ noFill_tuple_add seq_tuple_add PySem.F.slot_tuple_add PySem.F.entry_tuple_add (PySem.F.args_tuple_add_2 _ _)
   (tuple_addW0 a b its.toArray its2.toArray n n2 dd dd2 sl sl2 (by simp[hv])) ⟨ho,ho2,.ref b,H,I,rfl,q1 hx⟩
 ·exact zhW pins s σ H x y v u Q I rx ry ⟨a,b,xs,ys,e1,e2,ha,hb,hx,hz,fun z=>(q2 hx).1 z,fun z=>(q2 hx).2 z⟩
end
end L2
set_option maxHeartbeats 4000000
namespace My
open PySem PySem.Spec PyProof.Rows L2
local macro_rules | `(tactic| walk_at "sc") => `(tactic| exact ⟨rfl,rfl,rfl,by decide +kernel,rfl,by decide +kernel,by decide +kernel⟩)
local macro_rules | `(tactic| walk_at "side")=>`(tactic| first | omega | (dsimp only;omega) | (simp only[CDiv,zsU,CPow,CMul];omega) | decide)
local macro_rules | `(tactic| walk_at "rd")=>`(tactic| repeat (first | (refine ⟨_,rfl,?_⟩) | (refine ⟨_,_,rfl,rfl,?_⟩) | (refine ⟨rfl,?_⟩) | (refine ⟨(by walk_at "side"),?_⟩)))
def top (i:Nat):Stmt:=PySem.Challenge.pw_bridgefind_k45_deeds_told.main.body.getD i (.Pass ⟨0,0,0,0⟩)
abbrev zd3:Stmt:=top 12
abbrev zfX:Stmt:=top 13
abbrev zdY:Stmt:=top 14
abbrev zkz:Stmt:=top 15
abbrev zbA:Stmt:=top 16
abbrev zfk:Stmt:=top 17
abbrev zdd:Stmt:=top 18
abbrev zbK:Stmt:=top 21
abbrev zfP:Stmt:=top 22
abbrev zfR:Stmt:=top 23
abbrev zcO:Stmt:=top 25
abbrev zcP:Stmt:=top 26
abbrev zeG:Stmt:=top 27
abbrev zhI:Stmt:=top 28
abbrev zfY:Stmt:=top 29
abbrev zbq:Stmt:=top 32
abbrev zeB:Stmt:=top 33
abbrev zdb:Stmt:=top 34
abbrev zd4:Stmt:=top 35
abbrev zeH:Stmt:=top 36
abbrev zfQ:Stmt:=top 39
abbrev zbL:Stmt:=top 40
abbrev zdX:Stmt:=top 41
abbrev zdW:Stmt:=top 42
abbrev zcl:Stmt:=top 43
abbrev za9:Stmt:=top 44
abbrev zde:Stmt:=top 45
abbrev zeA:Stmt:=top 47
abbrev zeF:Stmt:=top 50
abbrev zeC:Stmt:=top 51
abbrev zfT:Stmt:=top 52
abbrev zhK:Stmt:=top 53
abbrev zfS:Stmt:=top 54
abbrev zhJ:Stmt:=top 55
abbrev zfV:Stmt:=top 56
abbrev zfW:Stmt:=top 57
abbrev zdZ:Stmt:=top 58
abbrev zdc:Stmt:=top 59
abbrev zeD:Stmt:=top 60
abbrev zeE:Stmt:=top 61
abbrev zd1:Stmt:=top 62
abbrev zcQ:Stmt:=top 63
abbrev zb1:Stmt:=top 64
abbrev zfU:Stmt:=top 65
abbrev zd2:Stmt:=top 66
abbrev zd0:Stmt:=top 67
abbrev zoa:Stmt:=top 68
abbrev zbC:Stmt:=zer (top 48) 0
abbrev zbM:Stmt:=zer (top 48) 1
abbrev zbB:Stmt:=zer (top 48) 2
abbrev zdf:Stmt:=zer (top 48) 3
abbrev zdg:Stmt:=zer (top 48) 4
abbrev zcm:Stmt:=zer (top 48) 6
abbrev zcR:Stmt:=zer (top 48) 7
theorem sc_is_whole:zaq ["thing"] ["thing"] (zaj zd3):=by walk_at "sc"
theorem sc_is_key:zaq ["thing"] ["thing"] (zaj zfX):=by walk_at "sc"
theorem sc_need_key:zaq ["thing"] ["thing"] (zaj zdY):=by walk_at "sc"
theorem sc_code:zaq ["entry","key","z"] ["entry"] (zaj zkz):=by walk_at "sc"
theorem sc_how_many_below:zaq ["length","is_below","low","high","middle"] ["length","is_below"] (zaj zbA):=by walk_at "sc"
theorem sc_place:zaq ["row","key"] ["row","key"] (zaj zfk):=by walk_at "sc"
theorem sc_joined_up:zaq ["lists","together","entries"] ["lists"] (zaj zdd):=by walk_at "sc"
theorem sc_lowest_unlike:zaq ["one","other","unlike"] ["one","other"] (zaj zbK):=by walk_at "sc"
theorem sc_turned:zaq ["numbers","told","at","number","figure"] ["numbers"] (zaj zfP):=by walk_at "sc"
theorem sc_labels:zaq ["entries","numbers","turn"] ["entries"] (zaj zfR):=by walk_at "sc"
theorem sc_neighbours:zaq ["things","at"] ["things","at"] (zaj zcO):=by walk_at "sc"
theorem sc_least_free:zaq ["taken"] ["taken"] (zaj zcP):=by walk_at "sc"
theorem sc_colours:zaq ["numbers","told","label","at"] ["numbers"] (zaj zeG):=by walk_at "sc"
theorem sc_marks:zaq ["entries","tints","told","colour","at"] ["entries"] (zaj zhI):=by walk_at "sc"
theorem sc_handed:zaq ["entries"] ["entries"] (zaj zfY):=by walk_at "sc"
theorem sc_is_one_of_first:zaq ["many","thing"] ["many","thing"] (zaj zbq):=by walk_at "sc"
theorem sc_tree_of:zaq ["parents","knot"] ["parents"] (zaj zeB):=by walk_at "sc"
theorem sc_need_knot:zaq ["tree","thing"] ["tree","thing"] (zaj zdb):=by walk_at "sc"
theorem sc_children:zaq ["tree","knot"] ["tree","knot"] (zaj zd4):=by walk_at "sc"
theorem sc_beneath:zaq ["tree","knot","told","other"] ["tree","knot"] (zaj zeH):=by walk_at "sc"
theorem sc_row_of:zaq ["things","thing"] ["things"] (zaj zfQ):=by walk_at "sc"
theorem sc_long_together:zaq ["lists"] ["lists"] (zaj zbL):=by walk_at "sc"
theorem sc_stand_of:zaq ["tree","rows","told"] ["tree","rows"] (zaj zdX):=by walk_at "sc"
theorem sc_with_row:zaq ["stand","knot","row","rows"] ["stand","knot","row"] (zaj zdW):=by walk_at "sc"
theorem sc_own_entries:zaq ["stand","knot"] ["stand","knot"] (zaj zcl):=by walk_at "sc"
theorem sc_full_rows_beneath:zaq ["stand","knot","tree","told","at","parts"] ["stand","knot"] (zaj za9):=by walk_at "sc"
theorem sc_full_rows:zaq ["stand","told"] ["stand"] (zaj zde):=by walk_at "sc"
theorem sc_without:zaq ["entries","others","away","entry"] ["entries","others"] (zaj zeA):=by walk_at "sc"
theorem sc_l_begin:zaq ["_law_script"] ["_law_script"] (zaj zeF):=by walk_at "sc"
theorem sc_l_mixed:zaq ["_law_cell","_law_k","_law_one","_law_two"] ["_law_cell","_law_k"] (zaj zeC):=by walk_at "sc"
theorem sc_l_take:zaq ["_law_state","_law_most","_law_k","_law_script","_law_cell","_law_found"] ["_law_state","_law_most"] (zaj zfT):=by walk_at "sc"
theorem sc_l_key:zaq ["_law_state","_law_way"] ["_law_state"] (zaj zhK):=by walk_at "sc"
theorem sc_l_tree:zaq ["_law_state","_law_most","_law_way","_law_parents","_law_k"] ["_law_state","_law_most"] (zaj zfS):=by walk_at "sc"
theorem sc_l_row:zaq ["_law_state","_law_most","_law_found","_law_k"] ["_law_state","_law_most"] (zaj zhJ):=by walk_at "sc"
theorem sc_l_rows:zaq ["_law_state","_law_many","_law_most","_law_rows_here","_law_k","_law_row_here"] ["_law_state","_law_many","_law_most"] (zaj zfV):=by walk_at "sc"
theorem sc_l_code:zaq ["_law_entry","_law_key_here","_law_knot"] ["_law_entry"] (zaj zfW):=by walk_at "sc"
theorem sc_l_turned:zaq ["_law_numbers","_law_found","_law_k","_law_one","_law_other","_law_b"] ["_law_numbers"] (zaj zdZ):=by walk_at "sc"
theorem sc_l_colours:zaq ["_law_numbers","_law_found","_law_high","_law_at","_law_k","_law_beside"] ["_law_numbers"] (zaj zdc):=by walk_at "sc"
theorem sc_l_marks:zaq ["_law_entries","_law_numbers","_law_k","_law_shades","_law_found","_law_shade"] ["_law_entries"] (zaj zeD):=by walk_at "sc"
theorem sc_l_fulls:zaq ["_law_tree_here","_law_rows_here","_law_found","_law_k","_law_up","_law_entry","_law_is_on"] ["_law_tree_here","_law_rows_here"] (zaj zeE):=by walk_at "sc"
theorem sc_l_differ:zaq ["_law_before","_law_behind_here","_law_gone"] ["_law_before","_law_behind_here"] (zaj zd1):=by walk_at "sc"
theorem sc_l_told_due:zaq ["_law_tree_here","_law_ahead","_law_fulls_here","_law_knot","_law_found","_law_gone","_law_come"] ["_law_tree_here","_law_ahead","_law_fulls_here","_law_knot"] (zaj zcQ):=by walk_at "sc"
theorem sc_l_deed_alike:zaq ["_law_found","_law_due","_law_row_here"] ["_law_found","_law_due"] (zaj zb1):=by walk_at "sc"
theorem sc_l_step:zaq ["_law_state","_law_tree_here","_law_rows_here","_law_knot","_law_key_here"] ["_law_state","_law_tree_here","_law_rows_here"] (zaj zfU):=by walk_at "sc"
theorem sc_l_behind:zaq ["_law_rows_here","_law_knot","_law_key_here","_law_is_put","_law_found"] ["_law_rows_here","_law_knot","_law_key_here","_law_is_put"] (zaj zd2):=by walk_at "sc"
theorem sc_l_stands:zaq ["_law_shelf","_law_tree_here","_law_rows_here","_law_fulls_here","_law_last","_law_found","_law_knot","_law_turn","_law_one"] ["_law_shelf","_law_tree_here","_law_rows_here","_law_fulls_here","_law_last"] (zaj zd0):=by walk_at "sc"
theorem sc_law:zaq ["_law_script","_law_state","_law_tree_here","_law_rows_here","_law_first","_law_shelf","_law_start","_law_ahead","_law_k","_law_knot","_law_key_here","_law_is_put","_law_fulls_here","_law_found","_law_row_here"] ["_law_script"] (zaj zoa):=by walk_at "sc"
theorem sc_Shelf___init__:zaq ["self","stand"] ["self","stand"] (zaj zbC):=by walk_at "sc"
theorem sc_Shelf_row_for:zaq ["self","knot","key"] ["self","knot","key"] (zaj zbM):=by walk_at "sc"
theorem sc_Shelf_carry_up:zaq ["self","knot","gone","come","told","before","after"] ["self","knot","gone","come"] (zaj zbB):=by walk_at "sc"
theorem sc_Shelf_put:zaq ["self","knot","key","row","at"] ["self","knot","key"] (zaj zdf):=by walk_at "sc"
theorem sc_Shelf_out:zaq ["self","knot","key","row","at"] ["self","knot","key"] (zaj zdg):=by walk_at "sc"
theorem sc_Shelf_stand:zaq ["self"] ["self"] (zaj zcm):=by walk_at "sc"
theorem sc_Shelf_full:zaq ["self","knot"] ["self","knot"] (zaj zcR):=by walk_at "sc"
abbrev zcF:List Str:=["thing"]
abbrev zdD:List Str:=["thing"]
abbrev zdi:List Str:=["thing"]
abbrev zhP:List Str:=["entry"]
abbrev zbr:List Str:=["length","is_below"]
abbrev zeN:List Str:=["row","key"]
abbrev zb9:List Str:=["lists"]
abbrev zbD:List Str:=["one","other"]
abbrev zeL:List Str:=["numbers"]
abbrev zeO:List Str:=["entries"]
abbrev zbN:List Str:=["things","at"]
abbrev zcn:List Str:=["taken"]
abbrev zec:List Str:=["numbers"]
abbrev zf2:List Str:=["entries"]
abbrev zdE:List Str:=["entries"]
abbrev zaX:List Str:=["many","thing"]
abbrev zd7:List Str:=["parents"]
abbrev zb8:List Str:=["tree","thing"]
abbrev zdn:List Str:=["tree","knot"]
abbrev zed:List Str:=["tree","knot"]
abbrev zeM:List Str:=["things"]
abbrev zbf:List Str:=["lists"]
abbrev zdh:List Str:=["tree","rows"]
abbrev zcE:List Str:=["stand","knot","row"]
abbrev zb2:List Str:=["stand","knot"]
abbrev za3:List Str:=["stand","knot"]
abbrev zcT:List Str:=["stand"]
abbrev zd6:List Str:=["entries","others"]
abbrev zeb:List Str:=["_law_script"]
abbrev zd8:List Str:=["_law_cell","_law_k"]
abbrev zbO:List Str:=["_law_state","_law_most"]
abbrev zeS:List Str:=["_law_state"]
abbrev zeP:List Str:=["_law_state","_law_most"]
abbrev zf3:List Str:=["_law_state","_law_most"]
abbrev zeR:List Str:=["_law_state","_law_many","_law_most"]
abbrev zeT:List Str:=["_law_entry"]
abbrev zdj:List Str:=["_law_numbers"]
abbrev zcS:List Str:=["_law_numbers"]
abbrev zd9:List Str:=["_law_entries"]
abbrev zea:List Str:=["_law_tree_here","_law_rows_here"]
abbrev zdl:List Str:=["_law_before","_law_behind_here"]
abbrev zco:List Str:=["_law_tree_here","_law_ahead","_law_fulls_here","_law_knot"]
abbrev zbP:List Str:=["_law_found","_law_due"]
abbrev zeQ:List Str:=["_law_state","_law_tree_here","_law_rows_here"]
abbrev zdm:List Str:=["_law_rows_here","_law_knot","_law_key_here","_law_is_put"]
abbrev zdk:List Str:=["_law_shelf","_law_tree_here","_law_rows_here","_law_fulls_here","_law_last"]
abbrev zkE:List Str:=["_law_script"]
abbrev zbs:List Str:=["self","stand"]
abbrev zbg:List Str:=["self","knot","key"]
abbrev za4:List Str:=["self","knot","gone","come"]
abbrev zcU:List Str:=["self","knot","key"]
abbrev zcV:List Str:=["self","knot","key"]
abbrev zb3:List Str:=["self"]
abbrev zcp:List Str:=["self","knot"]
structure Txt (K:Frag)(mg:Str→Option Value):Prop where
 m_abs:mg "abs" = none
 m_bool:mg "bool" = none
 m_enumerate:mg "enumerate" = none
 m_int:mg "int" = none
 m_isinstance:mg "isinstance" = none
 m_len:mg "len" = none
 m_list:mg "list" = none
 m_max:mg "max" = none
 m_min:mg "min" = none
 m_range:mg "range" = none
 m_reversed:mg "reversed" = none
 m_set:mg "set" = none
 m_sorted:mg "sorted" = none
 m_sum:mg "sum" = none
 m_tuple:mg "tuple" = none
 m_zip:mg "zip" = none
 g_KNOT_NUMBERS:∃ t,mg "KNOT_NUMBERS" = some (.int 64 t)
 g_TURNS:∃ t,mg "TURNS" = some (.int 5 t)
 g_MOST_KNOTS:∃ t,mg "MOST_KNOTS" = some (.int 40 t)
 g_MOST_KEYS:∃ t,mg "MOST_KEYS" = some (.int 300 t)
structure OwnC (K:Frag)(mg:Str→Option Value)(C:Addr):Prop where
 cl:L2.Cls K C
 mgC:mg "Shelf" = some (.ref C)
 n_kept:zfI K C "kept"
 n_fulls:zfI K C "fulls"
theorem zjN (m n i j:Nat)(hi:i < 2)(hj:j < 2):(2*m+i) &&& (2*n+j)=2*(m &&& n)+(i &&& j):=by
 apply Nat.eq_of_testBit_eq;intro k;cases k with
 | zero=>
  have h1:i=0∨i=1:=by omega
  have h2:j=0∨j=1:=by omega
  rcases h1 with rfl | rfl <;> rcases h2 with rfl | rfl <;> simp[Nat.testBit_zero] <;> omega
 | succ k=>
  have h1:i=0∨i=1:=by omega
  have h2:j=0∨j=1:=by omega
  have e1:(2*m+i)/2=m:=by omega
  have e2:(2*n+j)/2=n:=by omega
  have e3:(2*(m &&& n)+(i &&& j))/2=m &&& n:=by
   rcases h1 with rfl | rfl <;> rcases h2 with rfl | rfl <;> simp <;> omega
  rw[Nat.testBit_and,ybM,ybM,ybM,e1,e2,e3,Nat.testBit_and]
theorem zr4 (m n i j:Nat)(hi:i < 2)(hj:j < 2):(2*m+i) ||| (2*n+j)=2*(m ||| n)+(i ||| j):=by
 apply Nat.eq_of_testBit_eq;intro k;cases k with
 | zero=>
  have h1:i=0∨i=1:=by omega
  have h2:j=0∨j=1:=by omega
  rcases h1 with rfl | rfl <;> rcases h2 with rfl | rfl <;> simp[Nat.testBit_zero] <;> omega
 | succ k=>
  have h1:i=0∨i=1:=by omega
  have h2:j=0∨j=1:=by omega
  have e1:(2*m+i)/2=m:=by omega
  have e2:(2*n+j)/2=n:=by omega
  have e3:(2*(m ||| n)+(i ||| j))/2=m ||| n:=by
   rcases h1 with rfl | rfl <;> rcases h2 with rfl | rfl <;> simp <;> omega
  rw[Nat.testBit_or,ybM,ybM,ybM,e1,e2,e3,Nat.testBit_or]
def lu (a b:Nat):Nat:=if a=b then 0 else if a % 2=b % 2 then lu (a / 2) (b / 2)+1 else 0
termination_by a+b
decreasing_by omega
theorem zh3 {a b:Nat}(hab:a≠b)(h:a % 2=b % 2):lu a b=lu (a / 2) (b / 2)+1:=by
 rw[lu,if_neg hab,if_pos h]
theorem zkQ {a b:Nat}(h:a % 2≠b % 2):lu a b=0:=by
 rw[lu];split
 ·rfl
 ·rfl
def xr (a b:Nat):Nat:=(a ||| b) - (a &&& b)
def zfF (n:Nat):Nat:=n - (n &&& (n - 1))
theorem zjk (a b:Nat):a &&& b≤a ||| b:=yao Nat.and_le_left Nat.left_le_or
theorem zsv (m n i j:Nat)(hi:i < 2)(hj:j < 2):xr (2*m+i) (2*n+j)=2 * xr m n+(if i=j then 0 else 1):=by
 unfold xr;rw[zr4 m n i j hi hj,zjN m n i j hi hj];have q:=zjk m n;have h1:i=0∨i=1:=by omega
 have h2:j=0∨j=1:=by omega
 rcases h1 with rfl | rfl <;> rcases h2 with rfl | rfl <;> simp <;> omega
theorem zlV (a b:Nat):xr a b=2 * xr (a / 2) (b / 2)+(if a % 2=b % 2 then 0 else 1):=by
 have e1:2 * (a / 2)+a % 2=a:=by omega
 have e2:2 * (b / 2)+b % 2=b:=by omega
 have q:=zsv (a / 2) (b / 2) (a % 2) (b % 2) (by omega) (by omega);rw[e1,e2]at q;exact q
theorem zpm:∀(n a b:Nat),a+b≤n→a≠b→0 < xr a b:=by
 intro n
 induction n with
 | zero=>intro a b h1 h2;omega
 | succ n ih=>
  intro a b h1 h2;rw[zlV];by_cases h:a % 2=b % 2
  ·have:=ih (a / 2) (b / 2) (by omega) (by omega);omega
  ·rw[if_neg h];omega
theorem zqz (m:Nat):zfF (2 * m+1)=1:=by
 unfold zfF;have q:=zjN m m 1 0 (by omega) (by omega);have e:2 * m+1 - 1=2 * m+0:=by omega
 rw[e,q];simp
theorem zoP (m:Nat)(h:0 < m):zfF (2 * m)=2 * zfF m:=by
 unfold zfF;have q:=zjN m (m - 1) 0 1 (by omega) (by omega);have e:2 * m - 1=2 * (m - 1)+1:=by omega
 have e':2 * m=2 * m+0:=by omega
 rw[e];have:(2 * m &&& 2 * (m - 1)+1)=2 * (m &&& m - 1)+(0 &&& 1):=q;rw[this];have z:m &&& (m - 1)≤m:=Nat.and_le_left;simp;omega
theorem zr2:∀(n a b:Nat),a+b≤n→a≠b→zfF (xr a b)=2 ^ lu a b:=by
 intro n
 induction n with
 | zero=>intro a b h1 h2;omega
 | succ n ih=>
  intro a b h1 h2;rw[zlV];by_cases h:a % 2=b % 2
  ·rw[if_pos h,zh3 h2 h,ybs,zoP _ (zpm n _ _ (by omega) (by omega)),ih _ _ (by omega) (by omega),ybN];omega
  ·rw[if_neg h,zkQ h,zqz,Nat.pow_zero]
theorem zqx:∀(n a b:Nat),a+b≤n→a≠b→a % 2 ^ lu a b=b % 2 ^ lu a b∧a % 2 ^ (lu a b+1)≠b % 2 ^ (lu a b+1):=by
 intro n
 induction n with
 | zero=>intro a b h1 h2;omega
 | succ n ih=>
  intro a b h1 h2;by_cases h:a % 2=b % 2
  ·rw[zh3 h2 h];obtain ⟨q1,q2⟩:=ih (a / 2) (b / 2) (by omega) (by omega);have s:∀ x k:Nat,x % 2 ^ (k+1)=2 * (x / 2 % 2 ^ k)+x % 2:=by
    intro x k;rw[ybN,Nat.mul_comm,Nat.mod_mul];omega
   rw[s a,s b,s a,s b];constructor
   ·omega
   ·omega
  ·rw[zkQ h];simp[Nat.mod_one];omega
theorem zsK:∀(k a b:Nat),a≠b→a < 2 ^ k→b < 2 ^ k→lu a b < k:=by
 intro k
 induction k with
 | zero=>intro a b h1 h2 h3;simp at h2 h3;omega
 | succ k ih=>
  intro a b h1 h2 h3;by_cases h:a % 2=b % 2
  ·rw[zh3 h1 h];have:=ih (a / 2) (b / 2) (by omega) (by rw[ybN]at h2;omega) (by rw[ybN]at h3;omega);omega
  ·rw[zkQ h];omega
def fig (a b:Nat):Nat:=2 * lu a b+b / 2 ^ lu a b % 2
theorem zic (a b:Nat):fig a b / 2=lu a b:=by
 unfold fig;have:=Nat.mod_lt (b / 2 ^ lu a b) (by decide:0 < 2);omega
theorem zjZ (a b:Nat):fig a b % 2=b / 2 ^ lu a b % 2:=by
 unfold fig;have:=Nat.mod_lt (b / 2 ^ lu a b) (by decide:0 < 2);omega
theorem zfC (x k:Nat):x % 2 ^ (k+1)=x % 2 ^ k+2 ^ k * (x / 2 ^ k % 2):=by
 rw[ybN,Nat.mod_mul]
theorem zpF {a b:Nat}(h:a≠b):a / 2 ^ lu a b % 2≠b / 2 ^ lu a b % 2:=by
 obtain ⟨h1,h2⟩:=zqx _ a b (yaa _) h;intro e;apply h2;rw[zfC,zfC,h1,e]
theorem zsk {a b c:Nat}(h2:b≠c):fig a b≠fig b c:=by
 intro e;have e1:lu a b=lu b c:=by rw[← zic,e,zic]
 have e2:b / 2 ^ lu a b % 2=c / 2 ^ lu b c % 2:=by rw[← zjZ,e,zjZ]
 rw[e1]at e2;exact zpF h2 e2
theorem zqT {a b:Nat}(h:a≠b):a % 2≠fig a b:=by
 intro e;have l:a % 2 < 2:=Nat.mod_lt _ (by decide);have e1:lu a b=0:=by
  have:=zic a b;omega
 have e2:=zjZ a b;have e3:=zpF h;rw[e1]at e2 e3;simp at e2 e3;omega
theorem zsl {a b k:Nat}(h:a≠b)(ha:a < 2 ^ k)(hb:b < 2 ^ k):fig a b < 2 * k:=by
 have:=zsK k a b h ha hb;have:=Nat.mod_lt (b / 2 ^ lu a b) (by decide:0 < 2);unfold fig;omega
def zc3 (xs:List Nat)(i:Nat):Nat:=if i=0 then xs.getD 0 0 % 2 else fig (xs.getD (i - 1) 0) (xs.getD i 0)
def zcA (xs:List Nat):List Nat:=(List.range xs.length).map (zc3 xs)
theorem za5 (xs:List Nat):(zcA xs).length=xs.length:=by unfold zcA;rw[yab,ybb]
theorem zis {xs:List Nat}{i:Nat}(h:i < xs.length):(zcA xs)[i]?=some (zc3 xs i):=by
 unfold zcA;rw[yar,yck h];rfl
theorem zff {xs:List Nat}{i:Nat}(h:i < xs.length):(zcA xs).getD i 0=zc3 xs i:=by
 rw[yae,zis h];rfl
theorem zgV {xs:List Nat}{i:Nat}(h:i < xs.length):(zcA xs).take (i+1)=(zcA xs).take i++[zc3 xs i]:=by
 have h':i < (zcA xs).length:=by rw[za5];exact h
 rw[yaQ h'];have:=zis h;rw[yac h']at this;rw[yad this]
def Unl (xs:List Nat):Prop:=∀ i,i+1 < xs.length→xs.getD i 0≠xs.getD (i+1) 0
theorem zl8 {xs:List Nat}(h:Unl xs):Unl (zcA xs):=by
 intro i hi;rw[za5]at hi;rw[zff (by omega),zff hi];unfold zc3;rw[if_neg (by omega:¬ i+1=0),Nat.add_sub_cancel];by_cases h0:i=0
 ·subst h0;rw[if_pos rfl];exact zqT (h 0 hi)
 ·rw[if_neg h0];exact zsk (h i hi)
def zdU (m:Nat)(xs:List Nat):Prop:=∀ i,i < xs.length→xs.getD i 0 < m
theorem zcz {xs:List Nat}{k:Nat}(hk:1≤k)(h:Unl xs)(hb:zdU (2 ^ k) xs):zdU (2 * k) (zcA xs):=by
 intro i hi;rw[za5]at hi;rw[zff hi];unfold zc3;split
 ·have:xs.getD 0 0 % 2 < 2:=Nat.mod_lt _ (by decide);omega
 ·have:=h (i - 1) (by omega);rw[show i - 1+1=i by omega]at this;exact zsl this (hb _ (by omega)) (hb _ hi)
theorem zpL (a b:Nat):Builtin.bitXor (a:Int) (b:Int)=((xr a b:Nat):Int):=by
 have h1:Builtin.bitAnd (a:Int) (b:Int)=((a &&& b:Nat):Int):=by
  unfold Builtin.bitAnd;rw[yag (ybv a),yag (ybv b)];rfl
 have n1:¬ (0:Int)≤Builtin.bitNot (a:Int):=by unfold Builtin.bitNot;omega
 have n2:¬ (0:Int)≤Builtin.bitNot (b:Int):=by unfold Builtin.bitNot;omega
 have h2:Builtin.bitOr (a:Int) (b:Int)=((a ||| b:Nat):Int):=by
  unfold Builtin.bitOr Builtin.bitAnd;rw[yah n1,yah n2];have e:∀ x:Int,Builtin.bitNot (Builtin.bitNot x)=x:=fun x=>by unfold Builtin.bitNot;omega
  show Builtin.bitNot (Builtin.bitNot _)=_;rw[e,e,e];rfl
 unfold Builtin.bitXor xr;rw[h1,h2];have:=zjk a b;omega
theorem zq8 (n:Nat)(h:0 < n):Builtin.bitAnd (n:Int) (-(n:Int))=((zfF n:Nat):Int):=by
 have n2:¬ (0:Int)≤-(n:Int):=by omega
 have e:(Builtin.bitNot (-(n:Int))).toNat=n - 1:=by unfold Builtin.bitNot;omega
 unfold Builtin.bitAnd zfF;rw[yag (ybv n),yah n2];show (n:Int) - (((n:Int).toNat &&& (Builtin.bitNot (-(n:Int))).toNat:Nat):Int)=_;rw[e,ya5];have:n &&& (n - 1)≤n:=Nat.and_le_left;omega
theorem zr3 (a b:Nat)(h:a≠b):((Builtin.Int.intBits (Builtin.bitAnd (Builtin.bitXor (a:Int) (b:Int)) (-(Builtin.bitXor (a:Int) (b:Int)))):Nat):Int) - 1=((lu a b:Nat):Int):=by
 rw[zpL,zq8 _ (zpm _ a b (yaa _) h),zr2 _ a b (yaa _) h];unfold Builtin.Int.intBits;have p:0 < 2 ^ lu a b:=Nat.two_pow_pos _;rw[if_neg (by
  intro z;have z':=eq_of_beq z;omega),Int.natAbs_natCast,Nat.log2_two_pow]
 omega
def atZ {α:Type}(l:List α)(i:Int):Option α:=if 0≤i then l[i.toNat]? else none
theorem zdR {α:Type}(l:List α)(i:Nat):atZ l (i:Int)=l[i]?:=by
 unfold atZ;rw[if_pos (ybv i),ya5]
theorem zka {α:Type}{l:List α}{i:Int}(h:i < 0):atZ l i=none:=by
 unfold atZ;rw[if_neg (by omega)]
theorem zk9 {α:Type}{l:List α}{i:Int}{x:α}(h:atZ l i=some x):0≤i∧i < l.length:=by
 unfold atZ at h;split at h
 ·have:=(yak.mp h).1;omega
 ·cases h
def zlD {α β:Type}(f:Option α→α→Option α→β):Option α→List α→List β
 | _,[]=>[]
 | p,x::l=>f p x l.head? :: zlD f (some x) l
def mapW {α β:Type}(f:Option α→α→Option α→β)(l:List α):List β:=zlD f none l
theorem zdK {α β:Type}(f:Option α→α→Option α→β):∀(l:List α) (p:Option α) (k:Nat),(zlD f p l)[k]?=l[k]?.map fun x=>f (if k=0 then p else l[k - 1]?) x l[k+1]?
 | [],_,_=>rfl
 | x::l,p,0=>by
  show some (f p x l.head?)=some (f p x l[0]?);rw[List.head?_eq_getElem?]
 | x::l,p,k+1=>by
  show (zlD f (some x) l)[k]?=l[k]?.map fun y=>f (x::l)[k]? y l[k+1]?;rw[zdK f l (some x) k];cases k with
  | zero=>rfl
  | succ k=>rfl
theorem zfE {α β:Type}(f:Option α→α→Option α→β):∀(l:List α) (p:Option α),(zlD f p l).length=l.length
 | [],_=>rfl
 | x::l,p=>by
  show (zlD f (some x) l).length+1=l.length+1;rw[zfE f l]
theorem zcG {α β:Type}(f:Option α→α→Option α→β)(l:List α):(mapW f l).length=l.length:=zfE f l none
theorem zqw {α β:Type}(f:Option α→α→Option α→β)(l:List α)(i:Int):atZ (mapW f l) i=(atZ l i).map fun x=>f (atZ l (i - 1)) x (atZ l (i+1)):=by
 by_cases h:0≤i
 ·obtain ⟨k,rfl⟩:∃ k:Nat,i=(k:Int):=⟨i.toNat,by omega⟩;rw[zdR,zdR,mapW,zdK,show ((k:Int)+1)=((k+1:Nat):Int) by omega,zdR];have e:atZ l ((k:Int) - 1)=if k=0 then none else l[k - 1]?:=by
   split
   ·rw[zka (by omega)]
   ·rw[show ((k:Int) - 1)=((k - 1:Nat):Int) by omega,zdR]
  rw[e]
 ·rw[zka (l:=mapW f l) (by omega),zka (l:=l) (i:=i) (by omega)];rfl
def UnlZ (xs:List Nat):Prop:=∀(i:Int) (x y:Nat),atZ xs i=some x→atZ xs (i+1)=some y→x≠y
theorem unlZ {xs:List Nat}(h:Unl xs):UnlZ xs:=by
 intro i x y hx hy;obtain ⟨a,b⟩:=zk9 hx;obtain ⟨_,c⟩:=zk9 hy;obtain ⟨k,rfl⟩:∃ k:Nat,i=(k:Int):=⟨i.toNat,by omega⟩;rw[zdR]at hx;rw[show ((k:Int)+1)=((k+1:Nat):Int) by omega,zdR]at hy;have:=h k (by omega);rw[yae,yae,hx,hy]at this;exact this
theorem zl5 {xs:List Nat}(h:UnlZ xs):Unl xs:=by
 intro k hk;have:=h k xs[k] xs[k+1] (by rw[zdR];exact yac (by omega)) (by rw[show ((k:Int)+1)=((k+1:Nat):Int) by omega,zdR];exact yac hk);rw[yae,yae,yac (show k < xs.length by omega),yac hk];exact this
def zfK (p n:Option Nat):Nat:=if p≠some 0∧n≠some 0 then 0 else if p≠some 1∧n≠some 1 then 1 else 2
theorem zo1 (p n:Option Nat):zfK p n≤2:=by
 unfold zfK;split
 ·omega
 ·split <;> omega
theorem zft {p n:Option Nat}{x:Nat}(h:p=some x):zfK p n≠x:=by
 subst h;unfold zfK;split
 ·rename_i c;intro z;exact c.1 (by rw[← z])
 ·split
  ·rename_i c;intro z;exact c.1 (by rw[← z])
  ·rename_i c d;intro z;subst z;have c1:n=some 0:=Decidable.byContradiction fun q=>c ⟨by decide,q⟩;have d1:n=some 1:=Decidable.byContradiction fun q=>d ⟨by decide,q⟩;rw[c1]at d1;cases d1
theorem zlL (p n:Option Nat):zfK p n=zfK n p:=by
 unfold zfK;simp only[And.comm]
theorem zhh {p n:Option Nat}{x:Nat}(h:n=some x):zfK p n≠x:=by
 rw[zlL];exact zft h
def recF (v:Nat)(p:Option Nat)(x:Nat)(n:Option Nat):Nat:=if x=v then zfK p n else x
def recL (v:Nat)(xs:List Nat):List Nat:=mapW (recF v) xs
theorem zba (v:Nat)(xs:List Nat):(recL v xs).length=xs.length:=zcG _ _
theorem zf0 {v:Nat}{xs:List Nat}(h:UnlZ xs):UnlZ (recL v xs):=by
 intro i x y hx hy;unfold recL at hx hy;rw[zqw]at hx hy;cases ex:atZ xs i with
 | none=>rw[ex]at hx;cases hx
 | some x0=>
  cases ey:atZ xs (i+1) with
  | none=>rw[ey]at hy;cases hy
  | some y0=>
   rw[ex]at hx;rw[ey]at hy;have hx:x=recF v (atZ xs (i - 1)) x0 (atZ xs (i+1)):=(yad hx).symm;have hy:y=recF v (atZ xs (i+1 - 1)) y0 (atZ xs (i+1+1)):=(yad hy).symm;have n0:=h i x0 y0 ex ey;have e1:i+1 - 1=i:=by omega
   unfold recF at hx hy;rw[e1,ex]at hy;rw[ey]at hx;split at hx
   ·rename_i c;split at hy
    ·rename_i c';omega
    ·rw[hx,hy];exact zhh rfl
   ·split at hy
    ·rw[hx,hy];exact (zft rfl).symm
    ·omega
def colL (xs:List Nat):List Nat:=recL 5 (recL 4 (recL 3 xs))
theorem zes (xs:List Nat):(colL xs).length=xs.length:=by
 unfold colL;rw[zba,zba,zba]
theorem zk5 {xs:List Nat}(h:UnlZ xs):UnlZ (colL xs):=zf0 (zf0 (zf0 h))
def zrY (sh:Nat)(p:Option (Nat×Bool))(x:Nat×Bool)(n:Option (Nat×Bool)):Nat×Bool:=
 (x.1,x.2 || (decide (x.1=sh) && p.isSome && !(p.map (·.2)).getD false && !(n.map (·.2)).getD false))
def zgn (sh:Nat)(l:List (Nat×Bool)):List (Nat×Bool):=mapW (zrY sh) l
def start (c:List Nat):List (Nat×Bool):=c.map fun x=>(x,false)
def marked (c:List Nat):List (Nat×Bool):=zgn 0 (zgn 1 (zgn 2 (start c)))
def zhb (c:List Nat):List Bool:=(marked c).map (·.2)
theorem zh2 (c:List Nat):(marked c).length=c.length:=by
 unfold marked zgn start;rw[zcG,zcG,zcG,yab]
theorem zh1 (c:List Nat):(zhb c).length=c.length:=by
 unfold zhb;rw[yab,zh2]
structure zrd (ms:List Bool):Prop where
 fst:ms.getD 0 false=false
 ind:∀ i,ms.getD i false=true→ms.getD (i+1) false=true→False
 dom:∀ i,1≤i→i < ms.length→ms.getD (i - 1) false=true∨ms.getD i false=true∨ms.getD (i+1) false=true
theorem zjX {p n:Option Nat}{y:Nat}(h:y < zfK p n):p=some y∨n=some y:=by
 unfold zfK at h;split at h
 ·omega
 ·rename_i c;have c0:p=some 0∨n=some 0:=Decidable.byContradiction fun q=>c ⟨fun z=>q (.inl z),fun z=>q (.inr z)⟩;split at h
  ·have:y=0:=by omega
   subst this;exact c0
  ·rename_i d;have d0:p=some 1∨n=some 1:=Decidable.byContradiction fun q=>d ⟨fun z=>q (.inl z),fun z=>q (.inr z)⟩;have:y=0∨y=1:=by omega
   rcases this with rfl | rfl
   ·exact c0
   ·exact d0
def zaJ (xs:List Nat)(k:Nat):List Nat:=(if k=0 then none else xs[k - 1]?).toList++xs[k+1]?.toList
theorem zgJ {xs:List Nat}{k y:Nat}:y∈zaJ xs k↔(if k=0 then none else xs[k - 1]?)=some y∨xs[k+1]?=some y:=by
 unfold zaJ;rw[yaj,Option.mem_toList,Option.mem_toList]
def zcH (xs:List Nat)(k:Nat):Nat:=zfK (if k=0 then none else xs[k - 1]?) xs[k+1]?
theorem zhg {xs:List Nat}{k:Nat}:zcH xs k∉zaJ xs k:=fun h=>by
 rcases zgJ.mp h with q | q
 ·exact zft q rfl
 ·exact zhh q rfl
theorem zfH {xs:List Nat}{k y:Nat}(h:y < zcH xs k):y∈zaJ xs k:=zgJ.mpr (zjX h)
theorem zi3 (xs:List Nat)(k:Nat):zcH xs k≤2:=zo1 _ _
theorem zi4 {xs:List Nat}{k:Nat}:((List.range 3).filter fun c=>!decide (c∈zaJ xs k)).head?=some (zcH xs k):=by
 have h1:=zhg (xs:=xs) (k:=k);have h2:=fun y=>zfH (xs:=xs) (k:=k) (y:=y);have h3:=zi3 xs k;rw[show List.range 3=[0,1,2] from rfl];generalize zcH xs k=f at h1 h2 h3 ⊢;have z:f=0∨f=1∨f=2:=by omega
 rcases z with rfl | rfl | rfl
 ·simp[List.filter,h1]
 ·simp[List.filter,h1,h2 0 (by omega)]
 ·simp[List.filter,h1,h2 0 (by omega),h2 1 (by omega)]
theorem zhM {v:Nat}{xs:List Nat}{k:Nat}(h:k < xs.length):(recL v xs)[k]?=some (if xs.getD k 0=v then zcH xs k else xs.getD k 0):=by
 unfold recL mapW;rw[zdK,yae,yac h];rfl
def mixL (v:Nat)(xs:List Nat)(k:Nat):List Nat:=(recL v xs).take k++xs.drop k
theorem zkN {v:Nat}{xs:List Nat}{k:Nat}(h:xs.length≤k):mixL v xs k=recL v xs:=by
 unfold mixL;rw[yas (by rw[zba];exact h),yaZ h,yaz]
theorem zeq (v:Nat)(xs:List Nat)(k:Nat):(mixL v xs k).length=xs.length:=by
 unfold mixL;rw[yap,yaq,yaR,zba];omega
theorem zee (v:Nat)(xs:List Nat)(k j:Nat):(mixL v xs k)[j]?=if j < k then (recL v xs)[j]? else xs[j]?:=by
 unfold mixL;by_cases hk:k≤xs.length
 ·rw[List.getElem?_append,yaq,zba,ybz hk];split
  ·rw[yb1];rw[if_pos (by assumption)]
  ·rw[yce];congr 1;omega
 ·rw[yaZ (by omega),yaz,yas (by rw[zba];omega)];split
  ·rfl
  ·rw[yaP (by rw[zba];omega),yaP (by omega)]
theorem zm7 {v:Nat}{xs:List Nat}{k j:Nat}(h:k≤j):(mixL v xs k)[j]?=xs[j]?:=by
 rw[zee,if_neg (by omega)]
theorem ziS {v:Nat}{xs:List Nat}{k:Nat}(h:k < xs.length)(hv:xs.getD k 0≠v):mixL v xs (k+1)=mixL v xs k:=by
 apply yba;intro j;rw[zee,zee];by_cases c:j < k
 ·rw[if_pos c,if_pos (by omega)]
 ·rw[if_neg c];split
  ·have:j=k:=by omega
   subst this;rw[zhM h,if_neg hv,yae,yac h];rfl
  ·rfl
theorem zg9 {v:Nat}{xs:List Nat}{k m:Nat}(hkm:k≤m)(hm:m≤xs.length)(hv:∀ j,k≤j→j < m→xs.getD j 0≠v):mixL v xs m=mixL v xs k:=by
 induction m with
 | zero=>
  have:k=0:=by omega
  rw[this]
 | succ m ih=>
  by_cases c:k=m+1
  ·rw[c]
  ·rw[ziS (by omega) (hv m (by omega) (by omega)),ih (by omega) (by omega) (fun j a b=>hv j a (by omega))]
theorem zm6 {v:Nat}{xs:List Nat}{k:Nat}(hu:Unl xs)(h:k < xs.length)(hv:xs.getD k 0=v):(if k=0 then none else (mixL v xs k)[k - 1]?)=if k=0 then none else xs[k - 1]?:=by
 cases k with
 | zero=>rfl
 | succ k=>
  show (mixL v xs (k+1))[k]?=xs[k]?;rw[zee,if_pos (by omega),zhM (by omega)];have:=hu k h;rw[hv]at this;rw[if_neg this,yae,yac (show k < xs.length by omega)];rfl
theorem zgm {v:Nat}{xs:List Nat}{k:Nat}(hu:Unl xs)(h:k < xs.length)(hv:xs.getD k 0=v):zaJ (mixL v xs k) k=zaJ xs k:=by
 unfold zaJ;rw[zm6 hu h hv,zm7 (j:=k+1) (by omega)]
theorem zkM {v:Nat}{xs:List Nat}{k:Nat}(h:k < xs.length)(hv:xs.getD k 0=v):mixL v xs (k+1)=(mixL v xs k).set k (zcH xs k):=by
 apply yba;intro j;rw[ybt,zeq,zee,zee];by_cases c:k=j
 ·subst c;rw[if_pos rfl,if_pos h,if_pos (by omega),zhM h,if_pos hv]
 ·rw[if_neg c];by_cases c2:j < k
  ·rw[if_pos c2,if_pos (by omega)]
  ·rw[if_neg c2,if_neg (by omega)]
def zcg (sh:Nat)(cs:List Nat)(ms:List Bool):List Bool:=(zgn sh (cs.zip ms)).map (·.2)
theorem zaZ {sh:Nat}{cs:List Nat}{ms:List Bool}(h:cs.length=ms.length):(zcg sh cs ms).length=ms.length:=by
 unfold zcg zgn;rw[yab,zcG,ycm];omega
theorem zjn {cs:List Nat}:∀{ms:List Bool},cs.length=ms.length→(cs.zip ms).map (·.1)=cs:=by
 induction cs with
 | nil=>intro ms _;rfl
 | cons c cs ih=>
  intro ms h;cases ms with
  | nil=>cases h
  | cons m ms=>
   show c::(cs.zip ms).map (·.1)=c::cs;rw[ih (Nat.succ.inj h)]
theorem zke:∀(l:List (Nat×Bool)),(l.map (·.1)).zip (l.map (·.2))=l
 | []=>rfl
 | x::l=>by
  show x::(l.map (·.1)).zip (l.map (·.2))=x::l;rw[zke l]
theorem zm8 (sh:Nat)(l:List (Nat×Bool)):(zgn sh l).map (·.1)=l.map (·.1):=by
 apply yba;intro k;unfold zgn mapW;rw[yar,yar,zdK];cases l[k]? <;> rfl
theorem ziU {sh:Nat}{cs:List Nat}{ms:List Bool}(h:cs.length=ms.length):zgn sh (cs.zip ms)=cs.zip (zcg sh cs ms):=by
 have e:=zke (zgn sh (cs.zip ms));rw[zm8,zjn h]at e;exact e.symm
theorem zmi (cs:List Nat):start cs=cs.zip (cs.map fun _=>false):=by
 unfold start
 induction cs with
 | nil=>rfl
 | cons c cs ih=>
  show (c,false)::cs.map (fun x=>(x,false))=(c,false)::cs.zip (cs.map fun _=>false);rw[ih]
theorem ziT (cs:List Nat):zhb cs=zcg 0 cs (zcg 1 cs (zcg 2 cs (cs.map fun _=>false))):=by
 have l1:cs.length=(cs.map fun _=>false).length:=by rw[yab]
 have l2:cs.length=(zcg 2 cs (cs.map fun _=>false)).length:=by rw[zaZ l1,← l1]
 unfold zhb marked;rw[zmi,ziU l1,ziU l2];rfl
theorem zcv {sh:Nat}{cs:List Nat}{ms:List Bool}(hl:cs.length=ms.length){k:Nat}(h:k < cs.length):(zcg sh cs ms)[k]?=some (ms.getD k false || (decide (cs.getD k 0=sh) && decide (1≤k) && !ms.getD (k - 1) false && !ms.getD (k+1) false)):=by
 unfold zcg zgn mapW;have gz:∀ j,(cs.zip ms)[j]?=if h:j < cs.length then some (cs[j],ms[j]'(by omega)) else none:=fun j=>by
  split
  ·rename_i q;rw[yac (by rw[ycm];omega),List.getElem_zip]
  ·exact yaP (by rw[ycm];omega)
 have gm:∀ j,ms.getD j false=(((cs.zip ms)[j]?).map (·.2)).getD false:=fun j=>by
  rw[gz];split
  ·rw[yae,yac (by omega)];rfl
  ·rw[yae,yaP (by omega)];rfl
 rw[yar,zdK,gm k,gm (k+1),gm (k - 1),yae,yac h];have e:=gz k;rw[dif_pos h]at e;rw[e];show some _=some _;unfold zrY;cases k with
 | zero=>simp
 | succ k=>
  have e2:=gz k;rw[dif_pos (by omega)]at e2;simp[e2]
def mixM (sh:Nat)(cs:List Nat)(ms:List Bool)(k:Nat):List Bool:=(zcg sh cs ms).take k++ms.drop k
theorem zkL {sh:Nat}{cs:List Nat}{ms:List Bool}(hl:cs.length=ms.length){k:Nat}(h:cs.length≤k):mixM sh cs ms k=zcg sh cs ms:=by
 unfold mixM;rw[yas (by rw[zaZ hl];omega),yaZ (by omega),yaz]
theorem zdo {sh:Nat}{cs:List Nat}{ms:List Bool}(hl:cs.length=ms.length)(k:Nat):(mixM sh cs ms k).length=cs.length:=by
 unfold mixM;rw[yap,yaq,yaR,zaZ hl];omega
theorem zbE {sh:Nat}{cs:List Nat}{ms:List Bool}(hl:cs.length=ms.length)(k j:Nat):(mixM sh cs ms k)[j]?=if j < k then (zcg sh cs ms)[j]? else ms[j]?:=by
 unfold mixM;by_cases hk:k≤ms.length
 ·rw[List.getElem?_append,yaq,zaZ hl,ybz hk];split
  ·rw[yb1];rw[if_pos (by assumption)]
  ·rw[yce];congr 1;omega
 ·rw[yaZ (by omega),yaz,yas (by rw[zaZ hl];omega)];split
  ·rfl
  ·rw[yaP (by rw[zaZ hl];omega),yaP (by omega)]
def zdP (ms:List Bool)(k:Nat):Bool:=!ms.getD (k - 1) false && !ms.getD k false && !ms.getD (k+1) false
theorem zlA {sh:Nat}{cs:List Nat}{ms:List Bool}(hu:Unl cs)(hl:cs.length=ms.length){k:Nat}(h:k < cs.length)(h1:1≤k)(hs:cs.getD k 0=sh):zdP (mixM sh cs ms k) k=zdP ms k:=by
 unfold zdP;have e:∀ j,k≤j→(mixM sh cs ms k).getD j false=ms.getD j false:=fun j hj=>by
  rw[yae,yae,zbE hl,if_neg (by omega)]
 rw[e k (by omega),e (k+1) (by omega)];have e2:(mixM sh cs ms k).getD (k - 1) false=ms.getD (k - 1) false:=by
  rw[yae,zbE hl,if_pos (by omega),zcv hl (by omega)];have:=hu (k - 1) (by omega);rw[show k - 1+1=k by omega,hs]at this;rw[yah this];simp
 rw[e2]
theorem zgl {sh:Nat}{cs:List Nat}{ms:List Bool}(hl:cs.length=ms.length){k:Nat}(h:k < cs.length)(hn:¬ (1≤k∧cs.getD k 0=sh∧zdP ms k=true)):mixM sh cs ms (k+1)=mixM sh cs ms k:=by
 apply yba;intro j;rw[zbE hl,zbE hl];by_cases c:j < k
 ·rw[if_pos c,if_pos (by omega)]
 ·rw[if_neg c];split
  ·have:j=k:=by omega
   subst this;rw[zcv hl h];unfold zdP at hn;rw[yac (by omega)];have e:ms.getD j false=ms[j]'(by omega):=by
    rw[yae,yac (by omega)];rfl
   rw[e]at hn ⊢;congr 1;generalize ms[j]=a at hn ⊢;generalize ms.getD (j - 1) false=b at hn ⊢;generalize ms.getD (j+1) false=d at hn ⊢;cases a <;> cases b <;> cases d <;> simp at hn ⊢
   intro q;omega
  ·rfl
theorem zoN {sh:Nat}{cs:List Nat}{ms:List Bool}(hl:cs.length=ms.length){k:Nat}(h:k < cs.length)(hp:1≤k∧cs.getD k 0=sh∧zdP ms k=true):mixM sh cs ms (k+1)=(mixM sh cs ms k).set k true:=by
 apply yba;intro j;rw[ybt,zdo hl,zbE hl,zbE hl];by_cases c:k=j
 ·subst c;rw[if_pos rfl,if_pos h,if_pos (by omega),zcv hl h];obtain ⟨p1,p2,p3⟩:=hp;unfold zdP at p3;simp only[ybk,ybJ]at p3;rw[p2,p3.1.1,p3.1.2,p3.2,yag p1];simp
 ·rw[if_neg c];by_cases c2:j < k
  ·rw[if_pos c2,if_pos (by omega)]
  ·rw[if_neg c2,if_neg (by omega)]
structure zpj (ms:List Bool)(sp:List Nat):Prop where
 up:sp.Pairwise (· < ·)
 iff:∀ j,j∈sp↔ms.getD j false=true
theorem zpj.lt {ms:List Bool}{sp:List Nat}(S:zpj ms sp){j:Nat}(h:j∈sp):j < ms.length:=by
 have h:=(S.iff j).mp h;rw[yae]at h;cases e:ms[j]? with
 | none=>rw[e]at h;cases h
 | some x=>exact (yak.mp e).1
theorem zpj.step {ms:List Bool}{sp:List Nat}(S:zpj ms sp)(M:zrd ms){t:Nat}(h:t+1 < sp.length):sp[t]+2≤sp[t+1]∧sp[t+1]≤sp[t]+3:=by
 have up:=yaY.mp S.up;have lt:=up t (t+1) (by omega) h (by omega);have m0:=(S.iff _).mp (yaN (show t < sp.length by omega));have m1:=(S.iff _).mp (yaN h);have l1:=S.lt (yaN h);have no:∀ j,sp[t] < j→j < sp[t+1]→ms.getD j false=false:=fun j a b=>by
  cases e:ms.getD j false with
  | false=>rfl
  | true=>
   obtain ⟨u,hu,q⟩:=yaO ((S.iff j).mpr e);have c1:¬ u≤t:=fun z=>by
    by_cases z':u=t
    ·subst z';omega
    ·have:=up u t hu (by omega) (by omega);omega
   have c2:¬ t+1≤u:=fun z=>by
    by_cases z':u=t+1
    ·subst z';omega
    ·have:=up (t+1) u h hu (by omega);omega
   omega
 refine ⟨?_,?_⟩
 ·by_cases c:sp[t+1]=sp[t]+1
  ·rw[c]at m1;exact (M.ind _ m0 m1).elim
  ·omega
 ·refine Nat.le_of_not_lt fun c=>?_;rcases M.dom (sp[t]+2) (by omega) (by omega) with q | q | q
  ·rw[no (sp[t]+2 - 1) (by omega) (by omega)]at q;cases q
  ·rw[no (sp[t]+2) (by omega) (by omega)]at q;cases q
  ·rw[no (sp[t]+2+1) (by omega) (by omega)]at q;cases q
def zcf {α:Type}(es:List α)(ms:List Bool):List α:=((es.zip ms).filter (·.2)).map (·.1)
structure Ats (P:Nat→Bool)(n:Nat)(l:List Nat):Prop where
 up:l.Pairwise (· < ·)
 iff:∀ j,j∈l↔j < n∧P j=true
theorem zsr (P:Nat→Bool)(n:Nat):Ats P n ((List.range n).filter P):=⟨List.Pairwise.filter _ ycC,fun j=>by rw[ya7,ya8]⟩
theorem Ats.get {P:Nat→Bool}{n:Nat}{l:List Nat}(A:Ats P n l){j:Nat}(h:j < l.length):l[j] < n∧P l[j]=true:=(A.iff _).mp (yaN h)
theorem Ats.first {P:Nat→Bool}{n:Nat}{l:List Nat}(A:Ats P n l){i:Nat}(h:i < l.getD 0 n)(hn:i < n):P i=false:=by
 cases e:P i with
 | false=>rfl
 | true=>
  obtain ⟨u,hu,q⟩:=yaO ((A.iff i).mpr ⟨hn,e⟩);have h0:l.getD 0 n=l[0]'(by omega):=by
   rw[yae,yac (by omega)];rfl
  rw[h0]at h;by_cases c:u=0
  ·subst c;omega
  ·have:=yaY.mp A.up 0 u (by omega) hu (by omega);omega
theorem Ats.next {P:Nat→Bool}{n:Nat}{l:List Nat}(A:Ats P n l){j:Nat}(hj:j < l.length){i:Nat}(h1:l[j] < i)(h:i < l.getD (j+1) n)(hn:i < n):P i=false:=by
 cases e:P i with
 | false=>rfl
 | true=>
  obtain ⟨u,hu,q⟩:=yaO ((A.iff i).mpr ⟨hn,e⟩);have up:=yaY.mp A.up;have c1:j < u:=by
   refine Nat.lt_of_not_le fun z=>?_;by_cases c:u=j
   ·subst c;omega
   ·have:=up u j hu hj (by omega);omega
  have h0:l.getD (j+1) n=l[j+1]'(by omega):=by
   rw[yae,yac (by omega)];rfl
  rw[h0]at h;by_cases c:u=j+1
  ·subst c;omega
  ·have:=up (j+1) u (by omega) hu (by omega);omega
theorem Ats.le {P:Nat→Bool}{n:Nat}{l:List Nat}(A:Ats P n l)(j:Nat):l.getD j n≤n:=by
 rw[yae];by_cases h:j < l.length
 ·rw[yac h];exact ya4 (A.get h).1
 ·rw[yaP (by omega)];exact yaa _
theorem Ats.step_le {P:Nat→Bool}{n:Nat}{l:List Nat}(A:Ats P n l){j:Nat}(hj:j < l.length):l[j]+1≤l.getD (j+1) n:=by
 rw[yae];by_cases h:j+1 < l.length
 ·rw[yac h];exact yaY.mp A.up j (j+1) hj h (by omega)
 ·rw[yaP (by omega)];exact (A.get hj).1
def atsL (v:Nat)(xs:List Nat):List Nat:=(List.range xs.length).filter fun k=>decide (xs.getD k 0=v)
theorem zgK (v:Nat)(xs:List Nat):Ats (fun k=>decide (xs.getD k 0=v)) xs.length (atsL v xs):=zsr _ _
theorem zm4 {v:Nat}{xs:List Nat}:mixL v xs ((atsL v xs).getD 0 xs.length)=xs:=by
 rw[zg9 (k:=0) (yaC _) ((zgK v xs).le 0) (fun j _ h=>yb3 ((zgK v xs).first h (yaw h ((zgK v xs).le 0))))];rfl
theorem zoL {v:Nat}{xs:List Nat}{j:Nat}(hj:j < (atsL v xs).length):mixL v xs ((atsL v xs).getD (j+1) xs.length)=(mixL v xs (atsL v xs)[j]).set (atsL v xs)[j] (zcH xs (atsL v xs)[j]):=by
 have A:=zgK v xs;have g:=A.get hj;rw[zg9 (k:=(atsL v xs)[j]+1) (A.step_le hj) (A.le _) (fun i a b=>yb3 (A.next hj (by omega) b (yaw b (A.le _)))),zkM g.1 (yaH g.2)]
theorem zoM {v:Nat}{xs:List Nat}:mixL v xs ((atsL v xs).getD (atsL v xs).length xs.length)=recL v xs:=by
 rw[yae,yaP (yaa _)];exact zkN (yaa _)
def colN (xs:List Nat):Nat→List Nat
 | 0=>xs
 | i+1=>recL (3+i) (colN xs i)
theorem zgD (xs:List Nat)(i:Nat):(colN xs i).length=xs.length:=by
 induction i with
 | zero=>rfl
 | succ i ih=>rw[colN,zba,ih]
theorem zk4 {xs:List Nat}(h:Unl xs)(i:Nat):Unl (colN xs i):=by
 induction i with
 | zero=>exact h
 | succ i ih=>exact zl5 (zf0 (unlZ ih))
def mkN (cs:List Nat):Nat→List Bool
 | 0=>cs.map fun _=>false
 | i+1=>zcg (2 - i) cs (mkN cs i)
theorem ziR (cs:List Nat):mkN cs 3=zhb cs:=(ziT cs).symm
theorem zg7 (cs:List Nat)(i:Nat):cs.length=(mkN cs i).length:=by
 induction i with
 | zero=>rw[mkN,yab]
 | succ i ih=>rw[mkN,zaZ ih,ih]
theorem zkK {sh:Nat}{cs:List Nat}{ms:List Bool}(hl:cs.length=ms.length):mixM sh cs ms 1=ms:=by
 by_cases h:0 < cs.length
 ·rw[zgl hl h (fun z=>by omega)];rfl
 ·have:ms=[]:=ycB (by omega);subst this;unfold mixM;rw[ycB (show (zcg sh cs []).length=0 by rw[zaZ hl];rfl)];rfl
def zay (ps:List Nat):Prop:=∀ i (h:i < ps.length),ps[i]≤i
def par (ps:List Nat):Nat→Option Nat
 | 0=>none
 | k+1=>ps[k]?
theorem zaM {ps:List Nat}(T:zay ps){k p:Nat}(h:par ps k=some p):p < k∧k < ps.length+1:=by
 cases k with
 | zero=>cases h
 | succ k=>
  obtain ⟨h1,rfl⟩:=yak.mp (show ps[k]?=some p from h);have:=T k h1;omega
theorem zf4 {ps:List Nat}{k:Nat}(h1:1≤k)(h2:k < ps.length+1):∃ p,par ps k=some p:=by
 cases k with
 | zero=>omega
 | succ k=>exact ⟨_,yac (show k < ps.length by omega)⟩
theorem zon {ps:List Nat}{k:Nat}(h2:k < ps.length+1)(h:par ps k=none):k=0:=by
 cases k with
 | zero=>rfl
 | succ k=>
  have:=List.getElem?_eq_none_iff.mp (show ps[k]?=none from h);omega
def wayF (ps:List Nat)(one:Nat):Nat→Nat→Option (List Nat)
 | 0,_=>none
 | f+1,o=>if o=one then some [o] else match par ps o with
  | none=>none
  | some p=>(wayF ps one f p).map (· ++ [o])
theorem zin {ps:List Nat}(T:zay ps){one:Nat}:∀ f g o,o < f→o < g→wayF ps one f o=wayF ps one g o
 | 0,_,_,h,_=>absurd h (ybO _)
 | _,0,_,_,h=>absurd h (ybO _)
 | f+1,g+1,o,hf,hg=>by
  unfold wayF;split
  ·rfl
  ·cases e:par ps o with
   | none=>rfl
   | some p=>
    have:=(zaM T e).1;show (wayF ps one f p).map _=(wayF ps one g p).map _;rw[zin T f g p (by omega) (by omega)]
def wayL (ps:List Nat)(one o:Nat):Option (List Nat):=wayF ps one (o+1) o
theorem zlZ {ps:List Nat}{o:Nat}:wayL ps o o=some [o]:=by
 unfold wayL wayF;rw[if_pos rfl]
theorem zev {ps:List Nat}(T:zay ps){one o:Nat}(h:o≠one):wayL ps one o=match par ps o with
  | none=>none
  | some p=>(wayL ps one p).map (· ++ [o]):=by
 unfold wayL;rw[wayF,if_neg h];cases e:par ps o with
 | none=>rfl
 | some p=>
  show (wayF ps one o p).map _=(wayF ps one (p+1) p).map _;rw[zin T o (p+1) p (zaM T e).1 (by omega)]
theorem zl0 {ps:List Nat}(T:zay ps){one:Nat}:∀ n o,o≤n→o < one→wayL ps one o=none
 | n,o,hn,h=>by
  rw[zev T (by omega)];cases e:par ps o with
  | none=>rfl
  | some p=>
   have hp:=(zaM T e).1;show (wayL ps one p).map _=none;cases n with
   | zero=>omega
   | succ n=>rw[zl0 T n p (by omega) (by omega)];rfl
def isB (ps:List Nat)(k j:Nat):Bool:=(wayL ps k j).isSome
def benL (ps:List Nat)(k n:Nat):List Nat:=(List.range n).filter (isB ps k)
theorem zcq {ps:List Nat}{k:Nat}:isB ps k k=true:=by
 unfold isB;rw[zlZ];rfl
theorem zdN {ps:List Nat}(T:zay ps){k j:Nat}(h:j < k):isB ps k j=false:=by
 unfold isB;rw[zl0 T j j (yaa _) h];rfl
theorem zb5 {ps:List Nat}(T:zay ps){k j p:Nat}(h:j≠k)(e:par ps j=some p):isB ps k j=isB ps k p:=by
 unfold isB;rw[zev T h,e];show ((wayL ps k p).map _).isSome=_;cases wayL ps k p <;> rfl
theorem zpe {ps:List Nat}(T:zay ps)(k:Nat):benL ps k (k+1)=[k]:=by
 unfold benL;rw[yb4,ybh];have e1:(List.range k).filter (isB ps k)=[]:=by
  rw[ybP];intro j hj z;rw[zdN T (ya8.mp hj)]at z;cases z
 rw[e1,List.nil_append,ybd zcq];rfl
theorem zcs {ps:List Nat}{k n j:Nat}:j∈benL ps k n↔j < n∧isB ps k j=true:=by
 unfold benL;rw[ya7,ya8]
theorem zji {ps:List Nat}{k n:Nat}:benL ps k (n+1)=benL ps k n++(if isB ps k n=true then [n] else []):=by
 unfold benL;rw[yb4,ybh];congr 1;by_cases h:isB ps k n=true
 ·rw[if_pos h,ybd h];rfl
 ·rw[if_neg h,ybn h];rfl
theorem zk8 (ps:List Nat)(k n:Nat):(benL ps k n).length≤n:=by
 have:=ya3 (isB ps k) (List.range n);rw[ybb]at this;exact this
theorem zj7 (ps:List Nat)(k n:Nat):(benL ps k n).Pairwise (· < ·):=List.Pairwise.filter _ ycC
theorem zkX {ps:List Nat}(T:zay ps):∀ n j,j≤n→j < ps.length+1→isB ps 0 j=true
 | n,j,hn,h=>by
  by_cases c:j=0
  ·rw[c];exact zcq
  ·obtain ⟨p,e⟩:=zf4 (by omega) h;have:=(zaM T e).1;rw[zb5 T c e];cases n with
   | zero=>omega
   | succ n=>exact zkX T n p (by omega) (by omega)
theorem znO {ps:List Nat}(T:zay ps):benL ps 0 (ps.length+1)=List.range (ps.length+1):=by
 unfold benL;rw[List.filter_eq_self];exact fun j hj=>zkX T j j (yaa _) (ya8.mp hj)
def zch (ps:List Nat)(k n:Nat):List Nat:=(List.range n).filter fun j=>decide (par ps j=some k)
theorem zaK {ps:List Nat}{k n j:Nat}:j∈zch ps k n↔j < n∧par ps j=some k:=by
 unfold zch;rw[ya7,ya8,decide_eq_true_eq]
theorem zgF {ps:List Nat}{k n:Nat}:zch ps k (n+1)=zch ps k n++(if par ps n=some k then [n] else []):=by
 unfold zch;rw[yb4,ybh];congr 1;by_cases h:par ps n=some k
 ·rw[if_pos h,ybd (by exact yag h)];rfl
 ·rw[if_neg h,ybn (by rw[yah h];decide)];rfl
theorem zhm (ps:List Nat)(k n:Nat):(zch ps k n).length≤n:=by
 have:=ya3 (fun j=>decide (par ps j=some k)) (List.range n);rw[ybb]at this;exact this
theorem zjc (ps:List Nat)(k n:Nat):(zch ps k n).Pairwise (· < ·):=List.Pairwise.filter _ ycC
theorem zce {ps:List Nat}(T:zay ps){k:Nat}:∀ n j,j≤n→j < ps.length+1→(isB ps k j=true↔j=k∨∃ c,par ps c=some k∧isB ps c j=true)
 | n,j,hn,h=>by
  by_cases c:j=k
  ·constructor
   ·exact fun _=>.inl c
   ·intro _;rw[c];exact zcq
  ·cases e:par ps j with
   | none=>
    have j0:=zon h e;have no:∀ m,j≠m→isB ps m j=false:=fun m hm=>by
     unfold isB;rw[zev T hm,e];rfl
    constructor
    ·intro z;rw[no k c]at z;cases z
    ·rintro (z | ⟨d,hd,z⟩)
     ·exact absurd z c
     ·by_cases y:j=d
      ·rw[← y,e]at hd;cases hd
      ·rw[no d y]at z;cases z
   | some p=>
    have hp:=(zaM T e).1;cases n with
    | zero=>omega
    | succ n=>
     have ih:=zce T (k:=k) n p (by omega) (by omega);rw[zb5 T c e,ih];constructor
     ·rintro (z | ⟨d,hd,z⟩)
      ·refine .inr ⟨j,?_,zcq⟩;rw[e,z]
      ·by_cases y:j=d
       ·rw[← y]at z;rw[zdN T hp]at z;cases z
       ·exact .inr ⟨d,hd,by rw[zb5 T y e];exact z⟩
     ·rintro (z | ⟨d,hd,z⟩)
      ·exact absurd z c
      ·by_cases y:j=d
       ·subst y;rw[e]at hd;exact .inl (yad hd)
       ·rw[zb5 T y e]at z;exact .inr ⟨d,hd,z⟩
theorem zc7 {ps:List Nat}(T:zay ps){k c d:Nat}(hc:par ps c=some k)(hd:par ps d=some k)(hcd:c≠d):∀ n j,j≤n→isB ps c j=true→isB ps d j=true→False
 | n,j,hn,h1,h2=>by
  by_cases e1:j=c
  ·subst e1;rw[zb5 T hcd hc,zdN T (zaM T hd).1]at h2;cases h2
  ·by_cases e2:j=d
   ·subst e2;rw[zb5 T e1 hd,zdN T (zaM T hc).1]at h1;cases h1
   ·cases e:par ps j with
    | none=>
     unfold isB at h1;rw[zev T e1,e]at h1;cases h1
    | some p=>
     have hp:=(zaM T e).1;rw[zb5 T e1 e]at h1;rw[zb5 T e2 e]at h2;cases n with
     | zero=>omega
     | succ n=>exact zc7 T hc hd hcd n p (by omega) h1 h2
theorem zlq {ps:List Nat}(T:zay ps){k:Nat}(hk:k < ps.length+1):(k::((zch ps k (ps.length+1)).map fun c=>benL ps c (ps.length+1)).flatten).Perm (benL ps k (ps.length+1)):=by
 have lt:∀{l:List Nat},l.Pairwise (· < ·)→l.Nodup:=fun h=>List.Pairwise.imp (fun {a b} (q:a < b)=>yan q) h;refine (ycD ?_ (lt (zj7 ps k _))).mpr fun j=>?_
 ·rw[yaW];refine ⟨fun h=>?_,?_⟩
  ·obtain ⟨l,hl,hj⟩:=ycn.mp h;obtain ⟨c,hc,rfl⟩:=yaG.mp hl;have h1:=(zaK.mp hc).2;have h2:=(zcs.mp hj).2;rw[zdN T (zaM T h1).1]at h2;cases h2
  ·show List.Pairwise _ _;rw[List.pairwise_flatten];refine ⟨fun l hl=>?_,?_⟩
   ·obtain ⟨c,hc,rfl⟩:=yaG.mp hl;exact lt (zj7 ps c _)
   ·rw[ybL];refine List.Pairwise.imp_of_mem (fun {c d} hc hd hcd=>?_) (zjc ps k _);intro x hx y hy z;subst z;exact zc7 T (zaK.mp hc).2 (zaK.mp hd).2 (yan hcd) x x (yaa _) (zcs.mp hx).2 (zcs.mp hy).2
 ·rw[yam,ycn,zcs];constructor
  ·rintro (rfl | ⟨l,hl,hj⟩)
   ·exact ⟨hk,zcq⟩
   ·obtain ⟨c,hc,rfl⟩:=yaG.mp hl;obtain ⟨h1,h2⟩:=zcs.mp hj;exact ⟨h1,(zce T j j (yaa _) h1).mpr (.inr ⟨c,(zaK.mp hc).2,h2⟩)⟩
  ·rintro ⟨h1,h2⟩;rcases (zce T j j (yaa _) h1).mp h2 with q | ⟨c,hc,q⟩
   ·exact .inl q
   ·exact .inr ⟨_,yaG.mpr ⟨c,zaK.mpr ⟨(zaM T hc).2,hc⟩,rfl⟩,zcs.mpr ⟨h1,q⟩⟩
def zsz (t u:TS):TS:=fun D σ H=>∀ N:L2.St→Hp→Prop,(∀ σ' H',u D σ' H'→N σ' H')→t { D with nx:=N } σ H
theorem zaz {X:Cx}{st:Stmt}{rest:List Stmt}{t u:TS}(h1:PS X st t)(h2:PSs X rest u):PSs X (st::rest) (zsz t u):=fun pins s σ H D I h=>zah h1 h2 pins s σ H D I (h (u D) fun _ _ z=>z)
def zsx (t u:TS):TS:=fun D σ H=>∃ M:L2.St→Hp→Prop,(∀ N:L2.St→Hp→Prop,(∀ σ' H',M σ' H'→N σ' H')→t { D with nx:=N } σ H)∧∀ σ' H',M σ' H'→u D σ' H'
theorem zeK {X:Cx}{st:Stmt}{rest:List Stmt}{t u:TS}(h1:PS X st t)(h2:PSs X rest u):PSs X (st::rest) (zsx t u):=fun pins s σ H D I h=>by
 obtain ⟨M,h3,h4⟩:=h;exact zaB h1 h2 pins s σ H D I ⟨M,h3 M fun _ _ z=>z,h4⟩
theorem zqF {tb:TS}{D:Ends}{Pn:L2.St→Hp→Prop}{i:Nat}{x:V}{σ:L2.St}{H:Hp}(h:∀(N B:L2.St→Hp→Prop) (R:VK),(∀ σ H,Pn σ H→N σ H)→(∀ σ H,D.nx σ H→B σ H)→(∀ v H,D.rt v H→R v H)→tb { nx:=N,rt:=R,bk:=B,ct:=N } (σ.set i (some x)) H):zib i x σ H fun σ2 H2=>tb { D with nx:=Pn,ct:=Pn,bk:=D.nx } σ2 H2:=h Pn D.nx D.rt (fun _ _ z=>z) (fun _ _ z=>z) (fun _ _ z=>z)
theorem zsg {tb:TS}{D:Ends}{Pn:L2.St→Hp→Prop}{σ:L2.St}{H:Hp}(h:∀(N B:L2.St→Hp→Prop) (R:VK),(∀ σ H,Pn σ H→N σ H)→(∀ σ H,D.nx σ H→B σ H)→(∀ v H,D.rt v H→R v H)→tb { nx:=N,rt:=R,bk:=B,ct:=N } σ H):tb { D with nx:=Pn,ct:=Pn,bk:=D.nx } σ H:=h Pn D.nx D.rt (fun _ _ z=>z) (fun _ _ z=>z) (fun _ _ z=>z)
seal PSs PS PE PT PW PA PI PG PO
section
variable {P:Program}{w:World}{K:Frag}{mg:Str→Option Value}{base:Heap}
theorem zow (T:Txt K mg)(D_l_mixed:DF K mg "_law_mixed" zeC zd8):FC P w K mg base 1 "_law_mixed" zd8 zmo:=by
 refine D_l_mixed.ok sc_l_mixed (fun vs H Q E h=>?_) (fun f cdv A outer s H vs Q E hr h=>?_)
 ·obtain ⟨c,k,rfl,_⟩:=h;rfl
 obtain ⟨c,k,rfl,q⟩:=h;refine ⟨_,(zah (zas (i:=2) sc_l_mixed.nd rfl (Or.inl rfl) (zaw zdy (zaw zcd (zaw za7 (zaw za7 (zaw zdy (pv 0) zaf) (zaw zcd zaf (pv 1))) zaf) zaf) zaf))
   (zah (zas (i:=3) sc_l_mixed.nd rfl (Or.inl rfl) (zaw zdy (zaw za7 (zaw za7 (zaw zcd (pv 2) (pv 2)) (zaw zcd zaf (pv 2))) (pv 1)) zaf))
   (zae (zau (zaw zgk (zaw zdy (zaw za7 (zaw za7 (zaw zcd (pv 3) (pv 3)) (zaw zcd zaf (pv 3))) (zaw zcd zaf (pv 1))) zaf) zaf))))),?_⟩
 walk_at "rd"
 exact q _
theorem zoH (T:Txt K mg)(D_l_begin:DF K mg "_law_begin" zeF zeb):FC P w K mg base 1 "_law_begin" zeb (zmu K):=by
 refine D_l_begin.ok sc_l_begin (fun vs H Q E h=>?_) (fun f cdv A outer s H vs Q E hr h=>?_)
 ·obtain ⟨L,ns,rfl,_⟩:=h;rfl
 obtain ⟨L,ns,rfl,hS,q⟩:=h;refine ⟨_,(zae (zau (zqg (zhQ zdH (pv 0) (zhQ zdH zaf (zhQ zdH zaf zqa))) rfl rfl (by simp) (by decide)))),?_⟩;intro p hp;refine ⟨_,rfl,zab,[(.inr "script",.ref L),(.inr "at",.int 0),(.inr "left",.int 0)],rfl,(by show 3≤15;decide),?_⟩;have e:upd (upd H p (.dK [])) p (.dK (zfD [] [(.inr "script",.ref L),(.inr "at",.int 0),(.inr "left",.int 0)]))=upd H p (zdq L 0 0):=by
  rw[zpO];have:zfD [] [((.inr "script" : Key),V.ref L),(.inr "at",.int 0),(.inr "left",.int 0)]=[(.inr "script",.ref L),(.inr "at",.int 0),(.inr "left",.int 0)]:=by
   have a1:putK [] (.inr "script" : Key) (V.ref L)=[(.inr "script",.ref L)]:=zeJ (kvs:=[]) _ rfl;have a2:putK [((.inr "script" : Key),V.ref L)] (.inr "at") (.int 0)=[(.inr "script",.ref L),(.inr "at",.int 0)]:=by
    rw[zeJ _ (by rw[zbz (zek (show ("script" : Str) ≠ "at" by decide +kernel))];rfl)];rfl
   have a3:putK [((.inr "script" : Key),V.ref L),(.inr "at",.int 0)] (.inr "left") (.int 0)=[(.inr "script",.ref L),(.inr "at",.int 0),(.inr "left",.int 0)]:=by
    rw[zeJ _ (by rw[zbz (zek (show ("script" : Str) ≠ "left" by decide +kernel)),zbz (zek (show ("at" : Str) ≠ "left" by decide +kernel))];rfl)];rfl
   unfold zfD;simp only[List.foldl_cons,List.foldl_nil];rw[a1,a2,a3]
  rw[this];rfl
 rw[e];exact q p _ hp (zai hp _) ⟨ns,0,0,zab,(zai hp _).seq hS⟩
theorem zqm (T:Txt K mg)(D_l_take:DF K mg "_law_take" zfT zbO)(F_l_mixed:FC P w K mg base 1 "_law_mixed" zd8 zmo):FC P w K mg base 2 "_law_take" zbO (zgf K):=by
 refine D_l_take.ok sc_l_take (fun vs H Q E h=>?_) (fun f cdv A outer s H vs Q E hr h=>?_)
 ·obtain ⟨d,L,m,rfl,_⟩:=h;rfl
 obtain ⟨d,L,m,rfl,⟨hm,hm'⟩,⟨ns,a,l,hd,hS⟩,q⟩:=h;refine ⟨_,(zah (zas (i:=2) sc_l_take.nd rfl (Or.inl rfl) (zeo (ze4 hr) (pv 0) zdH (fun _ _=>rfl)))
   (zah (zas (i:=3) sc_l_take.nd rfl (Or.inl rfl) (zeo (ze4 hr) (pv 0) zdH (fun _ _=>rfl)))
   (zaB (zaW (zav zfr (zeo (ze4 hr) (pv 0) zdH (fun _ _=>rfl)) zaf (zaH _)) (zah (zfo (ze4 hr) (pv 0) zdH (zaw za7 (pv 2) zaf) rfl)
   (zah (zas (i:=4) sc_l_take.nd rfl (Or.inl rfl) zaf)
   (zaB (zaW (zav zlt (zam zan rfl T.m_len boot_len (zaa (pv 3) zad)) zaf (zaH _)) (zae (zas (i:=4) sc_l_take.nd rfl (Or.inl rfl) (zaD zaI (pv 3) (zaw zdy (pv 2) (zam zan rfl T.m_len boot_len (zaa (pv 3) zad))) (fun _ _=>rfl)))) zax)
   (zaB (zaW (PW.pt (zjB (zav zqj (pv 2) (zam zan rfl T.m_len boot_len (zaa (pv 3) zad)) (zaH _)) (zgi (zav zhV (zam zig rfl T.m_abs boot_abs (zaa (pv 4) zad)) (zaw zg4 zaf zaf) (zaH _))))) (zae (zau (zaw zdy (zaA F_l_mixed hr (zaa (pv 4) (zaa (pv 2) zad))) (pv 1)))) zax)
   (zae (zfo (ze4 hr) (pv 0) zdH (zam zig rfl T.m_abs boot_abs (zaa (pv 4) zad)) rfl)))))) zax)
   (zah (zas (i:=5) sc_l_take.nd rfl (Or.inl rfl) (zaw zdy (zeo (ze4 hr) (pv 0) zdH (fun _ _=>rfl)) (pv 1)))
   (zah (zfo (ze4 hr) (pv 0) zdH (zaw zgk (zeo (ze4 hr) (pv 0) zdH (fun _ _=>rfl)) (pv 1)) rfl)
   (zae (zau (pv 5)))))))),?_⟩
 refine ⟨_,rfl,_,_,rfl,zsi hd,_,rfl,_,_,rfl,zlJ hd,?_⟩;refine ⟨fun σ' H'=>∃(x2 x3 x4 x5:Option V) (a' l':Int),σ'=[some (.ref d),some (.int m),x2,x3,x4,x5]∧H' d=some (zdq L a' l')∧Keep d H H',?_,?_⟩
 ·refine ⟨_,rfl,_,_,rfl,zia hd,rfl,_,rfl,?_⟩;refine ite2 (fun _=>?_) (fun _=>?_)
  ·refine ⟨_,rfl,_,_,rfl,rfl,_,rfl,_,_,rfl,zrC hd,?_⟩;have hd1:upd H d (zdq L (a+1) l) d=some (zdq L (a+1) l):=zab;obtain ⟨-,k1⟩:=LS.set (a':=a+1) (l':=l) hd hS;have hS1:=zfO hd k1 hS;generalize upd H d (zdq L (a+1) l)=H1 at hd1 k1 hS1 ⊢;refine ⟨fun σ' H'=>∃ c:Int,σ'=[some (.ref d),some (.int m),some (.int a),some (.ref L),some (.int c),none]∧H1=H',?_,?_⟩
   ·refine ⟨_,rfl,_,_,rfl,.inl hS1,_,_,rfl,rfl,_,rfl,?_⟩;refine ite2 (fun c=>?_) (fun c=>?_)
    ·have c':(0:Int) < (((ns.map V.int).length:Nat):Int):=yaH c;obtain ⟨v,hv⟩:=zss (ns:=ns) (k:=a) (by rw[yab]at c';omega);refine ⟨_,rfl,_,rfl,_,rfl,_,_,rfl,.inl hS1,_,_,rfl,rfl,c',_,_,_,_,rfl,rfl,hS1,hv,?_⟩;exact ⟨v,rfl,rfl⟩
    ·exact ⟨0,rfl,rfl⟩
   rintro σ' H' ⟨c,rfl,rfl⟩;refine ⟨fun σ' H'=>σ'=[some (.ref d),some (.int m),some (.int a),some (.ref L),some (.int c),none]∧H1=H',?_,?_⟩
   ·refine ⟨_,rfl,_,rfl,_,_,rfl,.inl hS1,_,_,rfl,rfl,_,rfl,?_⟩;refine ite2 (fun _=>?_) (fun _=>?_)
    ·refine iteT ?_;refine ⟨_,rfl,_,rfl,c,a,rfl,fun v=>⟨_,rfl,_,_,rfl,rfl,hm,?_⟩⟩;exact q _ _ (ycg _ (by omega)) (ych _ hm) k1 ⟨ns,a+1,l,hd1,hS1⟩
    ·refine ⟨_,rfl,_,rfl,_,_,rfl,rfl,⟨by decide,by decide,by decide⟩,_,_,rfl,rfl,_,rfl,?_⟩;refine ite2 (fun _=>?_) (fun _=>?_)
     ·refine ⟨_,rfl,_,rfl,c,a,rfl,fun v=>⟨_,rfl,_,_,rfl,rfl,hm,?_⟩⟩;exact q _ _ (ycg _ (by omega)) (ych _ hm) k1 ⟨ns,a+1,l,hd1,hS1⟩
     ·exact ⟨rfl,rfl⟩
   rintro σ' H' ⟨rfl,rfl⟩;refine ⟨_,rfl,_,rfl,_,rfl,_,_,rfl,zkD hd1,?_⟩;obtain ⟨-,k2⟩:=LS.set (a':=a+1) (l':=if c < 0 then -c else c) hd1 hS1
   exact ⟨_,_,_,_,_,_,rfl,zab,k1.trans k2⟩
  ·exact ⟨_,_,_,_,a,l,rfl,hd,Keep.refl _ _⟩
 rintro σ' H' ⟨x2,x3,x4,x5,a',l',rfl,hd',k'⟩;have hS':=zfO hd k' hS;refine ⟨_,rfl,_,_,rfl,zia hd',_,rfl,_,_,rfl,rfl,hm,?_⟩;refine ⟨_,rfl,_,_,rfl,zia hd',_,rfl,_,_,rfl,rfl,⟨hm,hm'⟩,_,rfl,_,_,rfl,zkD hd',?_⟩;obtain ⟨s1,k1⟩:=LS.set (a':=a') (l':=l' / m) hd' hS';refine ⟨_,rfl,?_⟩;exact q _ _ (ycg _ (by omega)) (ych _ hm) (k'.trans k1) s1
def zrq:Sp:=fun vs H Q _=>∃ a b:Nat,vs=[.int a,.int b]∧a≠b∧Q (.int (lu a b:Nat)) H
theorem zrP (T:Txt K mg)(D_lowest_unlike:DF K mg "lowest_unlike" zbK zbD):FC P w K mg base 1 "lowest_unlike" zbD zrq:=by
 refine D_lowest_unlike.ok sc_lowest_unlike (fun vs H Q E h=>?_) (fun f cdv A outer s H vs Q E hr h=>?_)
 ·obtain ⟨a,b,rfl,_⟩:=h;rfl
 obtain ⟨a,b,rfl,hab,q⟩:=h;refine ⟨_,(zah (zas (i:=2) sc_lowest_unlike.nd rfl (Or.inl rfl) (zaw zrI (pv 0) (pv 1)))
   (zae (zau (zaw zcb (zpC F.plainAttrs_int F.slot_int_bit_length F.type_int_bit_length zh0 (zaw zpD (pv 2) (zmG ziq (pv 2)))) zaf)))),?_⟩
 refine ⟨_,rfl,_,rfl,_,_,rfl,rfl,_,rfl,_,rfl,_,rfl,_,_,rfl,rfl,rfl,_,rfl,rfl,_,_,rfl,rfl,?_⟩;rw[← zr3 a b hab]at q;exact q
def zp3 (K:Frag):Sp:=fun vs H Q _=>∃ d L:Addr,vs=[.ref d]∧LS K L d H∧∀(v:Int) (H':Hp),-(10 ^ 60) < v→v < 10 ^ 60→Keep d H H'→LS K L d H'→Q (.int v) H'
theorem zoR {x m:Int}(h1:-999≤x)(h2:x≤999)(h3:0 < m)(h4:m≤10 ^ 57):-(10 ^ 60) < x * m∧x * m < 10 ^ 60:=by
 have a:=Int.mul_le_mul_of_nonneg_right h2 (Int.le_of_lt h3);have b:=Int.mul_le_mul_of_nonneg_right h1 (Int.le_of_lt h3);omega
theorem zrR (T:Txt K mg)(D_l_key:DF K mg "_law_key" zhK zeS)(F_l_take:FC P w K mg base 2 "_law_take" zbO (zgf K)):FC P w K mg base 3 "_law_key" zeS (zp3 K):=by
 refine D_l_key.ok sc_l_key (fun vs H Q E h=>?_) (fun f cdv A outer s H vs Q E hr h=>?_)
 ·obtain ⟨d,L,rfl,_⟩:=h;rfl
 obtain ⟨d,L,rfl,hs,q⟩:=h;refine ⟨_,(zah (zas (i:=1) sc_l_key.nd rfl (Or.inl rfl) (zaA F_l_take hr (zaa (pv 0) (zaa zaf zad))))
   (zaB (zaW (zav zhV (pv 1) zaf (zaH _)) (zae (zau (zaA F_l_take hr (zaa (pv 0) (zaa zaf zad))))) zax)
   (zaB (zaW (zav zhV (pv 1) zaf (zaH _)) (zae (zau (zaw zcb (zaA F_l_take hr (zaa (pv 0) (zaa zaf zad))) zaf))) zax)
   (zaB (zaW (zav zfr (pv 1) zaf (zaH _)) (zae (zau (zaw zcd (zaw zcb (zaA F_l_take hr (zaa (pv 0) (zaa zaf zad))) zaf) (zaD zaI (zca (zaa zaf (zaa (zaw zg4 zaf zaf) (zaa (zaw zg4 zaf zaf) (zaa (zaw zg4 zaf zaf) zad))))) (zaA F_l_take hr (zaa (pv 0) (zaa zaf zad))) (fun _ _=>rfl))))) zax)
   (zae (zau (zaw zcd (zaD zaI (zca (zaa zaf (zaa (zmG ziq zaf) zad))) (zaA F_l_take hr (zaa (pv 0) (zaa zaf zad))) (fun _ _=>rfl)) (zaw zcb (zaw zcb (zaw zg4 zaf zaf) zaf) (zaA F_l_take hr (zaa (pv 0) (zaa zaf zad))))))))))),?_⟩
 refine ⟨_,rfl,d,L,8,rfl,by decide,hs,fun w1 H1 w0 w8 k1 s1=>?_⟩;have nd:∀{H':Hp} {p:Addr},LS K L d H'→H' p=none→p≠d:=fun s hp z=>by
  obtain ⟨_,_,_,e,_⟩:=s.ex;rw[← z,hp]at e;cases e
 refine ⟨fun σ' H'=>σ'=[some (.ref d),some (.int w1)]∧H1=H',?_,?_⟩
 ·refine ⟨_,rfl,_,_,rfl,rfl,_,rfl,?_⟩;refine ite2 (fun c=>?_) (fun c=>?_)
  ·refine ⟨_,rfl,d,L,10,rfl,by decide,s1,fun u H2 u0 u1 k2 s2=>?_⟩;exact q u H2 (by omega) (by omega) (k1.trans k2) s2
  ·exact ⟨rfl,rfl⟩
 rintro σ' H' ⟨rfl,rfl⟩;refine ⟨fun σ' H'=>σ'=[some (.ref d),some (.int w1)]∧H1=H',?_,?_⟩
 ·refine ⟨_,rfl,_,_,rfl,rfl,_,rfl,?_⟩;refine ite2 (fun c=>?_) (fun c=>?_)
  ·refine ⟨_,rfl,d,L,60,rfl,by decide,s1,fun u H2 u0 u1 k2 s2=>⟨_,_,rfl,rfl,?_⟩⟩;exact q (u - 30) H2 (by omega) (by omega) (k1.trans k2) s2
  ·exact ⟨rfl,rfl⟩
 rintro σ' H' ⟨rfl,rfl⟩;refine ⟨fun σ' H'=>σ'=[some (.ref d),some (.int w1)]∧H1=H',?_,?_⟩
 ·refine ⟨_,rfl,rfl,_,rfl,?_⟩;refine ite2 (fun c=>?_) (fun c=>?_)
  ·refine ⟨_,rfl,d,L,1999,rfl,by decide,s1,fun u H2 u0 u1 k2 s2=>⟨_,_,rfl,rfl,?_⟩⟩;refine ⟨_,_,rfl,rfl,⟨by decide,by decide,by decide⟩,_,_,rfl,rfl,⟨by decide,by decide,by decide⟩,_,_,rfl,rfl,⟨by decide,by decide,by decide⟩,(by show 4≤sizeLine;decide),fun p hp=>?_⟩;refine ⟨_,rfl,d,L,4,rfl,by decide,s2.of_new hp _,fun b H3 b0 b1 k3 s3=>?_⟩;obtain ⟨m,hat,m0,m1⟩:∃ m:Int,atI [V.int 1,V.int (10 ^ (19:Int).toNat),V.int (10 ^ (38:Int).toNat),V.int (10 ^ (57:Int).toNat)] b=some (.int m)∧0 < m∧m≤10 ^ 57:=by
    have z:b=0∨b=1∨b=2∨b=3:=by omega
    rcases z with rfl | rfl | rfl | rfl
    ·exact ⟨_,rfl,by decide +kernel,by decide +kernel⟩
    ·exact ⟨_,rfl,by decide +kernel,by decide +kernel⟩
    ·exact ⟨_,rfl,by decide +kernel,by decide +kernel⟩
    ·exact ⟨_,rfl,by decide +kernel,by decide +kernel⟩
   refine ⟨_,_,_,_,rfl,rfl,SqL.of (k3 p _ (nd s2 hp) zab),hat,_,_,rfl,rfl,.inl ⟨by omega,by omega⟩,?_⟩;obtain ⟨f1,f2⟩:=zoR (x:=u - 999) (m:=m) (by omega) (by omega) m0 m1;exact q _ H3 f1 f2 ((k1.trans k2).trans ((zai hp _).keep.trans k3)) s3
  ·exact ⟨rfl,rfl⟩
 rintro σ' H' ⟨rfl,rfl⟩;refine ⟨_,rfl,(by show 2≤sizeLine;decide),fun p hp=>?_⟩;refine ⟨_,rfl,d,L,2,rfl,by decide,s1.of_new hp _,fun b H2 b0 b1 k2 s2=>?_⟩;obtain ⟨m,hat,hm⟩:∃ m:Int,atI [V.int 1,V.int (-1)] b=some (.int m)∧(m=1∨m = -1):=by
  have z:b=0∨b=1:=by omega
  rcases z with rfl | rfl
  ·exact ⟨_,rfl,.inl rfl⟩
  ·exact ⟨_,rfl,.inr rfl⟩
 refine ⟨_,_,_,_,rfl,rfl,SqL.of (k2 p _ (nd s1 hp) zab),hat,_,_,rfl,rfl,⟨by decide,by decide,by decide⟩,_,_,rfl,rfl,_,rfl,d,L,3,rfl,by decide,s2,fun u H3 u0 u1 k3 s3=>⟨_,_,rfl,rfl,_,_,rfl,rfl,.inl ⟨by omega,by omega⟩,?_⟩⟩;have e60:(10:Int) ^ (60:Int).toNat=10 ^ 60:=rfl;rw[e60];have kk:=k1.trans ((zai hp _).keep.trans (k2.trans k3));rcases hm with rfl | rfl
 ·exact q _ H3 (by omega) (by omega) kk s3
 ·exact q _ H3 (by omega) (by omega) kk s3
def Rise (es:List (Int×Int)):Prop:=es.Pairwise fun a b=>pLt a b=true
def zfL (k:Int)(e:Int×Int):Prop:=-(10 ^ 60) < e.1∧e.1 < 10 ^ 60∧0≤e.2∧e.2 < k
theorem zmD {κ:Type}[DecidableEq κ](kvs:List (κ×V))(k:κ)(v:V):(putK kvs k v).map (·.1)=if (kvs.any fun kv=>decide (kv.1=k))=true then kvs.map (·.1) else kvs.map (·.1)++[k]:=by
 unfold putK;split
 ·rw[ybA];apply yco;intro a ha;show (if a.1=k then (a.1,v) else a).1=a.1
  split <;> rfl
 ·rw[yat];rfl
def zgS (e:Int×Int):Int:=64 * (if 0≤e.1 then 2 * e.1 else -2 * e.1 - 1)+e.2
def zgR (e:Int×Int):Nat:=(zgS e).toNat
theorem zfa {e:Int×Int}(h:zfL 64 e):((zgR e:Nat):Int)=zgS e:=by
 obtain ⟨h1,h2,h3,h4⟩:=h;unfold zgR zgS;split <;> omega
theorem zpa {e:Int×Int}(h:zfL 64 e):zgR e < 2 ^ 207:=by
 have z:=zfa h;obtain ⟨h1,h2,h3,h4⟩:=h;unfold zgS at z;split at z <;> omega
theorem znH {e f:Int×Int}(h:zfL 64 e)(g:zfL 64 f)(z:zgR e=zgR f):e=f:=by
 have z1:=zfa h;have z2:=zfa g;obtain ⟨h1,h2,h3,h4⟩:=h;obtain ⟨g1,g2,g3,g4⟩:=g;obtain ⟨a,b⟩:=e;obtain ⟨c,d⟩:=f;rw[z,z2]at z1;unfold zgS at z1;dsimp only at *;have:a=c∧b=d:=by
  split at z1 <;> split at z1 <;> omega
 rw[this.1,this.2]
def zkv (K:Frag):Sp:=fun vs H Q _=>∃(v:V) (e:Int×Int),vs=[v]∧Rep.has K H e v∧Q (.int (zgS e)) H
theorem zqr (T:Txt K mg)(D_code:DF K mg "code" zkz zhP):FC P w K mg base 1 "code" zhP (zkv K):=by
 refine D_code.ok sc_code (fun vs H Q E h=>?_) (fun f cdv A outer s H vs Q E hr h=>?_)
 ·obtain ⟨v,e,rfl,_⟩:=h;rfl
 obtain ⟨v,e,rfl,he,q⟩:=h;obtain ⟨p,x1,x2,rfl,hT,e1,e2⟩:=(show hasP K H e v from he);have hT:=SqT.of (K:=K) hT;have e1:x1=.int e.1:=e1;have e2:x2=.int e.2:=e2;subst e1 e2;refine ⟨_,(zah (zas (i:=1) sc_code.nd rfl (Or.inl rfl) (zaD zaO (pv 0) zaf (fun _ _=>rfl)))
   (zah (zas (i:=2) sc_code.nd rfl (Or.inl rfl) (zoj (zav zqj (pv 1) zaf (zaH _)) (zaw zcd zaf (pv 1)) (zaw zcb (zaw zcd (zmG ziq zaf) (pv 1)) zaf)))
   (zae (zau (zaw za7 (zaw zcd (zeV rfl T.g_KNOT_NUMBERS) (pv 2)) (zaD zaO (pv 0) zaf (fun _ _=>rfl))))))),?_⟩
 refine ⟨_,rfl,_,_,_,_,rfl,rfl,hT,rfl,?_⟩;refine ⟨_,rfl,_,_,rfl,rfl,_,rfl,?_⟩;refine ite2 (fun c=>?_) (fun c=>?_)
 ·have c':0≤e.1:=yaH c;refine ⟨_,rfl,_,_,rfl,rfl,.inl ⟨by decide,by decide⟩,?_⟩;refine ⟨_,rfl,_,_,rfl,rfl,.inl ⟨by decide,by decide⟩,_,rfl,_,_,_,_,rfl,rfl,hT,rfl,_,_,rfl,rfl,?_⟩;unfold zgS at q;rw[if_pos c']at q;exact q
 ·have c':¬ 0≤e.1:=yb3 (Bool.eq_false_iff.mpr c);refine ⟨_,rfl,_,rfl,_,_,rfl,rfl,.inl ⟨by decide,by decide⟩,_,_,rfl,rfl,?_⟩;refine ⟨_,rfl,_,_,rfl,rfl,.inl ⟨by decide,by decide⟩,_,rfl,_,_,_,_,rfl,rfl,hT,rfl,_,_,rfl,rfl,?_⟩;unfold zgS at q;rw[if_neg c']at q;exact q
abbrev nV (n:Nat):V:=.int (n:Int)
theorem zrX {v:Int}(h:0≤v):∃ n:Nat,v=(n:Int):=⟨v.toNat,by omega⟩
theorem zgL {xs:List Nat}{i:Nat}(h:i < xs.length):atI (xs.map nV) (i:Int)=some (nV (xs.getD i 0)):=
 zeu (by rw[yar,yac h,yae,yac h];rfl)
theorem znQ {xs:List Nat}{i:Nat}(h0:i≠0)(h:i < xs.length):atI (xs.map nV) ((i:Int) - 1)=some (nV (xs.getD (i - 1) 0)):=by
 have e:(i:Int) - 1=((i - 1:Nat):Int):=by omega
 rw[e];exact zgL (by omega)
theorem zk2 {xs:List Nat}{i:Nat}{x:V}(h:(xs.map nV)[i]?=some x):i < xs.length∧x=nV (xs.getD i 0):=by
 rw[yar]at h;cases e:xs[i]? with
 | none=>rw[e]at h;cases h
 | some y=>
  rw[e]at h;refine ⟨(yak.mp e).1,?_⟩;rw[yae,e];exact (yad h).symm
theorem zq7 (n:Nat):Builtin.bitAnd (n:Int) 1=((n % 2:Nat):Int):=by
 unfold Builtin.bitAnd;rw[yag (ybv n),yag (by decide:(0:Int)≤1)];show ((n &&& 1:Nat):Int)=_;rw[Nat.and_one_is_mod]
theorem zsm (a b:Nat):2 * ((lu a b:Nat):Int)+Builtin.bitAnd ((b:Int) / 2 ^ ((lu a b:Nat):Int).toNat) 1=((fig a b:Nat):Int):=by
 have e:(b:Int) / 2 ^ ((lu a b:Nat):Int).toNat=((b / 2 ^ lu a b:Nat):Int):=by
  rw[ya5,Int.natCast_ediv,Int.natCast_pow];rfl
 rw[e,zq7];unfold fig;omega
def But (p:Addr)(H H':Hp):Prop:=∀ b o,b≠p→H b=some o→H' b=some o
theorem But.sq {K:Frag}{p:Addr}{H H':Hp}{a:Addr}{xs:List V}(k:But p H H')(h:SqL K H a xs)(n:H p=none):SqL K H' a xs:=by
 rcases h with (h | ⟨o,h⟩) | h
 ·exact .inl (.inl (k _ _ (zac h n) h))
 ·exact .inl (.inr ⟨o,k _ _ (zac h n) h⟩)
 ·exact .inr h
theorem zjY (xs:List Nat):(xs.map nV).all zfu=true:=by
 rw[yaU];intro x hx;obtain ⟨n,_,rfl⟩:=yaG.mp hx;rfl
theorem znm (n:Nat)(xs:List Nat):inV (.int (n:Int)) (xs.map nV)=decide (n∈xs):=by
 unfold inV
 induction xs with
 | nil=>rfl
 | cons x xs ih=>
  rw[yau,ybf,ih];show ((x:Int) == (n:Int) || decide (n∈xs))=decide (n∈x::xs);by_cases h:x=n
  ·subst h;simp
  ·have:((x:Int) == (n:Int))=false:=by
    rw[beq_eq_false_iff_ne];omega
   rw[this,Bool.false_or];have e:(n∈x::xs)=(n∈xs):=propext (by simp[Ne.symm h]);simp[Ne.symm h]
def zfN (K:Frag):Sp:=fun vs H Q _=>∃(a:Addr) (xs:List Nat),vs=[.ref a]∧SqL K H a (xs.map nV)∧Unl xs∧xs.length≤1000∧
 ∀(p:Addr) (H':Hp),H p=none→Same H H'→H' p=some (.lst ((zcA xs).map nV))→Q (.ref p) H'
theorem zmQ (T:Txt K mg)(D_turned:DF K mg "turned" zfP zeL)(F_lowest_unlike:FC P w K mg base 1 "lowest_unlike" zbD zrq):FC P w K mg base 2 "turned" zeL (zfN K):=by
 refine D_turned.ok sc_turned (fun vs H Q E h=>?_) (fun f cdv A outer s H vs Q E hr h=>?_)
 ·obtain ⟨a,xs,rfl,_⟩:=h;rfl
 obtain ⟨a,xs,rfl,hS,hu,hz,q⟩:=h;refine ⟨_,(zah (zas (i:=1) sc_turned.nd rfl (Or.inl rfl) (zca zad))
   (zah (za2 PassesOwn.never rfl (ziJ rfl T.m_enumerate (zaa (pv 0) zad)) (zg3 rfl (zbt (zar (i:=2) sc_turned.nd rfl (Or.inl rfl)) (zbt (zar (i:=3) sc_turned.nd rfl (Or.inl rfl)) zfq))) (zae (zaW (zav zfr (pv 2) zaf (zaH _)) (zae (zbi (zeW F.plainAttrs_list F.slot_list_append F.type_list_append zaU (pv 1) (zaa (zaw zdy (pv 3) zaf) zad)))) (zah (zas (i:=4) sc_turned.nd rfl (Or.inl rfl) (zaA F_lowest_unlike hr (zaa (zaD zaI (pv 0) (zaw zcb (pv 2) zaf) (fun _ _=>rfl)) (zaa (pv 3) zad))))
   (zae (zbi (zeW F.plainAttrs_list F.slot_list_append F.type_list_append zaU (pv 1) (zaa (zaw za7 (zaw zcd zaf (pv 4)) (zaw zpD (zaw zrJ (pv 3) (pv 4)) zaf)) zad))))))))
   (zae (zau (pv 1))))),?_⟩
 refine ⟨(by show 0≤sizeLine;decide),fun p hp=>?_⟩;have k0:But p H (upd H p (.lst [])):=fun b o n e=>by rw[zag n];exact e
 refine ⟨_,rfl,a,rfl,⟨_,k0.sq hS hp⟩,?_⟩;refine zo3 (xs:=xs.map nV) (fun i σ H2=>∃ x2 x3 x4:Option V,σ=[some (.ref a),some (.ref p),x2,x3,x4]∧H2 p=some (.lst (((zcA xs).take i).map nV))∧But p H H2) ?_ ?_ ?_ ?_
 ·exact ⟨_,_,_,rfl,zab,k0⟩
 ·rintro i σ H2 _ ⟨x2,x3,x4,rfl,_,k2⟩;exact k2.sq hS hp
 ·rintro i x σ H2 r hx ⟨x2,x3,x4,rfl,h2,k2⟩ hr;obtain ⟨hi,rfl⟩:=zk2 hx;have hS2:=k2.sq hS hp;have np:p≠r:=zac h2 hr;have h3:upd H2 r (.tup [.int i,nV (xs.getD i 0)]) p=some (.lst (((zcA xs).take i).map nV)):=by rw[zag np];exact h2
  have k3:But p H (upd H2 r (.tup [.int i,nV (xs.getD i 0)])):=fun b o n e=>(zai hr _) b o (k2 b o n e);have hS3:=k3.sq hS hp;have hlen:(((zcA xs).take i).map nV).length < sizeLine:=zao (by rw[yab,yaq,za5];omega);refine ⟨r,_,rfl,SqT.of zab,rfl,_,_,rfl,_,_,rfl,rfl,?_⟩;generalize upd H2 r (.tup [.int i,nV (xs.getD i 0)])=H3 at h3 k3 hS3 ⊢;have fin:∀ v:V,v=nV (zc3 xs i)→∃ y2 y3 y4:Option V,[some (V.ref a),some (V.ref p),y2,y3,y4]=[some (V.ref a),some (V.ref p),y2,y3,y4]∧upd H3 p (.lst (((zcA xs).take i).map nV++[v])) p=some (.lst (((zcA xs).take (i+1)).map nV))∧But p H (upd H3 p (.lst (((zcA xs).take i).map nV++[v]))):=by
   rintro v rfl;refine ⟨none,none,none,rfl,?_,fun b o n e=>by rw[zag n];exact k3 b o n e⟩;rw[zab,zgV hi,yat];rfl
  refine ⟨_,rfl,rfl,_,rfl,?_⟩;refine ite2 (fun c=>?_) (fun c=>?_)
  ·have c':i=0:=by
    have:=V.int.inj (yaH c);omega
   refine ⟨_,rfl,.inl ⟨rfl,_,SqL.of h3⟩,_,rfl,_,_,rfl,rfl,(by show (0:Int) < 2;decide),_,_,_,rfl,rfl,h3,hlen,?_⟩;obtain ⟨_,_,_,_,g2,g3⟩:=fin (.int (((xs.getD i 0:Nat):Int) % 2)) (by
    unfold zc3;rw[if_pos c',c'];show V.int _=V.int _;rw[Int.natCast_emod];rfl)
   exact ⟨_,_,_,rfl,g2,g3⟩
  ·have c':i≠0:=fun z=>c (by subst z;decide);have hne:xs.getD (i - 1) 0≠xs.getD i 0:=by
    have:=hu (i - 1) (by omega);rw[show i - 1+1=i by omega]at this;exact this
   refine ⟨_,rfl,_,rfl,_,_,rfl,rfl,_,_,_,_,rfl,rfl,hS3,znQ c' hi,_,rfl,_,_,rfl,hne,?_⟩;refine ⟨_,rfl,.inl ⟨rfl,_,SqL.of h3⟩,_,rfl,_,_,rfl,rfl,.inl ⟨by decide,by decide⟩,_,rfl,_,rfl,_,_,rfl,rfl,ybv _,_,_,rfl,rfl,_,_,rfl,rfl,_,_,_,rfl,rfl,h3,hlen,?_⟩;obtain ⟨_,_,_,_,g2,g3⟩:=fin (.int (2 * ((lu (xs.getD (i - 1) 0) (xs.getD i 0):Nat):Int)+Builtin.bitAnd (((xs.getD i 0:Nat):Int) / 2 ^ ((lu (xs.getD (i - 1) 0) (xs.getD i 0):Nat):Int).toNat) 1)) (by
    unfold zc3;rw[if_neg c',zsm])
   exact ⟨_,_,_,rfl,g2,g3⟩
 ·rintro σ H2 ⟨x2,x3,x4,rfl,h2,k2⟩;refine ⟨_,rfl,?_⟩;refine q p H2 hp (fun b o e=>k2 b o (zac e hp) e) ?_;rw[h2,yas (by rw[za5,yab];exact yaa _)]
def zcy:Nat→List Nat→List Nat
 | 0,xs=>xs
 | n+1,xs=>zcA (zcy n xs)
theorem zbn (n:Nat)(xs:List Nat):(zcy n xs).length=xs.length:=by
 induction n with
 | zero=>rfl
 | succ n ih=>rw[zcy,za5,ih]
theorem zcx {xs:List Nat}(h:Unl xs)(n:Nat):Unl (zcy n xs):=by
 induction n with
 | zero=>exact h
 | succ n ih=>exact zl8 ih
theorem zej {m k:Nat}{xs:List Nat}(h:zdU m xs)(hk:m≤k):zdU k xs:=fun i hi=>yaw (h i hi) hk
theorem zpT {xs:List Nat}(h:Unl xs)(hb:zdU (2 ^ 207) xs):zdU 414 (zcy 1 xs):=zcz (k:=207) (by decide) h hb
theorem zpS {xs:List Nat}(h:Unl xs)(hb:zdU (2 ^ 207) xs):zdU 18 (zcy 2 xs):=zcz (k:=9) (by decide) (zcx h 1) (zej (zpT h hb) (by decide))
theorem zpR {xs:List Nat}(h:Unl xs)(hb:zdU (2 ^ 207) xs):zdU 10 (zcy 3 xs):=zcz (k:=5) (by decide) (zcx h 2) (zej (zpS h hb) (by decide))
theorem zpQ {xs:List Nat}(h:Unl xs)(hb:zdU (2 ^ 207) xs):zdU 8 (zcy 4 xs):=zcz (k:=4) (by decide) (zcx h 3) (zej (zpR h hb) (by decide))
theorem zpP {xs:List Nat}(h:Unl xs)(hb:zdU (2 ^ 207) xs):zdU 6 (zcy 5 xs):=zcz (k:=3) (by decide) (zcx h 4) (zej (zpQ h hb) (by decide))
def zb0 (es:List (Int×Int)):List Nat:=es.map zgR
theorem zaE (es:List (Int×Int)):(zb0 es).length=es.length:=yab _
theorem zfx {es:List (Int×Int)}{i:Nat}(h:i < es.length):(zb0 es).getD i 0=zgR es[i]:=by
 unfold zb0;rw[yae,yar,yac h];rfl
theorem zj4 {es:List (Int×Int)}(h:∀ e∈es,zfL 64 e):zdU (2 ^ 207) (zb0 es):=fun i hi=>by
 rw[zaE]at hi;rw[zfx hi];exact zpa (h _ (yaN hi))
theorem ze9 {es:List (Int×Int)}(h:∀ e∈es,zfL 64 e)(hr:Rise es):Unl (zb0 es):=fun i hi=>by
 rw[zaE]at hi;rw[zfx (by omega),zfx hi];intro z;have e:=znH (h _ (yaN (by omega))) (h _ (yaN hi)) z;have:=yaY.mp hr i (i+1) (by omega) hi (by omega);rw[e]at this;have q:=zc0.mp this;omega
theorem zhk {es:List (Int×Int)}{i:Nat}(h:i < es.length):(zb0 es).take (i+1)=(zb0 es).take i++[zgR es[i]]:=by
 have h':i < (zb0 es).length:=by rw[zaE];exact h
 have z:(zb0 es)[i]'h'=zgR es[i]:=List.getElem_map zgR;rw[yaQ h',z]
def zkr (K:Frag):Sp:=fun vs H Q _=>∃(a:Addr) (ws:List V) (es:List (Int×Int)),vs=[.ref a]∧SqL K H a ws∧zal K H es ws∧es.length≤1000∧(∀ e∈es,zfL 64 e)∧Rise es∧
 ∀(p:Addr) (H':Hp),H p=none→Same H H'→H' p=some (.lst ((zcy 5 (zb0 es)).map nV))→Q (.ref p) H'
theorem zhl {K:Frag}{H0 H2:Hp}{D:Addr}{es:List (Int×Int)}{ws:List V}{i:Nat}{x:V}(hD:H0 D=none)(hw:zal K H0 es ws)(hx:ws[i]?=some x)(k:But D H0 H2):∃ h:i < es.length,Rep.has K H2 es[i] x:=by
 obtain ⟨e,h1,h2⟩:=hw.get hx;have hi:=(yak.mp h1).1;refine ⟨hi,?_⟩;have z:es[i]=e:=(yak.mp h1).2;rw[z];obtain ⟨a,x1,x2,rfl,q,e1,e2⟩:=(show hasP K H0 e x from h2);exact ⟨a,x1,x2,rfl,k _ _ (zac q hD) q,e1,e2⟩
theorem zmW (T:Txt K mg)(D_labels:DF K mg "labels" zfR zeO)(F_code:FC P w K mg base 1 "code" zhP (zkv K))(F_turned:FC P w K mg base 2 "turned" zeL (zfN K)):FC P w K mg base 3 "labels" zeO (zkr K):=by
 refine D_labels.ok sc_labels (fun vs H Q E h=>?_) (fun f cdv A outer s H vs Q E hr h=>?_)
 ·obtain ⟨a,ws,es,rfl,_⟩:=h;rfl
 obtain ⟨a,ws,es,rfl,hS,hw,hz,he,hri,q⟩:=h;have hlen:=hw.length;refine ⟨_,(zah (zen (i:=1) (N:=["entry"]) (own:=1) (cap:=[]) sc_labels.nd rfl rfl rfl (zbQ (pv 0)) ⟨rfl,rfl,rfl,rfl,rfl,rfl⟩ (fun _ _ _ _ _=>(zar (i:=0) (show List.Nodup (["entry"]:List Str) by decide +kernel) rfl (Or.inl rfl))) (fun _ _ _ _ _=>zcD) (fun _ _ _ _ _=>(zaA F_code hr (zaa (pv 0) zad))))
   (zah (za2 PassesOwn.never rfl (zaY rfl T.m_range (zaa (zeV rfl T.g_TURNS) zad)) (zar (i:=2) sc_labels.nd rfl (Or.inl rfl)) (zae (zas (i:=1) sc_labels.nd rfl (Or.inl rfl) (zaA F_turned hr (zaa (pv 1) zad)))))
   (zae (zau (pv 1))))),?_⟩
 refine ⟨_,rfl,a,rfl,⟨_,hS⟩,fun D hD=>?_⟩;have k0:But D H (upd H D (.lst [])):=fun b o n e=>by rw[zag n];exact e
 refine zbX (xs:=ws) (fun i σ H2=>∃ x0:Option V,σ=[x0]∧H2 D=some (.lst (((zb0 es).take i).map nV))∧But D H H2) ?_ ?_ ?_ ?_
 ·exact ⟨_,rfl,zab,k0⟩
 ·rintro i σ H2 _ ⟨x0,rfl,_,k2⟩;exact k2.sq hS hD
 ·rintro i m x σ H2 hx hm ⟨x0,rfl,h2,k2⟩;obtain ⟨hi,hhas⟩:=zhl hD hw hx k2;refine zdz ?_;refine ⟨_,rfl,x,es[i],rfl,hhas,?_⟩;refine ⟨_,h2,zao (by rw[yab,yaq,zaE];omega),m - 1,by omega,by omega,_,rfl,?_,fun b o n e=>by rw[zag n];exact k2 b o n e⟩;rw[zab,zhk hi,yat,← zfa (he _ (yaN hi))];rfl
 ·rintro σ H2 ⟨x0,rfl,h2,k2⟩;have e0:H2 D=some (.lst ((zb0 es).map nV)):=by
   rw[h2,yas (by rw[zaE];omega)]
  have same0:Same H H2:=fun b o e=>k2 b o (zac e hD) e;refine ⟨5,rfl,by decide,by decide,?_⟩;refine za0 (n:=5) (fun i σ H3=>∃(p:Addr) (x2 x3:Option V),σ=[some (.ref a),some (.ref p),x2]∧H p=none∧Same H H3∧H3 p=some (.lst ((zcy i (zb0 es)).map nV))) ?_ ?_ ?_
  ·exact ⟨D,_,none,rfl,hD,same0,e0⟩
  ·rintro i σ H3 hi ⟨p,x2,x3,rfl,hp,s3,h3⟩;refine ⟨_,rfl,p,_,rfl,SqL.of h3,zcx (ze9 he hri) i,by rw[zbn,zaE];exact hz,fun p4 H4 hp4 s4 h4=>?_⟩;exact ⟨p4,_,none,rfl,s3.free hp4,s3.trans s4,h4⟩
  ·rintro σ H3 ⟨p,x2,x3,rfl,hp,s3,h3⟩;refine ⟨_,rfl,?_⟩;exact q p H3 hp s3 h3
theorem zoA (T:Txt K mg)(D_l_code:DF K mg "_law_code" zfW zeT):FC P w K mg base 1 "_law_code" zeT (zkv K):=by
 refine D_l_code.ok sc_l_code (fun vs H Q E h=>?_) (fun f cdv A outer s H vs Q E hr h=>?_)
 ·obtain ⟨v,e,rfl,_⟩:=h;rfl
 obtain ⟨v,e,rfl,he,q⟩:=h;obtain ⟨p,x1,x2,rfl,hT,e1,e2⟩:=(show hasP K H e v from he);have hT:=SqT.of (K:=K) hT;have e1:x1=.int e.1:=e1;have e2:x2=.int e.2:=e2;subst e1 e2;refine ⟨_,(zah (zdx (pv 0) (zg3 rfl (zbt (zar (i:=1) sc_l_code.nd rfl (Or.inl rfl)) (zbt (zar (i:=2) sc_l_code.nd rfl (Or.inl rfl)) zfq))))
   (zaB (zaW (zav zhV (pv 1) zaf (zaH _)) (zae (zau (zaw za7 (zaw zcd zaf (zaw zcb (zaw zcd (zmG ziq zaf) (pv 1)) zaf)) (pv 2)))) zax)
   (zae (zau (zaw za7 (zaw zcd zaf (pv 1)) (pv 2)))))),?_⟩
 refine ⟨_,rfl,p,_,rfl,hT,rfl,_,_,rfl,_,_,rfl,rfl,?_⟩;refine ⟨fun σ' H'=>σ'=[some (.ref p),some (.int e.1),some (.int e.2)]∧H=H'∧0≤e.1,?_,?_⟩
 ·refine ⟨_,rfl,_,_,rfl,rfl,_,rfl,?_⟩;refine ite2 (fun c=>?_) (fun c=>?_)
  ·have c':e.1 < 0:=yaH c;refine ⟨_,rfl,_,rfl,_,_,rfl,rfl,.inl ⟨by decide,by decide⟩,_,_,rfl,rfl,_,_,rfl,rfl,.inl ⟨by decide,by decide⟩,_,rfl,_,_,rfl,rfl,?_⟩;unfold zgS at q;rw[if_neg (by omega)]at q;exact q
  ·exact ⟨rfl,rfl,by have:=yb3 (Bool.eq_false_iff.mpr c);omega⟩
 rintro σ' H' ⟨rfl,rfl,c⟩;refine ⟨_,rfl,_,_,rfl,rfl,.inl ⟨by decide,by decide⟩,_,rfl,_,_,rfl,rfl,?_⟩;unfold zgS at q;rw[if_pos c]at q;have z:64 * (2 * e.1)+e.2=128 * e.1+e.2:=by omega
 rw[z]at q;exact q
def wMes:L2.St→Hp→Nat:=fun σ _=>match σ with
 | [_,_,_,some (.int x),some (.int y),_]=>x.toNat+y.toNat
 | _=>0
theorem zlw (T:Txt K mg)(D_l_turned:DF K mg "_law_turned" zdZ zdj):FC P w K mg base 1 "_law_turned" zdj (zfN K):=by
 refine D_l_turned.ok sc_l_turned (fun vs H Q E h=>?_) (fun f cdv A outer s H vs Q E hr h=>?_)
 ·obtain ⟨a,xs,rfl,_⟩:=h;rfl
 obtain ⟨a,xs,rfl,hS,hu,hz,q⟩:=h;refine ⟨_,(zah (zas (i:=1) sc_l_turned.nd rfl (Or.inl rfl) (zca zad))
   (zah (za2 PassesOwn.never rfl (zaY rfl T.m_range (zaa (zam zan rfl T.m_len boot_len (zaa (pv 0) zad)) zad)) (zar (i:=2) sc_l_turned.nd rfl (Or.inl rfl)) (zae (zaW (zav zfr (pv 2) zaf (zaH _)) (zae (zbi (zeW F.plainAttrs_list F.slot_list_append F.type_list_append zaU (pv 1) (zaa (zaw zdy (zaD zaI (pv 0) zaf (fun _ _=>rfl)) zaf) zad)))) (zah (zas (i:=3) sc_l_turned.nd rfl (Or.inl rfl) (zaD zaI (pv 0) (pv 2) (fun _ _=>rfl)))
   (zah (zas (i:=4) sc_l_turned.nd rfl (Or.inl rfl) (zaD zaI (pv 0) (zaw zcb (pv 2) zaf) (fun _ _=>rfl)))
   (zah (zas (i:=5) sc_l_turned.nd rfl (Or.inl rfl) zaf)
   (zah (zf1 PassesOwn.never (zav zfr (zaw zdy (pv 3) zaf) (zaw zdy (pv 4) zaf) (zaH _)) (zah (zas (i:=3) sc_l_turned.nd rfl (Or.inl rfl) (zaw zgk (pv 3) zaf))
   (zah (zas (i:=4) sc_l_turned.nd rfl (Or.inl rfl) (zaw zgk (pv 4) zaf))
   (zae (zas (i:=5) sc_l_turned.nd rfl (Or.inl rfl) (zaw za7 (pv 5) zaf))))))
   (zae (zbi (zeW F.plainAttrs_list F.slot_list_append F.type_list_append zaU (pv 1) (zaa (zaw za7 (zaw zcd zaf (pv 5)) (zaw zdy (pv 3) zaf)) zad)))))))))))
   (zae (zau (pv 1))))),?_⟩
 refine ⟨(by show 0≤sizeLine;decide),fun p hp=>?_⟩;have k0:But p H (upd H p (.lst [])):=fun b o n e=>by rw[zag n];exact e
 refine ⟨_,rfl,_,_,rfl,.inl (k0.sq hS hp),_,rfl,by rw[yab];omega,by rw[yab];omega,?_⟩;have el:((((xs.map nV).length:Nat):Int)).toNat=xs.length:=by rw[yab,ya5]
 rw[el];refine za0 (n:=xs.length) (fun i σ H2=>∃ x2 x3 x4 x5:Option V,σ=[some (.ref a),some (.ref p),x2,x3,x4,x5]∧H2 p=some (.lst (((zcA xs).take i).map nV))∧But p H H2) ?_ ?_ ?_
 ·exact ⟨_,_,_,_,rfl,zab,k0⟩
 ·rintro i σ H2 hi ⟨x2,x3,x4,x5,rfl,h2,k2⟩;have hS2:=k2.sq hS hp;have hlen:(((zcA xs).take i).map nV).length < sizeLine:=zao (by rw[yab,yaq,za5];omega);have fin:∀ v:V,v=nV (zc3 xs i)→upd H2 p (.lst (((zcA xs).take i).map nV++[v])) p=some (.lst (((zcA xs).take (i+1)).map nV))∧But p H (upd H2 p (.lst (((zcA xs).take i).map nV++[v]))):=by
   rintro v rfl;refine ⟨?_,fun b o n e=>by rw[zag n];exact k2 b o n e⟩;rw[zab,zgV hi,yat];rfl
  refine ⟨_,rfl,rfl,_,rfl,?_⟩;refine ite2 (fun c=>?_) (fun c=>?_)
  ·have c':i=0:=by
    have:=V.int.inj (yaH c);omega
   have hat:atI (xs.map nV) 0=some (nV (xs.getD 0 0)):=zgL (i:=0) (by omega);refine ⟨_,rfl,.inl ⟨rfl,_,SqL.of h2⟩,_,rfl,_,_,_,_,rfl,rfl,hS2,hat,_,_,rfl,rfl,(by show (0:Int) < 2;decide),_,_,_,rfl,rfl,h2,hlen,?_⟩;obtain ⟨g2,g3⟩:=fin (.int (((xs.getD 0 0:Nat):Int) % 2)) (by
    unfold zc3;rw[if_pos c'];show V.int _=V.int _;rw[Int.natCast_emod];rfl)
   exact ⟨_,_,_,_,rfl,g2,g3⟩
  ·have c':i≠0:=fun z=>c (by subst z;decide);have hne:xs.getD (i - 1) 0≠xs.getD i 0:=by
    have:=hu (i - 1) (by omega);rw[show i - 1+1=i by omega]at this;exact this
   have hat:atI (xs.map nV) (0+(i:Int))=some (nV (xs.getD i 0)):=by rw[ybe];exact zgL hi
   have hatp:atI (xs.map nV) (0+(i:Int) - 1)=some (nV (xs.getD (i - 1) 0)):=by rw[ybe];exact znQ c' hi
   refine ⟨_,rfl,_,rfl,_,_,_,_,rfl,rfl,hS2,hat,?_⟩;refine ⟨_,rfl,_,rfl,_,_,rfl,rfl,_,_,_,_,rfl,rfl,hS2,hatp,?_⟩;have et:zc3 xs i=fig (xs.getD (i - 1) 0) (xs.getD i 0):=by unfold zc3;rw[if_neg c']
   rw[et]at fin;generalize xs.getD (i - 1) 0=Y at *;generalize xs.getD i 0=X at *;refine zkh (fun σ H'=>∃ x y j:Nat,σ=[some (.ref a),some (.ref p),some (.int (0+i)),some (.int x),some (.int y),some (.int j)]∧H'=H2∧x≠y∧lu Y X=j+lu y x∧x=X / 2 ^ j) wMes ?_ ?_ ?_
   ·exact ⟨X,Y,0,rfl,rfl,Ne.symm hne,by omega,by rw[Nat.pow_zero,Nat.div_one]⟩
   ·rintro σ H' ⟨x,y,j,rfl,rfl,hxy,hl,hx⟩;refine ⟨_,rfl,_,_,rfl,rfl,(by show (0:Int) < 2;decide),_,rfl,_,_,rfl,rfl,(by show (0:Int) < 2;decide),rfl,_,rfl,?_⟩;refine ite2 (fun e=>?_) (fun e=>?_)
    ·have e':x % 2=y % 2:=by
      have:=V.int.inj (yaH e);omega
     refine ⟨_,rfl,_,_,rfl,rfl,⟨by decide,by decide⟩,_,rfl,_,_,rfl,rfl,⟨by decide,by decide⟩,_,rfl,_,_,rfl,rfl,?_⟩;refine ⟨⟨x / 2,y / 2,j+1,?_,rfl,by omega,?_,?_⟩,?_⟩
     ·rw[Int.natCast_ediv,Int.natCast_ediv,ycp];rfl
     ·rw[hl,zh3 (Ne.symm hxy) e'.symm];omega
     ·rw[hx,ybN,Nat.div_div_eq_div_mul]
     ·show ((x:Int) / 2).toNat+((y:Int) / 2).toNat < (x:Int).toNat+(y:Int).toNat;omega
    ·have e':x % 2≠y % 2:=fun z=>e (by
      apply yag;show V.int _=V.int _;have z':(x:Int) % 2=(y:Int) % 2:=by omega
      rw[z'])
     rw[zkQ (Ne.symm e')]at hl;refine ⟨_,rfl,.inl ⟨rfl,_,SqL.of h2⟩,_,rfl,_,_,rfl,rfl,.inl ⟨by decide,by decide⟩,_,rfl,_,_,rfl,rfl,(by show (0:Int) < 2;decide),_,_,rfl,rfl,_,_,_,rfl,rfl,h2,hlen,?_⟩;obtain ⟨g2,g3⟩:=fin (.int (2 * (j:Int)+(x:Int) % 2)) (by
      show V.int _=V.int _;unfold fig;rw[hl,ybs,← hx,ycp,Int.natCast_mul,Int.natCast_emod];rfl)
     exact ⟨_,_,_,_,rfl,g2,g3⟩
   ·intro σ H Q Q' m h;obtain ⟨x1,e1,i1,j1,f1,g1,c1,x2,e2,i2,j2,f2,g2,c2,r1,b,e,q⟩:=h;exact ⟨x1,e1,i1,j1,f1,g1,c1,x2,e2,i2,j2,f2,g2,c2,r1,b,e,m _ _ q⟩
 ·rintro σ H2 ⟨x2,x3,x4,x5,rfl,h2,k2⟩;refine ⟨_,rfl,?_⟩;refine q p H2 hp (fun b o e=>k2 b o (zac e hp) e) ?_;rw[h2,yas (by rw[za5];exact yaa _)]
theorem zcY {n d i:Nat}:HT.sIx n d (some (i:Int))=min i n:=by
 unfold HT.sIx;simp
 try omega
theorem zie (xs:List V)(a b:Nat):cutV xs (some (a:Int)) (some (b:Int))=(xs.drop a).take (b - a):=by
 unfold cutV;rw[zcY,zcY];by_cases h:a≤xs.length
 ·rw[ybz h];by_cases h2:b≤xs.length
  ·rw[ybz h2]
  ·rw[ycq (by omega),yas (by rw[yaR];exact yaa _),yas (by rw[yaR];omega)]
 ·rw[ycq (show xs.length≤a by omega),yaZ (yaa _),yaZ (show xs.length≤a by omega)];simp
theorem zgW {α:Type}(xs:List α)(k:Nat):(xs.drop k).take 1=xs[k]?.toList:=by
 by_cases h:k < xs.length
 ·rw[ybW h,yac h];rfl
 ·rw[yaZ (by omega),yaP (by omega)];rfl
theorem zja {xs:List V}{k:Nat}{i j:Int}(hi:i=if (k:Int) - 1 > 0 then (k:Int) - 1 else 0)(hj:j=(k:Int)):cutV xs (some i) (some j)=(if k=0 then none else xs[k - 1]?).toList:=by
 subst hj;have e:i=((k - 1:Nat):Int):=by
  rw[hi];split <;> omega
 subst e;rw[zie];split
 ·rename_i h;subst h;simp
 ·rw[show k - (k - 1)=1 by omega,zgW]
theorem zhj {xs:List V}{k:Nat}{i j:Int}(hi:i=(k:Int)+1)(hj:j=(k:Int)+2):cutV xs (some i) (some j)=xs[k+1]?.toList:=by
 subst hi hj;rw[show (k:Int)+1=((k+1:Nat):Int) by omega,show (k:Int)+2=((k+2:Nat):Int) by omega,zie,show k+2 - (k+1)=1 by omega,zgW]
theorem zgI (xs:List Nat)(k:Nat):(if k=0 then none else (xs.map nV)[k - 1]?).toList++(xs.map nV)[k+1]?.toList=(zaJ xs k).map nV:=by
 unfold zaJ;rw[yat,yar,yar];congr 1
 ·split
  ·rfl
  ·cases xs[k - 1]? <;> rfl
 ·cases xs[k+1]? <;> rfl
theorem zgT (xs:List Nat)(k:Nat):(zaJ xs k).length≤2:=by
 have e:∀ o:Option Nat,o.toList.length≤1:=fun o=>by cases o <;> simp
 unfold zaJ;rw[yap];have:=e (if k=0 then none else xs[k - 1]?)
 have:=e xs[k+1]?;omega
theorem But.new {p b:Addr}{H H2:Hp}(k:But p H H2)(hb:H2 b=none)(o:HO):But p H (upd H2 b o):=fun x o' n e=>(zai hb o) x o' (k x o' n e)
theorem zpY {K:Frag}{i j:Nat}{σ:L2.St}{H2:Hp}{Q:VK}{a:Addr}{xs:List Nat}{k:Nat}{z:Int}(ez:z=(k:Int))(e1:σ[i]?=some (some (.ref a)))(e2:σ[j]?=some (some (.int z)))(h2a:H2 a=some (.lst (xs.map nV)))
  (q:∀ g H5,H2 g=none→Same H2 H5→H5 g=some (.lst ((zaJ xs k).map nV))→Q (.ref g) H5) :
  tOp rCat (tSl (rSlL K) (tVar i) (zmf (tCB (fun xs H Q=>∃ i j,xs=[V.int i,V.int j]∧Q (V.int (if j > i then j else i)) H) (zpW (tC (V.int 0)) (zpW (tOp (rI0 fun i j=>V.int (i - j)) (tVar j) (tC (V.int 1))) tNil)))) (zmf (tVar j)))
   (tSl (rSlL K) (tVar i) (zmf (tOp (rI0 fun i j=>V.int (i+j)) (tVar j) (tC (V.int 1)))) (zmf (tOp (rI0 fun i j=>V.int (i+j)) (tVar j) (tC (V.int 2))))) σ H2 Q:=by
 subst ez;refine ⟨_,e1,_,e2,_,_,rfl,rfl,_,_,rfl,_,rfl,_,e2,_,rfl,_,_,rfl,SqL.of h2a,fun b hb=>?_⟩;have kb:=zai hb (.lst (cutV (xs.map nV) (some (if (k:Int) - 1 > 0 then (k:Int) - 1 else 0)) (some (k:Int))))
 have hbb:upd H2 b (.lst (cutV (xs.map nV) (some (if (k:Int) - 1 > 0 then (k:Int) - 1 else 0)) (some (k:Int)))) b=some (.lst (if k=0 then none else (xs.map nV)[k - 1]?).toList):=by
  rw[zab,zja (k:=k) rfl rfl]
 generalize upd H2 b (.lst (cutV (xs.map nV) (some (if (k:Int) - 1 > 0 then (k:Int) - 1 else 0)) (some (k:Int))))=H3 at kb hbb ⊢
 refine ⟨_,e1,_,e2,_,_,rfl,rfl,_,rfl,_,e2,_,_,rfl,rfl,_,rfl,_,_,rfl,SqL.of (kb _ _ h2a),fun c hc=>?_⟩;have kc:=zai hc (.lst (cutV (xs.map nV) (some ((k:Int)+1)) (some ((k:Int)+2))));have hcb:=kc _ _ hbb;have hcc:upd H3 c (.lst (cutV (xs.map nV) (some ((k:Int)+1)) (some ((k:Int)+2)))) c=some (.lst (xs.map nV)[k+1]?.toList):=by
  rw[zab,zhj (k:=k) rfl rfl]
 generalize upd H3 c (.lst (cutV (xs.map nV) (some ((k:Int)+1)) (some ((k:Int)+2))))=H4 at kc hcb hcc ⊢;refine ⟨b,c,_,_,rfl,rfl,hcb,hcc,?_,fun g hg=>?_⟩
 ·rw[← yap,zgI,yab];exact yao (zgT _ _) (by decide)
 rw[zgI];exact q g _ (kb.free (kc.free hg)) (kb.trans (kc.trans (zai hg _))) zab
def zey (K:Frag):Sp:=fun vs H Q _=>∃(a:Addr) (xs:List Nat),vs=[.ref a]∧SqL K H a (xs.map nV)∧Unl xs∧zdU 6 xs∧xs.length≤1000∧
 ∀(p:Addr) (H':Hp),H p=none→Same H H'→H' p=some (.lst ((colL xs).map nV))→Q (.ref p) H'
def zbH (es:List (Int×Int)):List Bool:=zhb (colL (zcy 5 (zb0 es)))
theorem zeZ (es:List (Int×Int)):(zbH es).length=es.length:=by
 unfold zbH;rw[zh1,zes,zbn,zaE]
theorem zh7 {es:List (Int×Int)}(he:∀ e∈es,zfL 64 e)(hri:Rise es):Unl (zcy 5 (zb0 es)):=zcx (ze9 he hri) 5
theorem ziW {es:List (Int×Int)}(he:∀ e∈es,zfL 64 e)(hri:Rise es):zdU 6 (zcy 5 (zb0 es)):=zpP (ze9 he hri) (zj4 he)
def zhD (K:Frag):Sp:=fun vs H Q _=>∃(a:Addr) (ws:List V) (es:List (Int×Int)),vs=[.ref a]∧H a=some (.lst ws)∧zal K H es ws∧es.length≤1000∧(∀ e∈es,zfL 64 e)∧Rise es∧
 ∀(p:Addr) (H':Hp),H p=none→Same H H'→H' p=some (.lst ((zbH es).map V.bl))→Q (.ref p) H'
def zhE (K:Frag):Sp:=fun vs H Q _=>∃(a:Addr) (ws:List V) (es:List (Int×Int)),vs=[.ref a]∧H a=some (.lst ws)∧zal K H es ws∧es.length≤1000∧(∀ e∈es,zfL 64 e)∧Rise es∧
 ∀(p:Addr) (H':Hp),H p=none→Same H H'→H' p=some (.lst (zcf ws (zbH es)))→Q (.ref p) H'
theorem zfi {α:Type}(xs:List α)(m j:Nat):(xs.drop m).take (j+1)=xs[m]?.toList++(xs.drop (m+1)).take j:=by
 by_cases h:m < xs.length
 ·rw[ybW h,yac h];rfl
 ·rw[yaZ (by omega),yaP (by omega),yaZ (by omega)];simp
theorem zc4 (o:Option Bool):o.toList.any id=o.getD false:=by
 cases o with
 | none=>rfl
 | some b=>cases b <;> rfl
theorem any3 (ms:List Bool){k:Nat}(h:1≤k):((ms.drop (k - 1)).take 3).any id=!zdP ms k:=by
 rw[zfi,zfi,zfi,ycr,ycr,ycr,zc4,zc4,zc4,show k - 1+1=k by omega,yb0];unfold zdP;rw[yae,yae,yae];generalize ms[k - 1]?.getD false=x;generalize ms[k]?.getD false=y;generalize ms[k+1]?.getD false=z;cases x <;> cases y <;> cases z <;> rfl
theorem zkY (ms:List Bool):inV (.bl true) (ms.map V.bl)=ms.any id:=by
 unfold inV
 induction ms with
 | nil=>rfl
 | cons m ms ih=>
  rw[yau,ybf,ih,ybf];cases m <;> rfl
theorem znw (ms:List Bool):(ms.map V.bl).all zfu=true:=by
 rw[yaU];intro x hx;obtain ⟨n,_,rfl⟩:=yaG.mp hx;rfl
theorem zqY {ms:List Bool}{k:Nat}{i j:Int}(h:1≤k)(hi:i=(k:Int) - 1)(hj:j=(k:Int)+2):cutV (ms.map V.bl) (some i) (some j)=((ms.drop (k - 1)).take 3).map V.bl:=by
 subst hi hj;rw[show (k:Int) - 1=((k - 1:Nat):Int) by omega,show (k:Int)+2=((k+2:Nat):Int) by omega,zie,show k+2 - (k - 1)=3 by omega,ybC,List.map_drop]
theorem zi0 {α:Type}{as:List α}{bs:List Bool}{a:α}{b:Bool}(h:as.length=bs.length):zcf (as++[a]) (bs++[b])=zcf as bs++(if b=true then [a] else []):=by
 unfold zcf;rw[List.zip_append h,ybh,yat];congr 1;cases b <;> rfl
theorem zgu {α:Type}(as:List α)(bs:List Bool):(zcf as bs).length≤as.length:=by
 unfold zcf;rw[yab];refine yao (ya3 _ _) ?_;rw[ycm];omega
theorem zf7 {α:Type}[Rep α]{K:Frag}{H:Hp}:∀{es:List α} {ws:List V} {ms:List Bool},zal K H es ws→zal K H (zcf es ms) (zcf ws ms)
 | _,_,_,.nil=>by
  unfold zcf;exact .nil
 | e::es,w::ws,[],.cons h t=>by
  unfold zcf;exact .nil
 | e::es,w::ws,m::ms,.cons h t=>by
  have:=zf7 (ms:=ms) t;unfold zcf at this ⊢;cases m with
  | false=>exact this
  | true=>exact .cons h this
theorem zb7 (bs:List Nat)(c:Nat):((List.range (c+1)).filter fun c=>!decide (c∈bs))=((List.range c).filter fun c=>!decide (c∈bs))++(if c∈bs then [] else [c]):=by
 rw[yb4,ybh];congr 1;by_cases h:c∈bs
 ·rw[if_pos h];simp[List.filter,h]
 ·rw[if_neg h];simp[List.filter,h]
theorem zb4 {H:Hp}{p t:Addr}{xs ys:List V}(h1:H p=some (.lst xs))(h2:H t=some (.tup ys)):p≠t:=fun z=>by
 rw[z,h2]at h1;cases h1
theorem zds {n k:Nat}(h:k < n):ixN n (k:Int)=some k:=by
 unfold ixN;simp;omega
def besV (xs:List V)(k:Nat):List V:=(if k=0 then none else xs[k - 1]?).toList++xs[k+1]?.toList
theorem zj5 (xs:List V)(k:Nat):(besV xs k).length≤2:=by
 have e:∀ o:Option V,o.toList.length≤1:=fun o=>by cases o <;> simp
 unfold besV;rw[yap];have:=e (if k=0 then none else xs[k - 1]?)
 have:=e xs[k+1]?;omega
def spNb (K:Frag):Sp:=fun vs H Q _=>∃(a:Addr) (xs:List V) (k:Nat),vs=[.ref a,.int k]∧H a=some (.lst xs)∧
 ∀(g:Addr) (H':Hp),H g=none→Same H H'→H' g=some (.lst (besV xs k))→Q (.ref g) H'
theorem zhX (T:Txt K mg)(D_neighbours:DF K mg "neighbours" zcO zbN):FC P w K mg base 1 "neighbours" zbN (spNb K):=by
 refine D_neighbours.ok sc_neighbours (fun vs H Q E h=>?_) (fun f cdv A outer s H vs Q E hr h=>?_)
 ·obtain ⟨a,xs,k,rfl,_⟩:=h;rfl
 obtain ⟨a,xs,k,rfl,ha,q⟩:=h;refine ⟨_,(zae (zau (zaw zmP (zbR zgg (pv 0) (zbv (zam (zgH rfl) rfl T.m_max boot_max (zaa (zaw zcb (pv 1) zaf) (zaa zaf zad)))) (zbv (pv 1))) (zbR zgg (pv 0) (zbv (zaw za7 (pv 1) zaf)) (zbv (zaw za7 (pv 1) zaf)))))),?_⟩;refine ⟨_,rfl,_,rfl,_,_,rfl,rfl,_,_,rfl,_,rfl,_,rfl,_,rfl,_,_,rfl,SqL.of ha,fun b hb=>?_⟩;have kb:=zai hb (.lst (cutV xs (some (if 0 > (k:Int) - 1 then 0 else (k:Int) - 1)) (some (k:Int))))
 have hbb:upd H b (.lst (cutV xs (some (if 0 > (k:Int) - 1 then 0 else (k:Int) - 1)) (some (k:Int)))) b=some (.lst (if k=0 then none else xs[k - 1]?).toList):=by
  rw[zab,zja (k:=k) (by split <;> split <;> omega) rfl]
 generalize upd H b (.lst (cutV xs (some (if 0 > (k:Int) - 1 then 0 else (k:Int) - 1)) (some (k:Int))))=H3 at kb hbb ⊢
 refine ⟨_,rfl,_,rfl,_,_,rfl,rfl,_,rfl,_,rfl,_,_,rfl,rfl,_,rfl,_,_,rfl,SqL.of (kb _ _ ha),fun c hc=>?_⟩;have kc:=zai hc (.lst (cutV xs (some ((k:Int)+1)) (some ((k:Int)+2))));have hcb:=kc _ _ hbb;have hcc:upd H3 c (.lst (cutV xs (some ((k:Int)+1)) (some ((k:Int)+2)))) c=some (.lst xs[k+1]?.toList):=by
  rw[zab,zhj (k:=k) rfl rfl]
 generalize upd H3 c (.lst (cutV xs (some ((k:Int)+1)) (some ((k:Int)+2))))=H4 at kc hcb hcc ⊢;refine ⟨b,c,_,_,rfl,rfl,hcb,hcc,?_,fun g hg=>?_⟩
 ·rw[← yap];exact yao (zj5 xs k) (by decide)
 exact q g _ (kb.free (kc.free hg)) (kb.trans (kc.trans (zai hg _))) zab
def zpw (K:Frag):Sp:=fun vs H Q _=>∃(a:Addr) (xs:List Nat) (k:Nat),vs=[.ref a]∧H a=some (.lst ((zaJ xs k).map nV))∧
 ∀ H':Hp,Same H H'→Q (.int (zcH xs k:Nat)) H'
theorem zhY (T:Txt K mg)(D_least_free:DF K mg "least_free" zcP zcn):FC P w K mg base 1 "least_free" zcn (zpw K):=by
 refine D_least_free.ok sc_least_free (fun vs H Q E h=>?_) (fun f cdv A outer s H vs Q E hr h=>?_)
 ·obtain ⟨a,xs,k,rfl,_⟩:=h;rfl
 obtain ⟨a,xs,k,rfl,ha,q⟩:=h;refine ⟨_,(zae (zau (zam (znM rfl) rfl T.m_min boot_min (zaa (zbS (N:=["colour","taken"]) (own:=1) (cap:=[0]) rfl (zdF (za6 (zaa zaf (zaa zaf (zaa zaf zad))))) ⟨rfl,rfl,rfl,rfl,rfl,rfl⟩ (fun _ _ _ _ _=>(zar (i:=0) (show List.Nodup (["colour","taken"]:List Str) by decide +kernel) rfl (Or.inl rfl))) (fun _ _ _ _ _=>(zcC (zav (zeX (K:=K)) (pv 0) (pv 1) (by with_unfolding_all rfl)))) (fun _ _ _ _ _=>(pv 0))) zad)))),?_⟩
 refine ⟨(by show 3≤sizeLine;decide),fun t ht=>?_⟩;have st:=zai ht (.tup [V.int 0,V.int 1,V.int 2]);have ht1:upd H t (.tup [V.int 0,V.int 1,V.int 2]) t=some (.tup [V.int 0,V.int 1,V.int 2]):=zab;generalize upd H t (.tup [V.int 0,V.int 1,V.int 2])=H1 at st ht1 ⊢;have h1a:=st _ _ ha;refine ⟨t,rfl,⟨_,SqT.of ht1⟩,fun D hD=>?_⟩;refine zdv (xs:=[V.int 0,V.int 1,V.int 2]) (fun c σ H6=>∃ x0:Option V,σ=[x0,some (.ref a)]∧H6 D=some (.lst (((List.range c).filter fun c=>!decide (c∈zaJ xs k)).map nV))∧But D H1 H6) ?_ ?_ ?_ ?_
 ·exact ⟨_,rfl,zab,fun b o n e=>by rw[zag n];exact e⟩
 ·rintro i σ H6 _ ⟨x0,rfl,_,k6⟩;exact SqT.of (k6 _ _ (zac ht1 hD) ht1)
 ·rintro c m x σ H6 hx hm ⟨x0,rfl,h6,k6⟩;obtain ⟨hi,rfl⟩:c < 3∧x=V.int (c:Int):=by
   rcases c with _ | _ | _ | c
   ·exact ⟨by decide,(yad hx).symm⟩
   ·exact ⟨by decide,(yad hx).symm⟩
   ·exact ⟨by decide,(yad hx).symm⟩
   ·cases hx
  have h6g:=k6 _ _ (zac h1a hD) h1a;have hlen:=ya3 (fun c=>!decide (c∈zaJ xs k)) (List.range c);rw[ybb]at hlen;refine ⟨_,rfl,_,rfl,_,_,rfl,.inl (SqL.of h6g),rfl,zjY _,_,rfl,?_⟩;show if (!inV (.int (c:Int)) ((zaJ xs k).map nV))=true then _ else _
  rw[znm];have hm3:c+m=3:=hm;refine ite2 (fun e=>?_) (fun e=>?_)
  ·have e':c∉zaJ xs k:=fun z=>by
    rw[yag z]at e;cases e
   refine ⟨_,rfl,_,h6,zao (by rw[yab];omega),m - 1,by omega,(by show c+1+(m - 1)=3;omega),_,rfl,?_,fun b o n e=>by rw[zag n];exact k6 b o n e⟩;rw[zab,zb7,if_neg e',yat];rfl
  ·have e':c∈zaJ xs k:=Decidable.byContradiction fun z=>e (by rw[yah z];rfl);refine ⟨m - 1,by omega,(by show c+1+(m - 1)=3;omega),_,rfl,?_,k6⟩;rw[h6,zb7,if_pos e',yaz]
 ·rintro σ H6 ⟨x0,rfl,h6,k6⟩;have h6:H6 D=some (.lst (((List.range 3).filter fun c=>!decide (c∈zaJ xs k)).map nV)):=h6;have s6:Same H1 H6:=fun b o e=>k6 b o (zac e hD) e;have mem:∀ c,c∈((List.range 3).filter fun c=>!decide (c∈zaJ xs k))↔c < 3∧c∉zaJ xs k:=fun c=>by
   rw[ya7,ya8];constructor
   ·rintro ⟨h1,h2⟩;refine ⟨h1,fun z=>?_⟩;rw[yag z]at h2;cases h2
   ·rintro ⟨h1,h2⟩;exact ⟨h1,by rw[yah h2];rfl⟩
  have hf:zcH xs k∈((List.range 3).filter fun c=>!decide (c∈zaJ xs k)):=(mem _).mpr ⟨Nat.lt_succ_of_le (zi3 xs k),zhg⟩;refine ⟨D,((List.range 3).filter fun c=>!decide (c∈zaJ xs k)).map fun n:Nat=>(n:Int),rfl,?_,?_,fun M hM hL=>?_⟩
  ·rw[ybA];exact SqL.of h6
  ·rw[yab];exact List.length_pos_of_mem hf
  have eM:M=(zcH xs k:Int):=by
   have h1:=hL _ (yaG.mpr ⟨_,hf,rfl⟩);obtain ⟨c,hc,rfl⟩:=yaG.mp hM;have h2:¬ c < zcH xs k:=fun z=>((mem c).mp hc).2 (zfH z);omega
  rw[eM];exact q _ (st.trans s6)
theorem zqZ (xs:List Nat)(k:Nat):besV (xs.map nV) k=(zaJ xs k).map nV:=zgI xs k
theorem zlx (T:Txt K mg)(D_colours:DF K mg "colours" zeG zec)(F_neighbours:FC P w K mg base 1 "neighbours" zbN (spNb K))(F_least_free:FC P w K mg base 1 "least_free" zcn (zpw K)):FC P w K mg base 3 "colours" zec (zey K):=by
 refine D_colours.ok sc_colours (fun vs H Q E h=>?_) (fun f cdv A outer s H vs Q E hr h=>?_)
 ·obtain ⟨a,xs,rfl,_⟩:=h;rfl
 obtain ⟨a,xs,rfl,hS,hu,hb,hz,q⟩:=h;refine ⟨_,(zah (zas (i:=1) sc_colours.nd rfl (Or.inl rfl) (zaT zcX rfl T.m_list boot_list (zaa (pv 0) zad)))
   (zah (za2 PassesOwn.never rfl (zdF (za6 (zaa zaf (zaa zaf (zaa zaf zad))))) (zar (i:=2) sc_colours.nd rfl (Or.inl rfl)) (zae (za2 PassesOwn.never rfl (zaY rfl T.m_range (zaa (zam zan rfl T.m_len boot_len (zaa (pv 0) zad)) zad)) (zar (i:=3) sc_colours.nd rfl (Or.inl rfl)) (zae (zaW (zav zfr (zaD zaI (pv 1) (pv 3) (fun _ _=>rfl)) (pv 2) (zaH _)) (zae (zdx (zaA F_least_free hr (zaa (zaA F_neighbours hr (zaa (pv 1) (zaa (pv 3) zad))) zad)) (zeU (pv 1) (pv 3) zck))) zax)))))
   (zae (zau (pv 1))))),?_⟩
 refine ⟨_,rfl,a,_,rfl,.inl hS,fun p hp=>?_⟩;have k0:But p H (upd H p (.lst (xs.map nV))):=fun b o n e=>by rw[zag n];exact e
 refine ⟨(by show 3≤sizeLine;decide),fun t ht=>?_⟩;have npt:p≠t:=zac zab ht;refine ⟨t,rfl,⟨_,SqT.of zab⟩,?_⟩;refine zgx (xs:=[V.int 3,V.int 4,V.int 5]) (fun i σ H2=>∃ x2 x3:Option V,σ=[some (.ref a),some (.ref p),x2,x3]∧H2 p=some (.lst ((colN xs i).map nV))∧H2 t=some (.tup [V.int 3,V.int 4,V.int 5])∧But p H H2) ?_ ?_ ?_ ?_
 ·exact ⟨_,_,rfl,by rw[zag npt];exact zab,zab,k0.new ht _⟩
 ·rintro i σ H2 _ ⟨x2,x3,rfl,_,h2t,_⟩;exact SqT.of h2t
 ·rintro i x σ H2 hx ⟨x2,x3,rfl,h2,h2t,k2⟩;obtain ⟨hi,rfl⟩:i < 3∧x=V.int ((3+i:Nat):Int):=by
   rcases i with _ | _ | _ | i
   ·exact ⟨by decide,(yad hx).symm⟩
   ·exact ⟨by decide,(yad hx).symm⟩
   ·exact ⟨by decide,(yad hx).symm⟩
   ·cases hx
  have hyl:=zgD xs i;have hyu:=zk4 hu i;have hnx:colN xs (i+1)=recL (3+i) (colN xs i):=rfl;rw[hnx];generalize colN xs i=ys at h2 hyl hyu ⊢;generalize 3+i=v;have hSa:SqL K H2 a (xs.map nV):=k2.sq hS hp;refine ⟨_,rfl,_,_,rfl,.inl hSa,_,rfl,by rw[yab];omega,by rw[yab];omega,?_⟩;have el:((((xs.map nV).length:Nat):Int)).toNat=ys.length:=by rw[yab,ya5,hyl]
  rw[el];refine za0 (n:=ys.length) (fun k σ H3=>∃ x3:Option V,σ=[some (.ref a),some (.ref p),some (.int v),x3]∧H3 p=some (.lst ((mixL v ys k).map nV))∧H3 t=some (.tup [V.int 3,V.int 4,V.int 5])∧But p H H3) ?_ ?_ ?_
  ·exact ⟨_,rfl,h2,h2t,k2⟩
  ·rintro k σ H3 hk ⟨x3,rfl,h3,h3t,k3⟩;rw[ybe];have ml:=zeq v ys k;have eg:(mixL v ys k).getD k 0=ys.getD k 0:=by
    rw[yae,zm7 (yaa k),← yae]
   have hat:atI ((mixL v ys k).map nV) (k:Int)=some (nV (ys.getD k 0)):=by
    rw[← eg];exact zgL (by omega)
   refine ⟨_,rfl,_,rfl,_,_,_,_,rfl,rfl,SqL.of h3,hat,_,rfl,rfl,_,rfl,?_⟩;refine ite2 (fun c=>?_) (fun c=>?_)
   ·have c':ys.getD k 0=v:=by
     have:=V.int.inj (yaH c);omega
    refine ⟨_,rfl,_,rfl,p,_,k,rfl,h3,fun g H4 hg s4 h4=>?_⟩;rw[zqZ,zgm hyu hk c']at h4;refine ⟨g,ys,k,rfl,h4,fun H5 s5=>?_⟩;have s35:=s4.trans s5;have same:∀ b o,b≠p→H3 b=some o→upd H5 p (.lst (((mixL v ys k).map nV).set k (nV (zcH ys k)))) b=some o:=fun b o n e=>by
     rw[zag n];exact s35 _ _ e
    refine ⟨_,rfl,_,rfl,_,_,_,k,rfl,rfl,s35 _ _ h3,zds (by rw[yab,ml];exact hk),?_⟩;refine ⟨_,rfl,?_,same _ _ (Ne.symm (zb4 h3 h3t)) h3t,fun b o n e=>same _ _ n (k3 b o n e)⟩;rw[zab,zkM hk c',ybD]
   ·have c':ys.getD k 0≠v:=fun z=>c (by rw[z];exact yag rfl);exact ⟨_,rfl,by rw[ziS hk c'];exact h3,h3t,k3⟩
  ·rintro σ H3 ⟨x3,rfl,h3,h3t,k3⟩;rw[zkN (yaa _)]at h3;exact ⟨_,_,rfl,h3,h3t,k3⟩
 ·rintro σ H2 ⟨x2,x3,rfl,h2,_,k2⟩;refine ⟨_,rfl,?_⟩;exact q p H2 hp (fun b o e=>k2 b o (zac e hp) e) h2
def zdQ (ms:List Bool)(k:Nat):Bool:=!ms.getD (k - 1) false && !ms.getD (k+1) false
def besB (ms:List Bool)(k:Nat):List Bool:=(if k=0 then none else ms[k - 1]?).toList++ms[k+1]?.toList
theorem zq4 (ms:List Bool)(k:Nat):besV (ms.map V.bl) k=(besB ms k).map V.bl:=by
 unfold besV besB;rw[yat,yar,yar];congr 1
 ·split
  ·rfl
  ·cases ms[k - 1]? <;> rfl
 ·cases ms[k+1]? <;> rfl
theorem zpd {ms:List Bool}{k:Nat}(h:1≤k):(besB ms k).any id=!zdQ ms k:=by
 unfold besB zdQ;rw[if_neg (by omega),ycr,zc4,zc4,yae,yae];generalize ms[k - 1]?.getD false=x;generalize ms[k+1]?.getD false=z;cases x <;> cases z <;> rfl
theorem zjJ {sh:Nat}{cs:List Nat}{ms:List Bool}(hu:Unl cs)(hl:cs.length=ms.length){k:Nat}(h:k < cs.length)(h1:1≤k)(hs:cs.getD k 0=sh):zdQ (mixM sh cs ms k) k=zdQ ms k:=by
 unfold zdQ;have e:∀ j,k≤j→(mixM sh cs ms k).getD j false=ms.getD j false:=fun j hj=>by
  rw[yae,yae,zbE hl,if_neg (by omega)]
 rw[e (k+1) (by omega)];have e2:(mixM sh cs ms k).getD (k - 1) false=ms.getD (k - 1) false:=by
  rw[yae,zbE hl,if_pos (by omega),zcv hl (by omega)];have:=hu (k - 1) (by omega);rw[show k - 1+1=k by omega,hs]at this;rw[yah this];simp
 rw[e2]
theorem zg8 {sh:Nat}{cs:List Nat}{ms:List Bool}(hl:cs.length=ms.length){k:Nat}(h:k < cs.length)(hn:¬ (cs.getD k 0=sh∧zdQ ms k=true)):mixM sh cs ms (k+1)=mixM sh cs ms k:=by
 apply yba;intro j;rw[zbE hl,zbE hl];by_cases c:j < k
 ·rw[if_pos c,if_pos (by omega)]
 ·rw[if_neg c];split
  ·have:j=k:=by omega
   subst this;rw[zcv hl h];unfold zdQ at hn;rw[yac (by omega)];have e:ms.getD j false=ms[j]'(by omega):=by
    rw[yae,yac (by omega)];rfl
   rw[e];congr 1;generalize ms[j]=a;generalize ms.getD (j - 1) false=b at hn ⊢;generalize ms.getD (j+1) false=d at hn ⊢;by_cases z:cs.getD j 0=sh
   ·have hn':¬ ((!b && !d)=true):=fun y=>hn ⟨z,y⟩;cases b with
    | true=>simp
    | false=>
     cases d with
     | true=>simp
     | false=>exact absurd rfl hn'
   ·rw[yah z];simp
  ·rfl
theorem zm5 {sh:Nat}{cs:List Nat}{ms:List Bool}(hl:cs.length=ms.length){k:Nat}(h:k < cs.length)(hp:1≤k∧cs.getD k 0=sh∧zdQ ms k=true):mixM sh cs ms (k+1)=(mixM sh cs ms k).set k true:=by
 apply yba;intro j;rw[ybt,zdo hl,zbE hl,zbE hl];by_cases c:k=j
 ·subst c;rw[if_pos rfl,if_pos h,if_pos (by omega),zcv hl h];obtain ⟨p1,p2,p3⟩:=hp;unfold zdQ at p3;simp only[ybk,ybJ]at p3;rw[p2,p3.1,p3.2,yag p1];simp
 ·rw[if_neg c];by_cases c2:j < k
  ·rw[if_pos c2,if_pos (by omega)]
  ·rw[if_neg c2,if_neg (by omega)]
theorem zox (T:Txt K mg)(D_marks:DF K mg "marks" zhI zf2)(F_labels:FC P w K mg base 3 "labels" zeO (zkr K))(F_colours:FC P w K mg base 3 "colours" zec (zey K))(F_neighbours:FC P w K mg base 1 "neighbours" zbN (spNb K)):FC P w K mg base 5 "marks" zf2 (zhD K):=by
 refine D_marks.ok sc_marks (fun vs H Q E h=>?_) (fun f cdv A outer s H vs Q E hr h=>?_)
 ·obtain ⟨a,ws,es,rfl,_⟩:=h;rfl
 obtain ⟨a,ws,es,rfl,ha,hw,hz,he,hri,q⟩:=h;refine ⟨_,(zah (zas (i:=1) sc_marks.nd rfl (Or.inl rfl) (zaA F_colours hr (zaa (zaA F_labels hr (zaa (pv 0) zad)) zad)))
   (zah (zen (i:=2) (N:=["tint"]) (own:=1) (cap:=[]) sc_marks.nd rfl rfl rfl (zbQ (pv 1)) ⟨rfl,rfl,rfl,rfl,rfl,rfl⟩ (fun _ _ _ _ _=>(zar (i:=0) (show List.Nodup (["tint"]:List Str) by decide +kernel) rfl (Or.inl rfl))) (fun _ _ _ _ _=>zcD) (fun _ _ _ _ _=>zcZ))
   (zah (za2 PassesOwn.never rfl (zdF (za6 (zaa zaf (zaa zaf (zaa zaf zad))))) (zar (i:=3) sc_marks.nd rfl (Or.inl rfl)) (zae (za2 PassesOwn.never rfl (zdG rfl T.m_range (zaa zaf (zaa (zam zan rfl T.m_len boot_len (zaa (pv 1) zad)) zad))) (zar (i:=4) sc_marks.nd rfl (Or.inl rfl)) (zae (zaW (PW.pt (zg1 (zav zfr (zaD zaI (pv 1) (pv 4) (fun _ _=>rfl)) (pv 3) (zaH _)) (zfn (zav zcc zcZ (zaA F_neighbours hr (zaa (pv 2) (zaa (pv 4) zad))) (by with_unfolding_all rfl))))) (zae (zdx zcZ (zeU (pv 2) (pv 4) zck))) zax)))))
   (zae (zau (pv 2)))))),?_⟩
 refine ⟨_,rfl,a,ws,es,rfl,SqL.of ha,hw,hz,he,hri,fun p H3 hp s3 h3=>?_⟩;refine ⟨p,_,rfl,SqL.of h3,zh7 he hri,ziW he hri,by rw[zbn,zaE];exact hz,fun c H4 hc s4 h4=>?_⟩;have cu:Unl (colL (zcy 5 (zb0 es))):=zl5 (zk5 (unlZ (zh7 he hri)));have cl:(colL (zcy 5 (zb0 es))).length=es.length:=by rw[zes,zbn,zaE]
 have fin:zbH es=mkN (colL (zcy 5 (zb0 es))) 3:=(ziR _).symm;generalize colL (zcy 5 (zb0 es))=cs at h4 cu cl fin;have s04:=s3.trans s4;refine ⟨_,rfl,c,rfl,⟨_,SqL.of h4⟩,fun F hF=>?_⟩;refine zbX (xs:=cs.map nV) (fun i σ H5=>∃ x0:Option V,σ=[x0]∧H5 F=some (.lst ((List.replicate i false).map V.bl))∧But F H4 H5) ?_ ?_ ?_ ?_
 ·exact ⟨_,rfl,zab,fun b o n e=>by rw[zag n];exact e⟩
 ·rintro i σ H5 _ ⟨x0,rfl,_,k5⟩;exact k5.sq (SqL.of h4) hF
 ·rintro i m x σ H5 hx hm ⟨x0,rfl,h5,k5⟩;have hi:=(yak.mp hx).1;rw[yab]at hi hm;refine zdz ?_;refine ⟨_,h5,zao (by rw[yab,ya9];omega),m - 1,by omega,by rw[yab];omega,_,rfl,?_,fun b o n e=>by rw[zag n];exact k5 b o n e⟩;rw[zab,List.replicate_succ',yat];rfl
 rintro σ H5 ⟨x0,rfl,h5,k5⟩;have s45:Same H4 H5:=fun b o e=>k5 b o (zac e hF) e;have h5c:=s45 _ _ h4;have nFc:c≠F:=zac h4 hF;have hF0:H F=none:=s04.free hF;have k05:But F H H5:=fun b o _ e=>s45 _ _ (s04 _ _ e);have e5:H5 F=some (.lst ((mkN cs 0).map V.bl)):=by
  rw[h5,mkN,yab,show List.replicate cs.length false=cs.map (fun _=>false) from by rw[List.map_const']]
 refine ⟨(by show 3≤sizeLine;decide),fun t ht=>?_⟩;have st:=zai ht (.tup [V.int 2,V.int 1,V.int 0]);refine ⟨t,rfl,⟨_,SqT.of zab⟩,?_⟩;refine zgx (xs:=[V.int 2,V.int 1,V.int 0]) (fun i σ H6=>∃(x3 x4:Option V),σ=[some (.ref a),some (.ref c),some (.ref F),x3,x4]∧H6 F=some (.lst ((mkN cs i).map V.bl))∧H6 c=some (.lst (cs.map nV))∧H6 t=some (.tup [V.int 2,V.int 1,V.int 0])∧But F H H6) ?_ ?_ ?_ ?_
 ·exact ⟨_,_,rfl,st _ _ e5,st _ _ h5c,zab,k05.new ht _⟩
 ·rintro i σ H6 _ ⟨x3,x4,rfl,_,_,h6t,_⟩;exact SqT.of h6t
 ·rintro i x σ H6 hx ⟨x3,x4,rfl,h6,h6c,h6t,k6⟩;obtain ⟨hi,rfl⟩:i < 3∧x=V.int ((2 - i:Nat):Int):=by
   rcases i with _ | _ | _ | i
   ·exact ⟨by decide,(yad hx).symm⟩
   ·exact ⟨by decide,(yad hx).symm⟩
   ·exact ⟨by decide,(yad hx).symm⟩
   ·cases hx
  have hml:=zg7 cs i;have hnx:mkN cs (i+1)=zcg (2 - i) cs (mkN cs i):=rfl;rw[hnx];generalize mkN cs i=ms at h6 hml ⊢;generalize 2 - i=sh;refine ⟨_,rfl,_,_,rfl,.inl (SqL.of h6c),1,_,rfl,⟨by omega,by omega,by rw[yab];omega,by rw[yab];omega⟩,?_⟩;have en:((((cs.map nV).length:Nat):Int) - 1).toNat=cs.length - 1:=by rw[yab];omega
  rw[en];have km:∀ k,(mixM sh cs ms k).length=cs.length:=zdo hml;refine za0 (n:=cs.length - 1) (fun j σ H7=>∃(x4:Option V),σ=[some (.ref a),some (.ref c),some (.ref F),some (.int sh),x4]∧H7 F=some (.lst ((mixM sh cs ms (1+j)).map V.bl))∧H7 c=some (.lst (cs.map nV))∧H7 t=some (.tup [V.int 2,V.int 1,V.int 0])∧But F H H7) ?_ ?_ ?_
  ·exact ⟨_,rfl,by rw[zkK hml];exact h6,h6c,h6t,k6⟩
  ·rintro j σ H7 hj ⟨x4,rfl,h7,h7c,h7t,k7⟩;have ek:(1:Int)+(j:Int)=((1+j:Nat):Int):=by omega
   have hk1:1≤1+j:=by omega
   have hkl:1+j < cs.length:=by omega
   rw[ek];have es1:1+(j+1)=1+j+1:=by omega
   rw[es1];generalize 1+j=k at h7 hk1 hkl ⊢;have hat:=zgL (xs:=cs) hkl;have mc:cs.getD k 0=sh→zdQ (mixM sh cs ms k) k=zdQ ms k:=fun z=>zjJ cu hml hkl hk1 z;refine ⟨_,rfl,_,rfl,_,_,_,_,rfl,rfl,SqL.of h7c,hat,_,rfl,rfl,_,rfl,?_⟩;refine ite2 (fun e=>?_) (fun e=>?_)
   ·have e':cs.getD k 0=sh:=by
     have:=V.int.inj (yaH e);omega
    refine ⟨_,rfl,_,rfl,F,_,k,rfl,h7,fun b H8 hb sb hbb=>?_⟩;rw[zq4]at hbb;have kb:But F H H8:=fun x o n e=>sb _ _ (k7 x o n e);refine ⟨_,_,rfl,.inl (SqL.of hbb),rfl,znw _,_,rfl,?_⟩;show if (!inV (.bl true) ((besB (mixM sh cs ms k) k).map V.bl))=true then _ else _
    rw[zkY,zpd hk1,mc e',Bool.not_not];refine ite2 (fun y=>?_) (fun y=>?_)
    ·refine ⟨_,rfl,_,rfl,_,_,_,k,rfl,rfl,sb _ _ h7,zds (by rw[yab,km];exact hkl),?_⟩;have same:∀ b o,b≠F→H8 b=some o→upd H8 F (.lst (((mixM sh cs ms k).map V.bl).set k (.bl true))) b=some o:=fun b o n e=>by
      rw[zag n];exact e
     refine ⟨_,rfl,?_,same _ _ (fun z=>?_) (sb _ _ h7c),same _ _ (Ne.symm (zb4 (sb _ _ h7) (sb _ _ h7t))) (sb _ _ h7t),fun b o n e=>same _ _ n (kb b o n e)⟩
     ·rw[zab,zm5 hml hkl ⟨hk1,e',y⟩,ybD]
     ·exact nFc z
    ·exact ⟨_,rfl,by rw[zg8 hml hkl (fun z=>y z.2)];exact sb _ _ h7,sb _ _ h7c,sb _ _ h7t,kb⟩
   ·have e':cs.getD k 0≠sh:=fun z=>e (by rw[z];exact yag rfl);refine iteF ?_;exact ⟨_,rfl,by rw[zg8 hml hkl (fun z=>e' z.1)];exact h7,h7c,h7t,k7⟩
  ·rintro σ H7 ⟨x4,rfl,h7,h7c,h7t,k7⟩;rw[zkL hml (by omega)]at h7;exact ⟨_,_,rfl,h7,h7c,h7t,k7⟩
 ·rintro σ H6 ⟨x3,x4,rfl,h6,_,_,k6⟩;refine ⟨_,rfl,?_⟩;refine q F H6 hF0 (fun b o e=>k6 b o (zac e hF0) e) ?_;rw[fin];exact h6
theorem zoY {α:Type}:zcf ([]:List α) []=[]:=rfl
theorem zsh {ms:List Bool}{i:Nat}{x:V}(h:(ms.map V.bl)[i]?=some x):∃ hi:i < ms.length,x=.bl ms[i]:=by
 rw[yar]at h;cases e:ms[i]? with
 | none=>rw[e]at h;cases h
 | some y=>
  rw[e]at h;obtain ⟨hi,rfl⟩:=yak.mp e;exact ⟨hi,(yad h).symm⟩
theorem zix {α:Type}{l:List α}{i:Nat}(h:i < l.length):l.take (i+1)=l.take i++[l[i]]:=yaQ h
theorem zmY (T:Txt K mg)(D_handed:DF K mg "handed" zfY zdE)(F_marks:FC P w K mg base 5 "marks" zf2 (zhD K)):FC P w K mg base 6 "handed" zdE (zhE K):=by
 refine D_handed.ok sc_handed (fun vs H Q E h=>?_) (fun f cdv A outer s H vs Q E hr h=>?_)
 ·obtain ⟨a,ws,es,rfl,_⟩:=h;rfl
 obtain ⟨a,ws,es,rfl,ha,hw,hz,he,hri,q⟩:=h;have hwl:=hw.length;have hml:=zeZ es;refine ⟨_,(zae (zau (zbS (N:=["entry","mark"]) (own:=2) (cap:=[]) rfl (zpB rfl T.m_zip (zaa (pv 0) (zaa (zaA F_marks hr (zaa (pv 0) zad)) zad))) ⟨rfl,rfl,rfl,rfl,rfl,rfl⟩ (fun _ _ _ _ _=>(zqc (K:=K) (n:=2) rfl (zbt (zar (i:=0) (show List.Nodup (["entry","mark"]:List Str) by decide +kernel) rfl (Or.inl rfl)) (zbt (zar (i:=1) (show List.Nodup (["entry","mark"]:List Str) by decide +kernel) rfl (Or.inl rfl)) zfq)))) (fun _ _ _ _ _=>(zcC (zbe (pv 1)))) (fun _ _ _ _ _=>(pv 0))))),?_⟩;refine ⟨_,rfl,_,rfl,a,ws,es,rfl,ha,hw,hz,he,hri,fun u H6 hu g6 h6u=>?_⟩;have h6p:=g6 _ _ ha;generalize zbH es=ms at hml h6u q;refine ⟨a,u,rfl,⟨_,SqL.of h6p⟩,⟨_,SqL.of h6u⟩,fun D hD=>?_⟩;refine zo9 (xs:=ws) (ys:=ms.map V.bl) (by rw[yab,hml];exact hwl.symm) (fun j σ H7=>∃ x0 x1:Option V,σ=[x0,x1]∧H7 D=some (.lst (zcf (ws.take j) (ms.take j)))∧But D H6 H7) ?_ ?_ ?_ ?_
 ·exact ⟨_,_,rfl,by rw[yb0,yb0,zoY];exact zab,fun b o n e=>by rw[zag n];exact e⟩
 ·rintro j σ H7 _ ⟨x0,x1,rfl,_,k7⟩;exact ⟨k7.sq (SqL.of h6p) hD,k7.sq (SqL.of h6u) hD⟩
 ·rintro j m' x y σ H7 r' hx hy hm' ⟨x0,x1,rfl,h7,k7⟩ hr';obtain ⟨hj,rfl⟩:=zsh hy;obtain ⟨hjw,rfl⟩:=yak.mp hx;have hsn:=zi0 (a:=ws[j]) (b:=ms[j]) (show (ws.take j).length=(ms.take j).length by rw[yaq,yaq];omega);rw[← zix hjw,← zix hj]at hsn;refine ⟨r',_,rfl,SqT.of zab,rfl,_,_,rfl,_,_,rfl,rfl,?_⟩;have s7:=zai hr' (.tup [ws[j],.bl ms[j]]);have h8:=s7 _ _ h7;have k8:=k7.new hr' (.tup [ws[j],.bl ms[j]]);generalize upd H7 r' (.tup [ws[j],.bl ms[j]])=H8 at h8 k8 ⊢;refine ⟨_,rfl,_,rfl,?_⟩;have hl8:=zgu (ws.take j) (ms.take j);rw[yaq]at hl8;refine ite2 (fun e=>?_) (fun e=>?_)
  ·refine ⟨_,rfl,_,h8,zao (by omega),m' - 1,by omega,by omega,_,_,rfl,?_,fun b o n e=>by rw[zag n];exact k8 b o n e⟩;rw[zab,hsn,if_pos e]
  ·refine ⟨m' - 1,by omega,by omega,_,_,rfl,?_,k8⟩;rw[h8,hsn,if_neg e,yaz]
 ·rintro σ H7 ⟨x0,x1,rfl,h7,k7⟩;rw[yas (yaa _),yas (by omega)]at h7;have s7:Same H6 H7:=fun b o e=>k7 b o (zac e hD) e;exact q D H7 (g6.free hD) (g6.trans s7) h7
theorem zjj {v:Nat}{xs:List Nat}{k:Nat}:((List.range (k+1)).filter fun k=>decide (xs.getD k 0=v))=((List.range k).filter fun k=>decide (xs.getD k 0=v))++(if xs.getD k 0=v then [k] else []):=by
 rw[yb4,ybh];congr 1;by_cases h:xs.getD k 0=v
 ·rw[if_pos h,ybd (by exact yag h)];rfl
 ·rw[if_neg h,ybn (by rw[yah h];decide)];rfl
theorem zjH (T:Txt K mg)(D_l_colours:DF K mg "_law_colours" zdc zcS):FC P w K mg base 1 "_law_colours" zcS (zey K):=by
 refine D_l_colours.ok sc_l_colours (fun vs H Q E h=>?_) (fun f cdv A outer s H vs Q E hr h=>?_)
 ·obtain ⟨a,xs,rfl,_⟩:=h;rfl
 obtain ⟨a,xs,rfl,hS,hu,hb,hz,q⟩:=h;refine ⟨_,(zah (zas (i:=1) sc_l_colours.nd rfl (Or.inr rfl) (zaT zcX rfl T.m_list boot_list (zaa (pv 0) zad)))
   (zah (za2 PassesOwn.never rfl (zdF (za6 (zaa zaf (zaa zaf (zaa zaf zad))))) (zar (i:=2) sc_l_colours.nd rfl (Or.inr rfl)) (zah (zen (i:=3) (N:=["_law_k","_law_found","_law_high"]) (own:=1) (cap:=[1,2]) sc_l_colours.nd rfl rfl rfl (zaY rfl T.m_range (zaa (zam zan rfl T.m_len boot_len (zaa (pv 1) zad)) zad)) ⟨rfl,rfl,rfl,rfl,rfl,rfl⟩ (fun _ _ _ _ _=>(zar (i:=0) (show List.Nodup (["_law_k","_law_found","_law_high"]:List Str) by decide +kernel) rfl (Or.inl rfl))) (fun _ _ _ _ _=>(zcC (zav zfr (zaD (zoT (K:=K)) (pv 1) (pv 0) (fun _ _=>rfl)) (pv 2) (zaH _)))) (fun _ _ _ _ _=>(pv 0)))
   (zae (za2 PassesOwn.never rfl (zbQ (pv 3)) (zar (i:=4) sc_l_colours.nd rfl (Or.inl rfl)) (zah (zas (i:=5) sc_l_colours.nd rfl (Or.inr rfl) (zaw zmP (zbR zgg (pv 1) (zbv (zam (zgH rfl) rfl T.m_max boot_max (zaa zaf (zaa (zaw zcb (pv 4) zaf) zad)))) (zbv (pv 4))) (zbR zgg (pv 1) (zbv (zaw za7 (pv 4) zaf)) (zbv (zaw za7 (pv 4) zaf)))))
   (zae (zdx (zaD zaI (zbS (N:=["_law_colour","_law_beside"]) (own:=1) (cap:=[5]) rfl (zaY rfl T.m_range (zaa zaf zad)) ⟨rfl,rfl,rfl,rfl,rfl,rfl⟩ (fun _ _ _ _ _=>(zar (i:=0) (show List.Nodup (["_law_colour","_law_beside"]:List Str) by decide +kernel) rfl (Or.inl rfl))) (fun _ _ _ _ _=>(zcC (zav (zeX (K:=K)) (pv 0) (pv 1) (by with_unfolding_all rfl)))) (fun _ _ _ _ _=>(pv 0))) zaf (fun _ _=>rfl)) (zeU (pv 1) (pv 4) zck))))))))
   (zae (zau (pv 1))))),?_⟩
 refine ⟨_,rfl,a,_,rfl,.inl hS,fun p hp=>?_⟩;have k0:But p H (upd H p (.lst (xs.map nV))):=fun b o n e=>by rw[zag n];exact e
 refine ⟨(by show 3≤sizeLine;decide),fun t ht=>?_⟩;have npt:p≠t:=zac zab ht;refine ⟨t,rfl,⟨_,SqT.of zab⟩,?_⟩;refine zgx (xs:=[V.int 3,V.int 4,V.int 5]) (fun i σ H2=>∃ x2 x3 x4 x5:Option V,σ=[some (.ref a),some (.ref p),x2,x3,x4,x5]∧H2 p=some (.lst ((colN xs i).map nV))∧H2 t=some (.tup [V.int 3,V.int 4,V.int 5])∧But p H H2) ?_ ?_ ?_ ?_
 ·exact ⟨_,_,_,_,rfl,by rw[zag npt];exact zab,zab,k0.new ht _⟩
 ·rintro i σ H2 _ ⟨x2,x3,x4,x5,rfl,_,h2t,_⟩;exact SqT.of h2t
 ·rintro i x σ H2 hx ⟨x2,x3,x4,x5,rfl,h2,h2t,k2⟩;obtain ⟨hi,rfl⟩:i < 3∧x=V.int ((3+i:Nat):Int):=by
   rcases i with _ | _ | _ | i
   ·exact ⟨by decide,(yad hx).symm⟩
   ·exact ⟨by decide,(yad hx).symm⟩
   ·exact ⟨by decide,(yad hx).symm⟩
   ·cases hx
  have hyl:=zgD xs i;have hyu:=zk4 hu i;have hnx:colN xs (i+1)=recL (3+i) (colN xs i):=rfl;rw[hnx];generalize colN xs i=ys at h2 hyl hyu ⊢;generalize 3+i=v;refine ⟨_,rfl,_,_,rfl,.inl (SqL.of h2),_,rfl,by rw[yab];omega,by rw[yab];omega,fun D hD=>?_⟩;have el:((((ys.map nV).length:Nat):Int)).toNat=ys.length:=by rw[yab,ya5]
  rw[el];refine zc9 (n:=ys.length) (fun k σ H3=>∃ x0:Option V,σ=[x0,some (.ref p),some (.int v)]∧H3 D=some (.lst (((List.range k).filter fun k=>decide (ys.getD k 0=v)).map nV))∧But D H2 H3) ?_ ?_ ?_
  ·exact ⟨_,rfl,zab,fun b o n e=>by rw[zag n];exact e⟩
  ·rintro k m σ H3 hm hk ⟨x0,rfl,h3,k3⟩;have h3p:H3 p=some (.lst (ys.map nV)):=k3 _ _ (zac h2 hD) h2;have hat:atI (ys.map nV) (0+(k:Int))=some (nV (ys.getD k 0)):=by
    rw[ybe];exact zgL hk
   have hlen:=ya3 (fun k=>decide (ys.getD k 0=v)) (List.range k);rw[ybb]at hlen;refine ⟨_,rfl,_,rfl,_,_,_,_,rfl,rfl,SqL.of h3p,hat,_,rfl,rfl,_,rfl,?_⟩;refine ite2 (fun c=>?_) (fun c=>?_)
   ·have c':ys.getD k 0=v:=by
     have:=V.int.inj (yaH c);omega
    refine ⟨_,rfl,_,h3,zao (by rw[yab];omega),m - 1,by omega,by omega,_,rfl,?_,fun b o n e=>by rw[zag n];exact k3 b o n e⟩;rw[zab,zjj,if_pos c',yat,ybe];rfl
   ·have c':ys.getD k 0≠v:=fun z=>c (by rw[z];exact yag rfl);refine ⟨m - 1,by omega,by omega,_,rfl,?_,k3⟩;rw[h3,zjj,if_neg c',yaz]
  ·rintro σ H3 ⟨x0,rfl,h3,k3⟩;have h3:H3 D=some (.lst ((atsL v ys).map nV)):=h3;have h3p:H3 p=some (.lst (ys.map nV)):=k3 _ _ (zac h2 hD) h2;have h3t:=k3 _ _ (zac h2t hD) h2t;have kk3:But p H H3:=fun b o n e=>k3 b o (zac (k2 b o n e) hD) (k2 b o n e);have npD:p≠D:=zac h2 hD;have A:=zgK v ys;refine ⟨_,rfl,D,rfl,⟨_,SqL.of h3⟩,?_⟩;refine ze6 (xs:=(atsL v ys).map nV) (fun j σ H4=>∃ x4 x5:Option V,σ=[some (.ref a),some (.ref p),some (.int v),some (.ref D),x4,x5]∧H4 p=some (.lst ((mixL v ys ((atsL v ys).getD j ys.length)).map nV))∧H4 D=some (.lst ((atsL v ys).map nV))∧H4 t=some (.tup [V.int 3,V.int 4,V.int 5])∧But p H H4) ?_ ?_ ?_ ?_
   ·exact ⟨_,_,rfl,by rw[zm4];exact h3p,h3,h3t,kk3⟩
   ·rintro j σ H4 _ ⟨x4,x5,rfl,_,h4D,_⟩;exact SqL.of h4D
   ·rintro j x σ H4 hx ⟨x4,x5,rfl,h4,h4D,h4t,k4⟩;obtain ⟨hj,rfl⟩:=zk2 hx;have eg:(atsL v ys).getD j 0=(atsL v ys)[j]:=by
     rw[yae,yac hj];rfl
    have eg2:(atsL v ys).getD j ys.length=(atsL v ys)[j]:=by
     rw[yae,yac hj];rfl
    obtain ⟨g1,g2⟩:=A.get hj;have nx:=zoL hj;rw[eg2]at h4;rw[eg];generalize (atsL v ys)[j]=k at h4 g1 g2 nx ⊢;have g2:ys.getD k 0=v:=yaH g2;have hb2:=zgm hyu g1 g2;have ml:=zeq v ys k;refine zpY (k:=k) rfl rfl rfl h4 fun g H5 hg s5 h5=>?_;rw[hb2]at h5;have h5p:=s5 _ _ h4;have npg:p≠g:=zac h4 hg;refine ⟨3,rfl,by decide,by decide,fun D2 hD2=>?_⟩;refine zc9 (n:=3) (fun c σ H6=>∃ x0:Option V,σ=[x0,some (.ref g)]∧H6 D2=some (.lst (((List.range c).filter fun c=>!decide (c∈zaJ ys k)).map nV))∧But D2 H5 H6) ?_ ?_ ?_
    ·exact ⟨_,rfl,zab,fun b o n e=>by rw[zag n];exact e⟩
    ·rintro c m σ H6 hm hc ⟨x0,rfl,h6,k6⟩;have h6g:=k6 _ _ (zac h5 hD2) h5;have hlen:=ya3 (fun c=>!decide (c∈zaJ ys k)) (List.range c);rw[ybb]at hlen;refine ⟨_,rfl,_,rfl,_,_,rfl,.inl (SqL.of h6g),rfl,zjY _,_,rfl,?_⟩;show if (!inV (.int (0+(c:Int))) ((zaJ ys k).map nV))=true then _ else _
     rw[ybe,znm];refine ite2 (fun e=>?_) (fun e=>?_)
     ·have e':c∉zaJ ys k:=fun z=>by
       rw[yag z]at e;cases e
      refine ⟨_,rfl,_,h6,zao (by rw[yab];omega),m - 1,by omega,by omega,_,rfl,?_,fun b o n e=>by rw[zag n];exact k6 b o n e⟩;rw[zab,zb7,if_neg e',yat];rfl
     ·have e':c∈zaJ ys k:=Decidable.byContradiction fun z=>e (by rw[yah z];rfl);refine ⟨m - 1,by omega,by omega,_,rfl,?_,k6⟩;rw[h6,zb7,if_pos e',yaz]
    ·rintro σ H6 ⟨x0,rfl,h6,k6⟩;have h6p:=k6 _ _ (zac h5p hD2) h5p;have hff:=zi4 (xs:=ys) (k:=k);have hat0:atI (((List.range 3).filter fun c=>!decide (c∈zaJ ys k)).map nV) 0=some (nV (zcH ys k)):=by
      rw[show (0:Int)=((0:Nat):Int) from rfl];refine zeu ?_;rw[yar,← List.head?_eq_getElem?,hff];rfl
     refine ⟨_,_,_,_,rfl,rfl,SqL.of h6,hat0,?_⟩;refine ⟨_,rfl,_,rfl,_,_,_,k,rfl,rfl,h6p,zds (by rw[yab,ml];exact g1),?_⟩;have same:∀ b o,b≠p→H4 b=some o→upd H6 p (.lst (((mixL v ys k).map nV).set k (nV (zcH ys k)))) b=some o:=fun b o n e=>by
      rw[zag n];exact k6 _ _ (zac (s5 _ _ e) hD2) (s5 _ _ e)
     refine ⟨_,_,rfl,?_,same _ _ (Ne.symm npD) h4D,same _ _ (Ne.symm (zb4 h4 h4t)) h4t,fun b o n e=>same _ _ n (k4 b o n e)⟩;rw[zab,nx,ybD]
   ·rintro σ H4 ⟨x4,x5,rfl,h4,h4D,h4t,k4⟩;rw[yab,zoM]at h4;exact ⟨_,_,_,_,rfl,h4,h4t,k4⟩
 ·rintro σ H2 ⟨x2,x3,x4,x5,rfl,h2,_,k2⟩;refine ⟨_,rfl,?_⟩;exact q p H2 hp (fun b o e=>k2 b o (zac e hp) e) h2
theorem zmU (T:Txt K mg)(D_l_marks:DF K mg "_law_marks" zeD zd9)(F_l_code:FC P w K mg base 1 "_law_code" zeT (zkv K))(F_l_turned:FC P w K mg base 1 "_law_turned" zdj (zfN K))(F_l_colours:FC P w K mg base 1 "_law_colours" zcS (zey K)):FC P w K mg base 2 "_law_marks" zd9 (zhD K):=by
 refine D_l_marks.ok sc_l_marks (fun vs H Q E h=>?_) (fun f cdv A outer s H vs Q E hr h=>?_)
 ·obtain ⟨a,ws,es,rfl,_⟩:=h;rfl
 obtain ⟨a,ws,es,rfl,ha,hw,hz,he,hri,q⟩:=h;have hlen:=hw.length;refine ⟨_,(zah (zen (i:=1) (N:=["_law_entry"]) (own:=1) (cap:=[]) sc_l_marks.nd rfl rfl rfl (zbQ (pv 0)) ⟨rfl,rfl,rfl,rfl,rfl,rfl⟩ (fun _ _ _ _ _=>(zar (i:=0) (show List.Nodup (["_law_entry"]:List Str) by decide +kernel) rfl (Or.inl rfl))) (fun _ _ _ _ _=>zcD) (fun _ _ _ _ _=>(zaA F_l_code hr (zaa (pv 0) zad))))
   (zah (za2 PassesOwn.never rfl (zaY rfl T.m_range (zaa zaf zad)) (zar (i:=2) sc_l_marks.nd rfl (Or.inl rfl)) (zae (zas (i:=1) sc_l_marks.nd rfl (Or.inl rfl) (zaA F_l_turned hr (zaa (pv 1) zad)))))
   (zah (zas (i:=3) sc_l_marks.nd rfl (Or.inl rfl) (zaA F_l_colours hr (zaa (pv 1) zad)))
   (zah (zen (i:=4) (N:=["_law_entry"]) (own:=1) (cap:=[]) sc_l_marks.nd rfl rfl rfl (zbQ (pv 0)) ⟨rfl,rfl,rfl,rfl,rfl,rfl⟩ (fun _ _ _ _ _=>(zar (i:=0) (show List.Nodup (["_law_entry"]:List Str) by decide +kernel) rfl (Or.inl rfl))) (fun _ _ _ _ _=>zcD) (fun _ _ _ _ _=>zcZ))
   (zah (za2 PassesOwn.never rfl (zdF (za6 (zaa zaf (zaa zaf (zaa zaf zad))))) (zar (i:=5) sc_l_marks.nd rfl (Or.inl rfl)) (zae (za2 PassesOwn.never rfl (zdG rfl T.m_range (zaa zaf (zaa (zam zan rfl T.m_len boot_len (zaa (pv 0) zad)) zad))) (zar (i:=2) sc_l_marks.nd rfl (Or.inl rfl)) (zae (zaW (PW.pt (zg1 (zav zfr (zaD zaI (pv 3) (pv 2) (fun _ _=>rfl)) (pv 5) (zaH _)) (zfn (zav zcc zcZ (zbR zgg (pv 4) (zbv (zaw zcb (pv 2) zaf)) (zbv (zaw za7 (pv 2) zaf))) (by with_unfolding_all rfl))))) (zae (zdx zcZ (zeU (pv 4) (pv 2) zck))) zax)))))
   (zae (zau (pv 4)))))))),?_⟩
 refine ⟨_,rfl,a,rfl,⟨_,SqL.of ha⟩,fun D hD=>?_⟩;have k0:But D H (upd H D (.lst [])):=fun b o n e=>by rw[zag n];exact e
 refine zbX (xs:=ws) (fun i σ H2=>∃ x0:Option V,σ=[x0]∧H2 D=some (.lst (((zb0 es).take i).map nV))∧But D H H2) ?_ ?_ ?_ ?_
 ·exact ⟨_,rfl,zab,k0⟩
 ·rintro i σ H2 _ ⟨x0,rfl,_,k2⟩;exact k2.sq (SqL.of ha) hD
 ·rintro i m x σ H2 hx hm ⟨x0,rfl,h2,k2⟩;obtain ⟨hi,hhas⟩:=zhl hD hw hx k2;refine zdz ?_;refine ⟨_,rfl,x,es[i],rfl,hhas,?_⟩;refine ⟨_,h2,zao (by rw[yab,yaq,zaE];omega),m - 1,by omega,by omega,_,rfl,?_,fun b o n e=>by rw[zag n];exact k2 b o n e⟩;rw[zab,zhk hi,yat,← zfa (he _ (yaN hi))];rfl
 rintro σ H2 ⟨x0,rfl,h2,k2⟩;have e0:H2 D=some (.lst ((zb0 es).map nV)):=by
  rw[h2,yas (by rw[zaE];omega)]
 have same0:Same H H2:=fun b o e=>k2 b o (zac e hD) e;refine ⟨5,rfl,by decide,by decide,?_⟩;refine za0 (n:=5) (fun i σ H3=>∃(p:Addr) (x2:Option V),σ=[some (.ref a),some (.ref p),x2,none,none,none]∧Same H H3∧H3 p=some (.lst ((zcy i (zb0 es)).map nV))) ?_ ?_ ?_
 ·exact ⟨D,_,rfl,same0,e0⟩
 ·rintro i σ H3 hi ⟨p,x2,rfl,s3,h3⟩;refine ⟨_,rfl,p,_,rfl,SqL.of h3,zcx (ze9 he hri) i,by rw[zbn,zaE];exact hz,fun p4 H4 hp4 s4 h4=>?_⟩;exact ⟨p4,_,rfl,s3.trans s4,h4⟩
 rintro σ H3 ⟨p,x2,rfl,s3,h3⟩;refine ⟨_,rfl,p,_,rfl,SqL.of h3,zh7 he hri,ziW he hri,by rw[zbn,zaE];exact hz,fun c H4 hc s4 h4=>?_⟩;have cu:Unl (colL (zcy 5 (zb0 es))):=zl5 (zk5 (unlZ (zh7 he hri)));have cl:(colL (zcy 5 (zb0 es))).length=es.length:=by rw[zes,zbn,zaE]
 have fin:zbH es=mkN (colL (zcy 5 (zb0 es))) 3:=(ziR _).symm;generalize colL (zcy 5 (zb0 es))=cs at h4 cu cl fin;have s04:=s3.trans s4;have h4a:=s04 _ _ ha;refine ⟨_,rfl,a,rfl,⟨_,SqL.of h4a⟩,fun F hF=>?_⟩;refine zbX (xs:=ws) (fun i σ H5=>∃ x0:Option V,σ=[x0]∧H5 F=some (.lst ((List.replicate i false).map V.bl))∧But F H4 H5) ?_ ?_ ?_ ?_
 ·exact ⟨_,rfl,zab,fun b o n e=>by rw[zag n];exact e⟩
 ·rintro i σ H5 _ ⟨x0,rfl,_,k5⟩;exact k5.sq (SqL.of h4a) hF
 ·rintro i m x σ H5 hx hm ⟨x0,rfl,h5,k5⟩;have hi:=(yak.mp hx).1;refine zdz ?_;refine ⟨_,h5,zao (by rw[yab,ya9];omega),m - 1,by omega,by omega,_,rfl,?_,fun b o n e=>by rw[zag n];exact k5 b o n e⟩;rw[zab,List.replicate_succ',yat];rfl
 rintro σ H5 ⟨x0,rfl,h5,k5⟩;have s45:Same H4 H5:=fun b o e=>k5 b o (zac e hF) e;have h5c:=s45 _ _ h4;have h5a:=s45 _ _ h4a;have nFc:c≠F:=zac h4 hF;have hF0:H F=none:=s04.free hF;have k05:But F H H5:=fun b o _ e=>s45 _ _ (s04 _ _ e);have e5:H5 F=some (.lst ((mkN cs 0).map V.bl)):=by
  rw[h5,mkN,show List.replicate ws.length false=cs.map (fun _=>false) from by rw[List.map_const',cl,hlen]]
 refine ⟨(by show 3≤sizeLine;decide),fun t ht=>?_⟩;have st:=zai ht (.tup [V.int 2,V.int 1,V.int 0]);refine ⟨t,rfl,⟨_,SqT.of zab⟩,?_⟩;refine zgx (xs:=[V.int 2,V.int 1,V.int 0]) (fun i σ H6=>∃(x1 x2 x5:Option V),σ=[some (.ref a),x1,x2,some (.ref c),some (.ref F),x5]∧H6 F=some (.lst ((mkN cs i).map V.bl))∧H6 c=some (.lst (cs.map nV))∧H6 t=some (.tup [V.int 2,V.int 1,V.int 0])∧But F H H6) ?_ ?_ ?_ ?_
 ·exact ⟨_,_,_,rfl,st _ _ e5,st _ _ h5c,zab,k05.new ht _⟩
 ·rintro i σ H6 _ ⟨x1,x2,x5,rfl,_,_,h6t,_⟩;exact SqT.of h6t
 ·rintro i x σ H6 hx ⟨x1,x2,x5,rfl,h6,h6c,h6t,k6⟩;obtain ⟨hi,rfl⟩:i < 3∧x=V.int ((2 - i:Nat):Int):=by
   rcases i with _ | _ | _ | i
   ·exact ⟨by decide,(yad hx).symm⟩
   ·exact ⟨by decide,(yad hx).symm⟩
   ·exact ⟨by decide,(yad hx).symm⟩
   ·cases hx
  have hml:=zg7 cs i;have hnx:mkN cs (i+1)=zcg (2 - i) cs (mkN cs i):=rfl;rw[hnx];generalize mkN cs i=ms at h6 hml ⊢;generalize 2 - i=sh;have h6a:=k6 _ _ (zac ha hF0) ha;refine ⟨_,rfl,_,_,rfl,.inl (SqL.of h6a),1,_,rfl,⟨by omega,by omega,by omega,by omega⟩,?_⟩;have en:(((ws.length:Nat):Int) - 1).toNat=cs.length - 1:=by omega
  rw[en];have km:∀ k,(mixM sh cs ms k).length=cs.length:=zdo hml;refine za0 (n:=cs.length - 1) (fun j σ H7=>∃(x2:Option V),σ=[some (.ref a),x1,x2,some (.ref c),some (.ref F),some (.int sh)]∧H7 F=some (.lst ((mixM sh cs ms (1+j)).map V.bl))∧H7 c=some (.lst (cs.map nV))∧H7 t=some (.tup [V.int 2,V.int 1,V.int 0])∧But F H H7) ?_ ?_ ?_
  ·exact ⟨_,rfl,by rw[zkK hml];exact h6,h6c,h6t,k6⟩
  ·rintro j σ H7 hj ⟨x2,rfl,h7,h7c,h7t,k7⟩;have ek:(1:Int)+(j:Int)=((1+j:Nat):Int):=by omega
   have hk1:1≤1+j:=by omega
   have hkl:1+j < cs.length:=by omega
   rw[ek];have es1:1+(j+1)=1+j+1:=by omega
   rw[es1];generalize 1+j=k at h7 hk1 hkl ⊢;have hat:=zgL (xs:=cs) hkl;have mc:cs.getD k 0=sh→zdP (mixM sh cs ms k) k=zdP ms k:=fun z=>zlA cu hml hkl hk1 z;refine ⟨_,rfl,_,rfl,_,_,_,_,rfl,rfl,SqL.of h7c,hat,_,rfl,rfl,_,rfl,?_⟩;refine ite2 (fun e=>?_) (fun e=>?_)
   ·have e':cs.getD k 0=sh:=by
     have:=V.int.inj (yaH e);omega
    refine ⟨_,rfl,_,rfl,_,_,rfl,rfl,_,rfl,_,rfl,_,_,rfl,rfl,_,rfl,_,_,rfl,SqL.of h7,fun b hb=>?_⟩;have sb:=zai hb (.lst (cutV ((mixM sh cs ms k).map V.bl) (some ((k:Int) - 1)) (some ((k:Int)+2))));have hbb:upd H7 b (.lst (cutV ((mixM sh cs ms k).map V.bl) (some ((k:Int) - 1)) (some ((k:Int)+2)))) b=some (.lst ((((mixM sh cs ms k).drop (k - 1)).take 3).map V.bl)):=by
     rw[zab,zqY hk1 rfl rfl]
    have kb:=k7.new hb (.lst (cutV ((mixM sh cs ms k).map V.bl) (some ((k:Int) - 1)) (some ((k:Int)+2))));generalize upd H7 b (.lst (cutV ((mixM sh cs ms k).map V.bl) (some ((k:Int) - 1)) (some ((k:Int)+2))))=H8 at sb hbb kb ⊢;refine ⟨_,_,rfl,.inl (SqL.of hbb),rfl,znw _,_,rfl,?_⟩;show if (!inV (.bl true) ((((mixM sh cs ms k).drop (k - 1)).take 3).map V.bl))=true then _ else _
    rw[zkY,any3 _ hk1,mc e',Bool.not_not];refine ite2 (fun y=>?_) (fun y=>?_)
    ·refine ⟨_,rfl,_,rfl,_,_,_,k,rfl,rfl,sb _ _ h7,zds (by rw[yab,km];exact hkl),?_⟩;have same:∀ b o,b≠F→H8 b=some o→upd H8 F (.lst (((mixM sh cs ms k).map V.bl).set k (.bl true))) b=some o:=fun b o n e=>by
      rw[zag n];exact e
     refine ⟨_,rfl,?_,same _ _ (fun z=>?_) (sb _ _ h7c),same _ _ (Ne.symm (zb4 (sb _ _ h7) (sb _ _ h7t))) (sb _ _ h7t),fun b o n e=>same _ _ n (kb b o n e)⟩
     ·rw[zab,zoN hml hkl ⟨hk1,e',y⟩,ybD]
     ·exact nFc z
    ·exact ⟨_,rfl,by rw[zgl hml hkl (fun z=>y z.2.2)];exact sb _ _ h7,sb _ _ h7c,sb _ _ h7t,kb⟩
   ·have e':cs.getD k 0≠sh:=fun z=>e (by rw[z];exact yag rfl);refine iteF ?_;exact ⟨_,rfl,by rw[zgl hml hkl (fun z=>e' z.2.1)];exact h7,h7c,h7t,k7⟩
  ·rintro σ H7 ⟨x2,rfl,h7,h7c,h7t,k7⟩;rw[zkL hml (by omega)]at h7;exact ⟨_,_,_,rfl,h7,h7c,h7t,k7⟩
 ·rintro σ H6 ⟨x1,x2,x5,rfl,h6,_,_,k6⟩;refine ⟨_,rfl,?_⟩;refine q F H6 hF0 (fun b o e=>k6 b o (zac e hF0) e) ?_;rw[fin];exact h6
set_option maxHeartbeats 1000000 in
theorem zaQ {K:Frag}{H:Hp}{q:Addr}{zs:List V}{o:HO}(hq:H q=some (.lst zs)){es:List (Int×Int)}{ws:List V}(h:zal K H es ws):zal K (upd H q o) es ws:=pImp (fun _ _ h=>by
  obtain ⟨a,x1,x2,rfl,hT,e1,e2⟩:=(show hasP K H _ _ from h);exact ⟨a,x1,x2,rfl,by rw[zag (zrW hT hq (by intro z;cases z))];exact hT,e1,e2⟩) h
def Own (K:Frag)(H:Hp):List Addr→List (List (Int×Int))→Prop:=Paired fun q l=>∃ ws,H q=some (.lst ws)∧zal K H l ws
section
variable {K:Frag}{H H':Hp}
theorem Own.length {qs:List Addr}{ls:List (List (Int×Int))}(h:Own K H qs ls):qs.length=ls.length:=Paired.length h
theorem Own.ext (e:Ext H H'){qs:List Addr}{ls:List (List (Int×Int))}(h:Own K H qs ls):Own K H' qs ls:=pImp (fun _ _ h=>by
 obtain ⟨ws,h1,h2⟩:=h;exact ⟨ws,e _ _ h1 (fun _ z=>nomatch z),zal.mono e h2⟩) h
theorem Own.get:∀{qs:List Addr} {ls:List (List (Int×Int))} {i:Nat} {x:V},Own K H qs ls→(qs.map V.ref)[i]?=some x→∃ q l ws,qs[i]?=some q∧x=.ref q∧ls[i]?=some l∧H q=some (.lst ws)∧zal K H l ws
 | _,_,_,_,.nil,e=>by simp at e
 | _,_,0,_,.cons ⟨ws,h1,h2⟩ _,e=>by
  simp at e;exact ⟨_,_,ws,rfl,e.symm,rfl,h1,h2⟩
 | _,_,i+1,x,.cons _ t,e=>by
  obtain ⟨q,l,ws,h1,h2,h3,h4,h5⟩:=Own.get (i:=i) (x:=x) t (by simpa using e);exact ⟨q,l,ws,by simpa using h1,h2,by simpa using h3,h4,h5⟩
theorem Own.append {qs qs':List Addr}{ls ls':List (List (Int×Int))}(h:Own K H qs ls)(g:Own K H qs' ls'):Own K H (qs++qs') (ls++ls'):=pApp h g
theorem Own.other {q:Addr}{o:HO}{zs:List V}(hq:H q=some (.lst zs)){qs:List Addr}{ls:List (List (Int×Int))}(h:Own K H qs ls)(hn:q∉qs):Own K (upd H q o) qs ls:=by
 unfold Own at h
 induction h with
 | nil=>exact .nil
 | cons h _ ih=>
  obtain ⟨ws,h1,h2⟩:=h;rw[yam,not_or]at hn;exact .cons ⟨ws,by rw[zag (Ne.symm hn.1)];exact h1,zaQ hq h2⟩ (ih hn.2)
end
theorem zi5 {ls:List (List (Int×Int))}{i:Nat}{l:List (Int×Int)}(h:ls[i]?=some l):(ls.take (i+1)).flatten=(ls.take i).flatten++l:=by
 have hi:=(yak.mp h).1;rw[yaQ hi,ycs,(yak.mp h).2];simp
theorem zqS {ls:List (List (Int×Int))}(i:Nat):(ls.take i).flatten.length≤ls.flatten.length:=by
 have e:ls.flatten=(ls.take i).flatten++(ls.drop i).flatten:=by rw[← ycs,yaS]
 rw[e,yap];omega
def zmq (K:Frag):Sp:=fun vs H Q _=>∃(a:Addr) (qs:List Addr) (ls:List (List (Int×Int))),vs=[.ref a]∧H a=some (.lst (qs.map V.ref))∧Own K H qs ls∧ls.flatten.length≤1000∧
 ∀(p:Addr) (ws:List V) (H':Hp),H p=none→Same H H'→H' p=some (.lst ws)→zal K H' (zcJ ls.flatten) ws→Q (.ref p) H'
theorem zmX (T:Txt K mg)(D_joined_up:DF K mg "joined_up" zdd zb9):FC P w K mg base 1 "joined_up" zb9 (zmq K):=by
 refine D_joined_up.ok sc_joined_up (fun vs H Q E h=>?_) (fun f cdv A outer s H vs Q E hr h=>?_)
 ·obtain ⟨a,qs,ls,rfl,_⟩:=h;rfl
 obtain ⟨a,qs,ls,rfl,ha,ho,hz,q⟩:=h;have hll:=ho.length;refine ⟨_,(zah (zas (i:=1) sc_joined_up.nd rfl (Or.inl rfl) (zca zad))
   (zah (za2 PassesOwn.never rfl (zbQ (pv 0)) (zar (i:=2) sc_joined_up.nd rfl (Or.inl rfl)) (zae (zbi (zeW F.plainAttrs_list F.slot_list_extend F.type_list_extend zm3 (pv 1) (zaa (pv 2) zad)))))
   (zae (zau (zam (zei (Int×Int)) rfl T.m_sorted boot_sorted (zaa (pv 1) zad)))))),?_⟩
 refine ⟨(by show 0≤sizeLine;decide),fun t ht=>?_⟩;have k0:But t H (upd H t (.lst [])):=fun b o n e=>by rw[zag n];exact e
 refine ⟨_,rfl,a,rfl,⟨_,SqL.of (k0 _ _ (zac ha ht) ha)⟩,?_⟩;refine ze6 (xs:=qs.map V.ref) (fun i σ H2=>∃(zs:List V) (x2:Option V),σ=[some (.ref a),some (.ref t),x2]∧H2 t=some (.lst zs)∧zal K H2 (ls.take i).flatten zs∧But t H H2∧Own K H2 qs ls) ?_ ?_ ?_ ?_
 ·exact ⟨[],_,rfl,zab,.nil,k0,ho.ext (zai ht _).ext⟩
 ·rintro i σ H2 _ ⟨zs,x2,rfl,h2,_,k2,_⟩;exact SqL.of (k2 _ _ (zac ha ht) ha)
 ·rintro i x σ H2 hx ⟨zs,x2,rfl,h2,hw,k2,o2⟩;obtain ⟨g,l,ws,e1,rfl,e3,e4,e5⟩:=o2.get hx;have hlen:zs.length+ws.length≤1000:=by
   have z1:=hw.length;have z2:=e5.length;have z3:=zqS (ls:=ls) (i+1);rw[zi5 e3,yap]at z3;omega
  have hgo:∀ b∈qs,b≠t:=fun b hb z=>by
   obtain ⟨j,hj,rfl⟩:=yaO hb;obtain ⟨_,_,ws0,f1,f2,_,f4,_⟩:=ho.get (i:=j) (x:=.ref qs[j]) (by rw[yar,yac hj];rfl);cases f2
   rw[z,ht]at f4;cases f4
  refine ⟨_,rfl,.inl ⟨rfl,_,SqL.of h2⟩,_,rfl,t,g,zs,ws,rfl,rfl,h2,e4,ya4 (zao hlen),?_⟩;refine ⟨_,_,rfl,zab,?_,fun b o n e=>by rw[zag n];exact k2 b o n e,o2.other h2 (fun z=>hgo t z rfl)⟩;rw[zi5 e3];exact (zaQ h2 hw).append (zaQ h2 e5)
 ·rintro σ H2 ⟨zs,x2,rfl,h2,hw,k2,o2⟩;rw[yas (by rw[yab];omega)]at hw;refine ⟨_,rfl,t,zs,_,rfl,SqL.of h2,hw,fun l ws hl hs=>?_⟩;have e2:=zai hl (.lst ws);have s2:Same H H2:=fun b o e=>k2 b o (zac e ht) e;exact q l ws _ (s2.free hl) (s2.trans e2) zab (zal.mono e2.ext hs)
def zbJ (ps:List Nat):List V:=.non::ps.map nV
def parV (ps:List Nat)(k:Nat):V:=match par ps k with
 | none=>.non
 | some p=>nV p
theorem zat (ps:List Nat):(zbJ ps).length=ps.length+1:=by
 unfold zbJ;rw[yaL,yab]
theorem zet {ps:List Nat}{k:Nat}(h:k < ps.length+1):atI (zbJ ps) (k:Int)=some (parV ps k):=by
 refine zeu ?_;unfold zbJ parV;cases k with
 | zero=>rfl
 | succ k=>
  show (ps.map nV)[k]?=some (match ps[k]? with | none=>_ | some p=>nV p)
  rw[yar,yac (show k < ps.length by omega)];rfl
theorem zdJ {ps:List Nat}{k p:Nat}(h:par ps k=some p):parV ps k=nV p:=by
 unfold parV;rw[h]
theorem zgj {ps:List Nat}{k:Nat}(h:par ps k=none):parV ps k=.non:=by
 unfold parV;rw[h]
theorem zmK {ps:List Nat}{k m:Nat}:parV ps k=.int (m:Int)↔par ps k=some m:=by
 cases e:par ps k with
 | none=>
  rw[zgj e];exact ⟨(fun z=>nomatch z),(fun z=>nomatch z)⟩
 | some p=>
  rw[zdJ e];constructor
  ·intro z;have:=Int.ofNat.inj (V.int.inj z);rw[this]
  ·intro z;rw[yad z]
theorem zmz (ps:List Nat)(k:Nat)(i:Int):scal (parV ps k) (.int i)=true:=by
 cases e:par ps k with
 | none=>rw[zgj e];rfl
 | some p=>rw[zdJ e];rfl
theorem But.new' {p b:Addr}{H H2:Hp}(k:But p H H2)(hb:H2 b=none)(o:HO):But p H (upd H2 b o):=fun x o' n e=>(zai hb o) x o' (k x o' n e)
def zpt (K:Frag):Sp:=fun vs H Q _=>∃(d L:Addr) (m:Int),vs=[.ref d,.int m]∧(0 < m∧m≤40)∧LS K L d H∧
 ∀(t:Addr) (ps:List Nat) (H':Hp),H t=none→zay ps→(ps.length:Int) < m→H' t=some (.tup (zbJ ps))→Keep d H H'→LS K L d H'→Q (.ref t) H'
theorem zmc {ps:List Nat}{u:Nat}(T:zay ps)(h:u≤ps.length):zay (ps++[u]):=by
 intro i hi;rw[yap,ybg]at hi;by_cases c:i < ps.length
 ·rw[List.getElem_append_left c];exact T i c
 ·have:i=ps.length:=by omega
  subst this;rw[List.getElem_append_right (yaa _)];simp;exact h
theorem zoy (T:Txt K mg)(D_l_tree:DF K mg "_law_tree" zfS zeP)(F_l_take:FC P w K mg base 2 "_law_take" zbO (zgf K)):FC P w K mg base 3 "_law_tree" zeP (zpt K):=by
 refine D_l_tree.ok sc_l_tree (fun vs H Q E h=>?_) (fun f cdv A outer s H vs Q E hr h=>?_)
 ·obtain ⟨d,L,m,rfl,_⟩:=h;rfl
 obtain ⟨d,L,m,rfl,⟨hm0,hm1⟩,hs,q⟩:=h;refine ⟨_,(zah (zas (i:=2) sc_l_tree.nd rfl (Or.inl rfl) (zaA F_l_take hr (zaa (pv 0) (zaa zaf zad))))
   (zah (zas (i:=3) sc_l_tree.nd rfl (Or.inl rfl) (zca (zaa zkG zad)))
   (zah (za2 PassesOwn.never rfl (zdG rfl T.m_range (zaa zaf (zaa (zaw za7 zaf (zaA F_l_take hr (zaa (pv 0) (zaa (pv 1) zad)))) zad))) (zar (i:=4) sc_l_tree.nd rfl (Or.inl rfl)) (zae (zbi (zeW F.plainAttrs_list F.slot_list_append F.type_list_append zaU (pv 3) (zaa (zaD zaI (zca (zaa (zaw zcb (pv 4) zaf) (zaa zaf (zaa (zaA F_l_take hr (zaa (pv 0) (zaa (pv 4) zad))) (zaa (zam (zgH rfl) rfl T.m_max boot_max (zaa zaf (zaa (zaw zcb (zaw zcb (pv 4) zaf) (zaA F_l_take hr (zaa (pv 0) (zaa zaf zad)))) zad))) zad))))) (pv 2) (fun _ _=>rfl)) zad)))))
   (zae (zau (zaT zaR rfl T.m_tuple boot_tuple (zaa (pv 3) zad))))))),?_⟩
 refine ⟨_,rfl,d,L,4,rfl,by decide,hs,fun w1 H1 w0 w4 k1 s1=>?_⟩;refine ⟨(by show 1≤sizeLine;decide),fun p hp=>?_⟩;have g0:=zai hp (.lst [V.non]);have hpd:p≠d:=by
  obtain ⟨ns,a,l,e,_⟩:=s1.ex;exact Ne.symm (zac e hp)
 have hp0:H p=none:=by
  cases e:H p with
  | none=>rfl
  | some o=>
   have:=k1 p o hpd e;rw[hp]at this;cases this
 refine ⟨_,rfl,_,rfl,d,L,m,rfl,⟨hm0,by omega⟩,s1.same g0,fun n H2 n0 n1 k2 s2=>⟨_,_,rfl,rfl,1,_,rfl,⟨by omega,by omega,by omega,by omega⟩,?_⟩⟩;have en:((1:Int)+n - 1).toNat=n.toNat:=by omega
 rw[en];refine za0 (n:=n.toNat) (fun i σ H3=>∃(ps:List Nat) (x4:Option V),σ=[some (.ref d),some (.int m),some (.int w1),some (.ref p),x4]∧H3 p=some (.lst (zbJ ps))∧ps.length=i∧zay ps∧(∀ b o,b≠d→b≠p→H b=some o→H3 b=some o)∧LS K L d H3) ?_ ?_ ?_
 ·exact ⟨[],_,rfl,k2 p _ hpd zab,rfl,fun i hi=>absurd hi (by simp),fun b o n1 n2 e=>k2 b o n1 (g0 b o (k1 b o n1 e)),s2⟩
 ·rintro i σ H3 hi ⟨ps,x4,rfl,h3,rfl,hT,k3,s3⟩;have ek:(1:Int)+((ps.length:Nat):Int)=((ps.length+1:Nat):Int):=by omega
  rw[ek];refine ⟨_,rfl,.inl ⟨rfl,_,SqL.of h3⟩,?_⟩;refine ⟨_,rfl,_,_,rfl,rfl,_,rfl,_,rfl,d,L,_,rfl,⟨by omega,by omega⟩,s3,fun v1 H4 v10 v11 k4 s4=>?_⟩;refine ⟨_,rfl,_,_,rfl,rfl,_,rfl,d,L,2,rfl,by decide,s4,fun v2 H5 v20 v21 k5 s5=>⟨_,_,rfl,rfl,_,_,rfl,(by show 4≤sizeLine;decide),fun l hl=>?_⟩⟩;have h4:=k4 p _ hpd h3;have h5:=k5 p _ hpd h4;obtain ⟨u,hat,hu⟩:∃ u:Nat,atI [V.int (((ps.length+1:Nat):Int) - 1),V.int 0,V.int v1,V.int (if ((ps.length+1:Nat):Int) - 1 - v2 > 0 then ((ps.length+1:Nat):Int) - 1 - v2 else 0)] w1=some (nV u)∧u≤ps.length:=by
   have z:w1=0∨w1=1∨w1=2∨w1=3:=by omega
   rcases z with rfl | rfl | rfl | rfl
   ·refine ⟨ps.length,?_,yaa _⟩;rw[show ((ps.length+1:Nat):Int) - 1=((ps.length:Nat):Int) by omega];rfl
   ·exact ⟨0,rfl,yaC _⟩
   ·obtain ⟨u,rfl⟩:=zrX v10;exact ⟨u,rfl,by omega⟩
   ·refine ⟨(if ((ps.length+1:Nat):Int) - 1 - v2 > 0 then ((ps.length+1:Nat):Int) - 1 - v2 else 0).toNat,?_,?_⟩
    ·show some (V.int _)=some (V.int _);rw[Int.toNat_of_nonneg (by split <;> omega)]
    ·split <;> omega
  refine ⟨_,rfl,_,_,_,_,rfl,rfl,SqL.of zab,hat,_,_,_,rfl,rfl,by rw[zag (zac h5 hl)];exact h5,zao (by rw[zat];omega),?_⟩;refine ⟨ps++[u],_,rfl,?_,by rw[yap,ybg],zmc hT hu,fun b o n1 n2 e=>?_,?_⟩
  ·rw[zab];unfold zbJ;rw[yat];rfl
  ·rw[zag n2];have e5:=k5 b o n1 (k4 b o n1 (k3 b o n1 n2 e));exact (zai hl _) _ _ e5
  ·exact LS.put hs hp0 (fun b o n1 n2 e=>(zai hl _) _ _ (k5 b o n1 (k4 b o n1 (k3 b o n1 n2 e)))) (s5.of_new hl _)
 ·rintro σ H3 ⟨ps,x4,rfl,h3,hl,hT,k3,s3⟩;refine ⟨_,rfl,p,_,rfl,.inl ⟨SqL.of h3,fun t ht=>?_⟩⟩;have sn:=zai ht (.tup (zbJ ps));have htp:t≠p:=Ne.symm (zac h3 ht);have ht0:H t=none:=by
   cases e:H t with
   | none=>rfl
   | some o=>
    have htd:t≠d:=by
     obtain ⟨ns,a,l,e,_⟩:=s3.ex;exact Ne.symm (zac e ht)
    have:=k3 t o htd htp e;rw[ht]at this;cases this
  exact q t ps _ ht0 hT (by omega) zab (fun b o n e=>sn _ _ (k3 b o n (zac e hp0) e)) (s3.of_new ht _)
def zgY (K:Frag):Sp:=fun vs H Q _=>∃(t:Addr) (ps:List Nat) (k:Nat),vs=[.ref t,.int k]∧H t=some (.tup (zbJ ps))∧ps.length≤900∧
 ∀(p:Addr) (H':Hp),H p=none→Same H H'→H' p=some (.lst ((zch ps k (ps.length+1)).map nV))→Q (.ref p) H'
theorem zjI (T:Txt K mg)(D_children:DF K mg "children" zd4 zdn):FC P w K mg base 1 "children" zdn (zgY K):=by
 refine D_children.ok sc_children (fun vs H Q E h=>?_) (fun f cdv A outer s H vs Q E hr h=>?_)
 ·obtain ⟨t,ps,k,rfl,_⟩:=h;rfl
 obtain ⟨t,ps,k,rfl,ht,hz,q⟩:=h;refine ⟨_,(zae (zau (zbS (N:=["other","tree","knot"]) (own:=1) (cap:=[0,1]) rfl (zaY rfl T.m_range (zaa (zam zan rfl T.m_len boot_len (zaa (pv 0) zad)) zad)) ⟨rfl,rfl,rfl,rfl,rfl,rfl⟩ (fun _ _ _ _ _=>(zar (i:=0) (show List.Nodup (["other","tree","knot"]:List Str) by decide +kernel) rfl (Or.inl rfl))) (fun _ _ _ _ _=>(zcC (zav zfr (zaD (zjU (K:=K)) (pv 1) (pv 0) (fun _ _=>rfl)) (pv 2) (zaH _)))) (fun _ _ _ _ _=>(pv 0))))),?_⟩;refine ⟨_,rfl,_,_,rfl,.inr (SqT.of ht),_,rfl,by omega,by rw[zat];omega,fun D hD=>?_⟩;have el:((((zbJ ps).length:Nat):Int)).toNat=ps.length+1:=by rw[zat,ya5]
 rw[el];refine zc9 (n:=ps.length+1) (fun j σ H3=>∃ x0:Option V,σ=[x0,some (.ref t),some (.int k)]∧H3 D=some (.lst ((zch ps k j).map nV))∧But D H H3) ?_ ?_ ?_
 ·exact ⟨_,rfl,zab,fun b o n e=>by rw[zag n];exact e⟩
 ·rintro j m σ H3 hm hj ⟨x0,rfl,h3,k3⟩;rw[ybe];have h3t:=k3 _ _ (zac ht hD) ht;have hlen:=zhm ps k j;refine ⟨_,rfl,_,rfl,_,_,_,_,rfl,rfl,SqT.of h3t,zet hj,_,rfl,zmz _ _ _,_,rfl,?_⟩;refine ite2 (fun c=>?_) (fun c=>?_)
  ·have c':par ps j=some k:=zmK.mp (yaH c);refine ⟨_,rfl,_,h3,zao (by rw[yab];omega),m - 1,by omega,by omega,_,rfl,?_,fun b o n e=>by rw[zag n];exact k3 b o n e⟩;rw[zab,zgF,if_pos c',yat];rfl
  ·have c':¬ par ps j=some k:=fun z=>c (yag (zmK.mpr z));refine ⟨m - 1,by omega,by omega,_,rfl,?_,k3⟩;rw[h3,zgF,if_neg c',yaz]
 ·rintro σ H3 ⟨x0,rfl,h3,k3⟩;exact q D H3 hD (fun b o e=>k3 b o (zac e hD) e) h3
def ziD (K:Frag):Sp:=fun vs H Q _=>∃(t:Addr) (ps:List Nat) (k:Nat),vs=[.ref t,.int k]∧H t=some (.tup (zbJ ps))∧zay ps∧k < ps.length+1∧ps.length≤900∧
 ∀(p:Addr) (H':Hp),H p=none→Same H H'→H' p=some (.lst ((benL ps k (ps.length+1)).map nV))→Q (.ref p) H'
theorem zly (T:Txt K mg)(D_beneath:DF K mg "beneath" zeH zed):FC P w K mg base 1 "beneath" zed (ziD K):=by
 refine D_beneath.ok sc_beneath (fun vs H Q E h=>?_) (fun f cdv A outer s H vs Q E hr h=>?_)
 ·obtain ⟨t,ps,k,rfl,_⟩:=h;rfl
 obtain ⟨t,ps,k,rfl,ht,hT,hk,hz,q⟩:=h;refine ⟨_,(zah (zas (i:=2) sc_beneath.nd rfl (Or.inl rfl) (zca (zaa (pv 1) zad)))
   (zah (za2 PassesOwn.never rfl (zdG rfl T.m_range (zaa (zaw za7 (pv 1) zaf) (zaa (zam zan rfl T.m_len boot_len (zaa (pv 0) zad)) zad))) (zar (i:=3) sc_beneath.nd rfl (Or.inl rfl)) (zae (zaW (zav ziO (zaD zaO (pv 0) (pv 3) (fun _ _=>rfl)) (pv 2) (by with_unfolding_all rfl)) (zae (zbi (zeW F.plainAttrs_list F.slot_list_append F.type_list_append zaU (pv 2) (zaa (pv 3) zad)))) zax)))
   (zae (zau (pv 2))))),?_⟩
 refine ⟨_,rfl,(by show 1≤sizeLine;decide),fun p hp=>?_⟩;have k0:But p H (upd H p (.lst [.int (k:Int)])):=fun b o n e=>by rw[zag n];exact e
 have ntp:t≠p:=zac ht hp;refine ⟨_,rfl,_,_,rfl,rfl,_,rfl,_,_,rfl,.inr (SqT.of (k0 _ _ ntp ht)),_,_,rfl,⟨by omega,by omega,by omega,by rw[zat];omega⟩,?_⟩;have en:((((zbJ ps).length:Nat):Int) - ((k:Int)+1)).toNat=ps.length - k:=by rw[zat];omega
 rw[en];refine za0 (n:=ps.length - k) (fun i σ H3=>∃ x3:Option V,σ=[some (.ref t),some (.int k),some (.ref p),x3]∧H3 p=some (.lst ((benL ps k (k+1+i)).map nV))∧But p H H3) ?_ ?_ ?_
 ·refine ⟨_,rfl,?_,k0⟩;rw[zab,ybs,zpe hT];rfl
 ·rintro i σ H3 hi ⟨x3,rfl,h3,k3⟩;have ek:(k:Int)+1+(i:Int)=((k+1+i:Nat):Int):=by omega
  rw[ek];have hj:k+1+i < ps.length+1:=by omega
  have hj1:1≤k+1+i:=by omega
  have hjk:k+1+i≠k:=by omega
  have ei:k+1+(i+1)=k+1+i+1:=by omega
  rw[ei];generalize k+1+i=j at h3 hj hj1 hjk ⊢;obtain ⟨u,hu⟩:=zf4 hj1 hj;have h3t:=k3 _ _ ntp ht;have hat:=zet hj;rw[zdJ hu]at hat;have hlen:=zk8 ps k j;refine ⟨_,rfl,_,rfl,_,_,_,_,rfl,rfl,SqT.of h3t,hat,_,rfl,_,_,rfl,.inl (SqL.of h3),rfl,zjY _,_,rfl,?_⟩;show if inV (.int (u:Int)) ((benL ps k j).map nV)=true then _ else _
  rw[znm];have hB:isB ps k j=isB ps k u:=zb5 hT hjk hu;have hult:=(zaM hT hu).1;refine ite2 (fun c=>?_) (fun c=>?_)
  ·have c':isB ps k u=true:=(zcs.mp (yaH c)).2;refine ⟨_,rfl,.inl ⟨rfl,_,SqL.of h3⟩,_,rfl,_,_,_,rfl,rfl,h3,zao (by rw[yab];omega),?_⟩;refine ⟨_,rfl,?_,fun b o n e=>by rw[zag n];exact k3 b o n e⟩;rw[zab,zji,hB,if_pos c',yat];rfl
  ·have c':¬ isB ps k u=true:=fun z=>c (yag (zcs.mpr ⟨hult,z⟩));refine ⟨_,rfl,?_,k3⟩;rw[h3,zji,hB,if_neg c',yaz]
 ·rintro σ H3 ⟨x3,rfl,h3,k3⟩;refine ⟨_,rfl,?_⟩;rw[show k+1+(ps.length - k)=ps.length+1 by omega]at h3;exact q p H3 hp (fun b o e=>k3 b o (zac e hp) e) h3
def zcr (es:List (Int×Int)):List (Int×Int):=zcf es (zbH es)
def zap (rows:List (List Int))(k:Nat):List Int:=rows.getD k []
def ownE (rows:List (List Int))(k:Nat):List (Int×Int):=(zap rows k).map fun x=>(x,(k:Int))
def zlK (ps:List Nat)(rows:List (List Int)):Nat→Nat→List (Int×Int)
 | 0,_=>[]
 | f+1,k=>zcJ (((zch ps k (ps.length+1)).map fun c=>zcr (zlK ps rows f c)).flatten++ownE rows k)
theorem zhf {ps:List Nat}(T:zay ps){rows:List (List Int)}:∀ f g k,k < ps.length+1→ps.length+1 - k≤f→ps.length+1 - k≤g→zlK ps rows f k=zlK ps rows g k
 | 0,_,k,hk,h,_=>by omega
 | _,0,k,hk,_,h=>by omega
 | f+1,g+1,k,hk,hf,hg=>by
  unfold zlK;congr 3;refine yco fun c hc=>?_;have h:=zaK.mp hc;have:=zaM T h.2;show zcr _=zcr _;rw[zhf T f g c h.1 (by omega) (by omega)]
def zak (ps:List Nat)(rows:List (List Int))(k:Nat):List (Int×Int):=zlK ps rows (ps.length+1 - k) k
def zdI (ps:List Nat)(rows:List (List Int))(k:Nat):List (List (Int×Int)):=((zch ps k (ps.length+1)).map fun c=>zcr (zak ps rows c))++[ownE rows k]
theorem zb6 {ps:List Nat}(T:zay ps){rows:List (List Int)}{k:Nat}(hk:k < ps.length+1):zak ps rows k=zcJ (zdI ps rows k).flatten:=by
 unfold zak zdI;obtain ⟨f,hf⟩:∃ f,ps.length+1 - k=f+1:=⟨ps.length - k,by omega⟩;rw[hf,zlK,ycs,List.flatten_singleton];congr 3;refine yco fun c hc=>?_;have h:=zaK.mp hc;have:=zaM T h.2;show zcr _=zcr _;rw[zhf T f (ps.length+1 - c) c h.1 (by omega) (by omega)];rfl
structure zaC (rows:List (List Int)):Prop where
 up:∀ row∈rows,row.Pairwise (· < ·)
 key:∀ row∈rows,∀ x∈row,-(10 ^ 60) < x∧x < 10 ^ 60
theorem zaC.at_up {rows:List (List Int)}(R:zaC rows)(k:Nat):(zap rows k).Pairwise (· < ·):=by
 unfold zap;rw[yae];cases e:rows[k]? with
 | none=>exact .nil
 | some row=>exact R.up row (yaE e)
theorem zaC.at_key {rows:List (List Int)}(R:zaC rows)(k:Nat):∀ x∈zap rows k,-(10 ^ 60) < x∧x < 10 ^ 60:=by
 unfold zap;rw[yae];cases e:rows[k]? with
 | none=>exact fun x hx=>nomatch hx
 | some row=>exact R.key row (yaE e)
theorem zi1 {α:Type}:∀(es:List α) (ms:List Bool),(zcf es ms).Sublist es
 | [],_=>by
  unfold zcf;exact List.Sublist.refl _
 | e::es,[]=>by
  unfold zcf;exact List.nil_sublist _
 | e::es,m::ms=>by
  have ih:=zi1 es ms;unfold zcf at ih ⊢;cases m with
  | false=>exact List.Sublist.cons e ih
  | true=>exact List.Sublist.cons₂ e ih
theorem zaP (es:List (Int×Int)):(zcr es).Sublist es:=zi1 _ _
def Of (ps:List Nat)(rows:List (List Int))(k:Nat)(e:Int×Int):Prop:=∃ j,j < ps.length+1∧isB ps k j=true∧e.2=(j:Int)∧e.1∈zap rows j
theorem ziM {ps:List Nat}{rows:List (List Int)}{k:Nat}(hk:k < ps.length+1){e:Int×Int}(h:e∈ownE rows k):Of ps rows k e∧e.2=(k:Int):=by
 obtain ⟨x,hx,rfl⟩:=yaG.mp h;exact ⟨⟨k,hk,zcq,rfl,hx⟩,rfl⟩
theorem ziN {rows:List (List Int)}(R:zaC rows)(k:Nat):(ownE rows k).Nodup:=by
 unfold ownE;rw[List.nodup_iff_pairwise_ne,ybL];exact List.Pairwise.imp (fun {a b} (h:a < b) z=>by
  have:=congrArg Prod.fst z;have:a=b:=this;omega) (R.at_up k)
theorem zf9 {ps:List Nat}(T:zay ps){rows:List (List Int)}(R:zaC rows):∀(m k:Nat),ps.length+1 - k≤m→k < ps.length+1→(∀ e∈zak ps rows k,Of ps rows k e)∧(zdI ps rows k).flatten.Nodup
 | 0,k,hm,hk=>by omega
 | m+1,k,hm,hk=>by
  have ih:∀ c,par ps c=some k→(∀ e∈zak ps rows c,Of ps rows c e)∧(zak ps rows c).Nodup:=fun c hc=>by
   have:=zaM T hc;have q:=zf9 T R m c (by omega) this.2;refine ⟨q.1,?_⟩;rw[zb6 T this.2];exact (zct _).nodup_iff.mpr q.2
  have up:∀{c:Nat} {e:Int×Int},par ps c=some k→Of ps rows c e→Of ps rows k e:=fun {c e} hc h=>by
   obtain ⟨j,h1,h2,h3,h4⟩:=h;exact ⟨j,h1,(zce T j j (yaa _) h1).mpr (.inr ⟨c,hc,h2⟩),h3,h4⟩
  refine ⟨fun e he=>?_,?_⟩
  ·rw[zb6 T hk,zdC]at he;obtain ⟨l,hl,he⟩:=ycn.mp he;rcases yaj.mp hl with q | q
   ·obtain ⟨c,hc,rfl⟩:=yaG.mp q;have hp:=(zaK.mp hc).2;exact up hp ((ih c hp).1 e ((zaP _).mem he))
   ·rw[yal.mp q]at he;exact (ziM hk he).1
  ·show List.Pairwise _ _;unfold zdI;rw[List.pairwise_flatten];refine ⟨fun l hl=>?_,?_⟩
   ·rcases yaj.mp hl with q | q
    ·obtain ⟨c,hc,rfl⟩:=yaG.mp q;exact (ih c (zaK.mp hc).2).2.sublist (zaP _)
    ·rw[yal.mp q];exact ziN R k
   ·rw[yaI];refine ⟨?_,ycE _ _,?_⟩
    ·rw[ybL];refine List.Pairwise.imp_of_mem (fun {c d} hc hd hcd=>?_) (zjc ps k _);intro x hx y hy z;subst z;have pc:=(zaK.mp hc).2;have pd:=(zaK.mp hd).2;obtain ⟨j,_,h2,h3,_⟩:=(ih c pc).1 x ((zaP _).mem hx);obtain ⟨i,_,g2,g3,_⟩:=(ih d pd).1 x ((zaP _).mem hy);have:j=i:=by omega
     subst this;exact zc7 T pc pd (yan hcd) j j (yaa _) h2 g2
    ·intro l hl l' hl' x hx y hy z;subst z;obtain ⟨c,hc,rfl⟩:=yaG.mp hl;rw[yal.mp hl']at hy;have pc:=(zaK.mp hc).2;obtain ⟨j,_,h2,h3,_⟩:=(ih c pc).1 x ((zaP _).mem hx);have h4:=(ziM hk hy).2;have:j=k:=by omega
     subst this;rw[zdN T (zaM T pc).1]at h2;cases h2
theorem zeg {ps:List Nat}(T:zay ps){rows:List (List Int)}(R:zaC rows){k:Nat}(hk:k < ps.length+1):∀ e∈zak ps rows k,Of ps rows k e:=(zf9 T R _ k (yaa _) hk).1
theorem zdu {ps:List Nat}(T:zay ps){rows:List (List Int)}(R:zaC rows){k:Nat}(hk:k < ps.length+1):(zak ps rows k).Nodup:=by
 rw[zb6 T hk];exact (zct _).nodup_iff.mpr (zf9 T R _ k (yaa _) hk).2
theorem zaF {ps:List Nat}(T:zay ps){rows:List (List Int)}(R:zaC rows){k:Nat}(hk:k < ps.length+1):Rise (zak ps rows k):=by
 rw[zb6 T hk];exact zdV (zf9 T R _ k (yaa _) hk).2
theorem ze5 {ps:List Nat}(T:zay ps){rows:List (List Int)}(R:zaC rows)(hz:ps.length≤40){k:Nat}(hk:k < ps.length+1):∀ e∈zak ps rows k,zfL 64 e:=fun e he=>by
 obtain ⟨j,h1,h2,h3,h4⟩:=zeg T R hk e he;have:=R.at_key j _ h4;exact ⟨this.1,this.2,by omega,by omega⟩
def wtR (ps:List Nat)(rows:List (List Int))(k:Nat):Nat:=((benL ps k (ps.length+1)).map fun j=>(zap rows j).length).sum
theorem zn6 {l m:List Nat}(h:l.Perm m):l.sum=m.sum:=by
 induction h with
 | nil=>rfl
 | cons x _ ih=>rw[yaJ,yaJ,ih]
 | swap x y l=>rw[yaJ,yaJ,yaJ,yaJ];omega
 | trans _ _ h1 h2=>rw[h1,h2]
theorem zkn (f:Nat→Nat):∀(ls:List (List Nat)),(ls.flatten.map f).sum=(ls.map fun l=>(l.map f).sum).sum
 | []=>rfl
 | l::ls=>by
  rw[ybQ,yat,List.sum_append,zkn f ls,yau,yaJ]
theorem zlW {ps:List Nat}(T:zay ps)(f:Nat→Nat){k:Nat}(hk:k < ps.length+1):((benL ps k (ps.length+1)).map f).sum=f k+((zch ps k (ps.length+1)).map fun c=>((benL ps c (ps.length+1)).map f).sum).sum:=by
 have h:=zn6 ((zlq T hk).map f);rw[yau,yaJ,zkn,ybA]at h;exact h.symm
theorem zps {f g:Nat→Nat}:∀{l:List Nat},(∀ x∈l,f x≤g x)→(l.map f).sum≤(l.map g).sum
 | [],_=>yaa _
 | x::l,h=>by
  rw[yau,yaJ,yau,yaJ];have h1:=h x yaD;have h2:=zps (f:=f) (g:=g) (l:=l) fun y hy=>h y (yaF _ hy);omega
theorem zkS {α:Type}:∀(ls:List (List α)),ls.flatten.length=(ls.map List.length).sum
 | []=>rfl
 | l::ls=>by
  rw[ybQ,yap,zkS ls,yau,yaJ]
theorem znv {ps:List Nat}(T:zay ps){rows:List (List Int)}{k:Nat}(hk:k < ps.length+1):(zak ps rows k).length=(zap rows k).length+((zch ps k (ps.length+1)).map fun c=>(zcr (zak ps rows c)).length).sum:=by
 rw[zb6 T hk,zcN];unfold zdI;rw[ycs,yap,List.flatten_singleton,zkS,ybA];unfold ownE;rw[yab,Nat.add_comm];rfl
theorem zhe {ps:List Nat}(T:zay ps){rows:List (List Int)}:∀(m k:Nat),ps.length+1 - k≤m→k < ps.length+1→(zak ps rows k).length≤wtR ps rows k
 | 0,k,hm,hk=>by omega
 | m+1,k,hm,hk=>by
  unfold wtR;rw[znv T hk,zlW T _ hk];refine ycu (zps fun c hc=>?_) _;have h:=zaK.mp hc;have:=zaM T h.2;exact yao (zaP _).length_le (zhe T m c (by omega) h.1)
theorem zgX (f:Nat→Nat)(P:Nat→Bool):∀(l:List Nat),((l.filter P).map f).sum≤(l.map f).sum
 | []=>yaa _
 | x::l=>by
  have ih:=zgX f P l;rw[yau,yaJ];by_cases h:P x=true
  ·rw[ybd h,yau,yaJ];omega
  ·rw[ybn h];omega
def zbT (rows:List (List Int)):Nat:=(rows.map List.length).sum
theorem zmh (rows:List (List Int)):((List.range rows.length).map fun j=>(zap rows j).length).sum=zbT rows:=by
 unfold zbT;congr 1;apply yba;intro i;rw[yar,yar];by_cases h:i < rows.length
 ·rw[yck h,yac h];show some (zap rows i).length=some rows[i].length;unfold zap;rw[yae,yac h];rfl
 ·rw[yaP (by rw[ybb];omega),yaP (by omega)];rfl
theorem zpn {ps:List Nat}{rows:List (List Int)}(hl:rows.length=ps.length+1)(k:Nat):wtR ps rows k≤zbT rows:=by
 unfold wtR benL;refine yao (zgX _ _ _) ?_;rw[← hl,zmh];exact yaa _
theorem zdt {ps:List Nat}(T:zay ps){rows:List (List Int)}(hl:rows.length=ps.length+1){k:Nat}(hk:k < ps.length+1):(zak ps rows k).length≤zbT rows:=yao (zhe T _ k (yaa _) hk) (zpn hl k)
def zaN (H:Hp)(as:List Addr)(rows:List (List Int)):Prop:=Paired (fun a row=>H a=some (.tup (row.map V.int))) as rows
theorem zaN.ext {H H':Hp}(e:∀ b o,H b=some o→H' b=some o){as:List Addr}{rows:List (List Int)}(h:zaN H as rows):zaN H' as rows:=pImp (fun _ _=>e _ _) h
theorem zaN.keep {d p:Addr}{H H':Hp}(hd:∀ a row,H a=some (.tup row)→a≠d)(e:∀ b o,b≠d→H b=some o→H' b=some o){as:List Addr}{rows:List (List Int)}(h:zaN H as rows):zaN H' as rows:=pImp (fun _ _ h=>e _ _ (hd _ _ h) h) h
theorem zaN.length {H:Hp}{as:List Addr}{rows:List (List Int)}(h:zaN H as rows):as.length=rows.length:=Paired.length h
theorem zaN.get {H:Hp}:∀{as:List Addr} {rows:List (List Int)} {k:Nat},zaN H as rows→k < rows.length→∃ a,as[k]?=some a∧H a=some (.tup ((zap rows k).map V.int))
 | _,_,_,.nil,hk=>by simp at hk
 | a::as,row::rows,0,.cons h t,_=>⟨a,rfl,h⟩
 | a::as,row::rows,k+1,.cons h t,hk=>by
  obtain ⟨b,h1,h2⟩:=zaN.get (k:=k) t (by simpa using hk);refine ⟨b,by rw[ycy];exact h1,?_⟩;have:zap (row::rows) (k+1)=zap rows k:=by
   unfold zap;rw[yae,yae,ycy]
  rw[this];exact h2
theorem zaN.snoc {H:Hp}{a:Addr}{row:List Int}{as:List Addr}{rows:List (List Int)}(h:zaN H as rows)(g:H a=some (.tup (row.map V.int))):zaN H (as++[a]) (rows++[row]):=pApp h (.cons g .nil)
structure zbx (H:Hp)(st:Addr)(ps:List Nat)(rows:List (List Int))(t rs:Addr)(as:List Addr):Prop where
 st:H st=some (.tup [.ref t,.ref rs])
 tr:H t=some (.tup (zbJ ps))
 rs:H rs=some (.tup (as.map V.ref))
 at_:zaN H as rows
 len:rows.length=ps.length+1
 T:zay ps
 R:zaC rows
 few:ps.length≤40
 keys:zbT rows≤400
theorem zbx.same {H H':Hp}{st t rs:Addr}{ps:List Nat}{rows:List (List Int)}{as:List Addr}(S:zbx H st ps rows t rs as)(e:Same H H'):zbx H' st ps rows t rs as:=
 ⟨e _ _ S.st,e _ _ S.tr,e _ _ S.rs,S.at_.ext e,S.len,S.T,S.R,S.few,S.keys⟩
theorem zbI {as:List Addr}{k:Nat}{a:Addr}(h:as[k]?=some a):atI (as.map V.ref) (k:Int)=some (.ref a):=zeu (by rw[yar,h];rfl)
theorem ziQ {α:Type}{l:List α}(h:l.Nodup):l.reverse.Nodup:=(List.reverse_perm l).nodup_iff.mpr h
def zgO (K:Frag)(H:Hp)(ps:List Nat)(rows:List (List Int))(j:Nat)(q:Addr):Prop:=∃ ws,H q=some (.lst ws)∧zal K H (zak ps rows j) ws
def zaG (K:Frag)(H:Hp)(ps:List Nat)(rows:List (List Int)):List Nat→List Addr→Prop:=Paired (zgO K H ps rows)
theorem zgO.same {K:Frag}{H H':Hp}{ps:List Nat}{rows:List (List Int)}{j:Nat}{q:Addr}(h:zgO K H ps rows j q)(e:Same H H'):zgO K H' ps rows j q:=by
 obtain ⟨ws,h1,h2⟩:=h;exact ⟨ws,e _ _ h1,h2.mono e.ext⟩
theorem zaG.same {K:Frag}{H H':Hp}{ps:List Nat}{rows:List (List Int)}(e:Same H H'){js:List Nat}{qs:List Addr}(h:zaG K H ps rows js qs):zaG K H' ps rows js qs:=pImp (fun _ _ h=>zgO.same h e) h
theorem zaG.ext {K:Frag}{H H':Hp}{ps:List Nat}{rows:List (List Int)}(e:Ext H H'){js:List Nat}{qs:List Addr}(h:zaG K H ps rows js qs):zaG K H' ps rows js qs:=pImp (fun _ _ h=>by
  obtain ⟨ws,a1,a2⟩:=h;exact ⟨ws,e _ _ a1 (fun _ z=>nomatch z),a2.mono e⟩) h
theorem zaG.length {K:Frag}{H:Hp}{ps:List Nat}{rows:List (List Int)}{js:List Nat}{qs:List Addr}(h:zaG K H ps rows js qs):js.length=qs.length:=Paired.length h
theorem zaG.snoc {K:Frag}{H:Hp}{ps:List Nat}{rows:List (List Int)}{j:Nat}{q:Addr}{js:List Nat}{qs:List Addr}(h:zaG K H ps rows js qs)(g:zgO K H ps rows j q):zaG K H ps rows (js++[j]) (qs++[q]):=pApp h (.cons g .nil)
theorem zaG.get {K:Frag}{H:Hp}{ps:List Nat}{rows:List (List Int)}:∀{js:List Nat} {qs:List Addr} {i j:Nat},zaG K H ps rows js qs→js[i]?=some j→∃ q,qs[i]?=some q∧zgO K H ps rows j q
 | _,_,i,j,.nil,h=>by simp at h
 | _::_,q::_,0,j,.cons h t,e=>by
  have:=yad (show some _=some j from e);subst this;exact ⟨q,rfl,h⟩
 | _::_,_::_,i+1,j,.cons h t,e=>by
  obtain ⟨q,h1,h2⟩:=zaG.get (i:=i) t (by simpa using e);exact ⟨q,by simpa using h1,h2⟩
theorem zaG.rev {K:Frag}{H:Hp}{ps:List Nat}{rows:List (List Int)}{js:List Nat}{qs:List Addr}(h:zaG K H ps rows js qs):zaG K H ps rows js.reverse qs.reverse:=by
 unfold zaG at h
 induction h with
 | nil=>exact .nil
 | cons h _ ih=>
  rw[ycl,ycl];exact zaG.snoc ih h
theorem zaG.alloc {K:Frag}{H:Hp}{ps:List Nat}{rows:List (List Int)}:∀{js:List Nat} {qs:List Addr},zaG K H ps rows js qs→∀ q∈qs,∃ ws,H q=some (.lst ws)
 | _,_,.nil=>fun q hq=>nomatch hq
 | _::_,_::_,.cons h t=>fun q hq=>by
  rcases yam.mp hq with e | e
  ·obtain ⟨ws,h1,_⟩:=h;exact ⟨ws,e ▸ h1⟩
  ·exact zaG.alloc t q e
abbrev kN (j:Nat):Key:=Sum.inl (j:Int)
def zdM:List Nat→List Addr→List (Key×V)
 | j::js,q::qs=>(kN j,.ref q)::zdM js qs
 | _,_=>[]
theorem zkU {j:Nat}:∀{js:List Nat} {qs:List Addr},j∉js→valV (zdM js qs) (kN j)=none
 | [],_,_=>rfl
 | _::_,[],_=>rfl
 | i::js,q::qs,h=>by
  have h1:¬ kN i=kN j:=fun z=>h (by
   have:=Int.ofNat.inj (Sum.inl.inj z);rw[this];exact yaD)
  show valV ((kN i,V.ref q)::zdM js qs) (kN j)=none;rw[zbz h1];exact zkU fun z=>h (yaF _ z)
theorem zjO {j:Nat}{q:Addr}:∀{js:List Nat} {qs:List Addr} {i:Nat},js.Nodup→js[i]?=some j→qs[i]?=some q→valV (zdM js qs) (kN j)=some (.ref q)
 | [],_,_,_,h,_=>by simp at h
 | _::_,[],_,_,_,h=>by simp at h
 | a::js,b::qs,0,_,h1,h2=>by
  have:=yad (show some a=some j from h1);subst this;have:=yad (show some b=some q from h2);subst this;exact zcM (p:=(kN a,V.ref b)) rfl
 | a::js,b::qs,i+1,hn,h1,h2=>by
  have g1:js[i]?=some j:=by simpa using h1
  have hne:¬ kN a=kN j:=fun z=>by
   have e:=Int.ofNat.inj (Sum.inl.inj z);exact (yaW.mp hn).1 (e ▸ yaE g1)
  show valV ((kN a,V.ref b)::zdM js qs) (kN j)=_;rw[zbz hne];exact zjO (yaW.mp hn).2 g1 (by simpa using h2)
theorem zkT {j:Nat}{q:Addr}:∀{js:List Nat} {qs:List Addr},js.length=qs.length→zdM (js++[j]) (qs++[q])=zdM js qs++[(kN j,.ref q)]
 | [],[],_=>rfl
 | [],_::_,h=>by cases h
 | _::_,[],h=>by cases h
 | a::js,b::qs,h=>by
  show (kN a,V.ref b)::zdM (js++[j]) (qs++[q])=(kN a,V.ref b)::(zdM js qs++[(kN j,V.ref q)]);rw[zkT (Nat.succ.inj h)]
theorem zqC {j:Nat}{q:Addr}{js:List Nat}{qs:List Addr}(hl:js.length=qs.length)(h:j∉js):putK (zdM js qs) (kN j) (.ref q)=zdM (js++[j]) (qs++[q]):=by
 rw[zeJ _ (zkU h),zkT hl]
theorem znd:∀{js:List Nat} {qs:List Addr},js.length=qs.length→(zdM js qs).length=js.length
 | [],[],_=>rfl
 | [],_::_,h=>by cases h
 | _::_,[],h=>by cases h
 | a::js,b::qs,h=>by
  show (zdM js qs).length+1=js.length+1;rw[znd (Nat.succ.inj h)]
theorem zpi {l:List Nat}(h:l.Pairwise (· > ·)){i j c:Nat}(hj:l[i]?=some j)(hc:c∈l)(hcj:j < c):c∈l.take i:=by
 obtain ⟨u,hu,rfl⟩:=yaO hc;obtain ⟨hi,rfl⟩:=yak.mp hj;have:u < i:=by
  refine Nat.lt_of_not_le fun z=>?_;by_cases e:i=u
  ·subst e;omega
  ·have:=yaY.mp h i u hi hu (by omega);omega
 rw[List.mem_iff_getElem?];exact ⟨u,by rw[yb1,if_pos this,yac hu]⟩
theorem zoU {ps:List Nat}(T:zay ps){k j c:Nat}(h:isB ps k j=true)(hc:par ps c=some j):isB ps k c=true:=by
 by_cases e:c=k
 ·rw[e];exact zcq
 ·rw[zb5 T e hc];exact h
def zrp (K:Frag):Sp:=fun vs H Q _=>∃(st:Addr) (ps:List Nat) (rows:List (List Int)) (t rs:Addr) (as:List Addr) (j:Nat),vs=[.ref st,.int j]∧zbx H st ps rows t rs as∧j < ps.length+1∧
 ∀(D:Addr) (us:List V) (H':Hp),H D=none→Same H H'→H' D=some (.lst us)→zal K H' (ownE rows j) us→Q (.ref D) H'
theorem zrN (T:Txt K mg)(D_own_entries:DF K mg "own_entries" zcl zb2):FC P w K mg base 1 "own_entries" zb2 (zrp K):=by
 refine D_own_entries.ok sc_own_entries (fun vs H Q E h=>?_) (fun f cdv A outer s H vs Q E hr h=>?_)
 ·obtain ⟨st,ps,rows,t,rs,as,k,rfl,_⟩:=h;rfl
 obtain ⟨st,ps,rows,t,rs,as,j,rfl,S4,hjn,q⟩:=h;refine ⟨_,(zae (zau (zbS (N:=["key","knot"]) (own:=1) (cap:=[1]) rfl (zdF (zaD zaO (zaD zaO (pv 0) zaf (fun _ _=>rfl)) (pv 1) (fun _ _=>rfl))) ⟨rfl,rfl,rfl,rfl,rfl,rfl⟩ (fun _ _ _ _ _=>(zar (i:=0) (show List.Nodup (["key","knot"]:List Str) by decide +kernel) rfl (Or.inl rfl))) (fun _ _ _ _ _=>zcD) (fun _ _ _ _ _=>(za6 (zaa (pv 0) (zaa (pv 1) zad))))))),?_⟩;obtain ⟨a,ha1,ha4⟩:=S4.at_.get (k:=j) (by rw[S4.len];exact hjn);have hkeys:=S4.keys;refine ⟨_,rfl,_,_,_,_,rfl,rfl,SqT.of S4.st,rfl,_,rfl,_,_,_,_,rfl,rfl,SqT.of S4.rs,zbI ha1,a,rfl,⟨_,SqT.of ha4⟩,fun D3 hD3=>?_⟩;refine zdv (xs:=(zap rows j).map V.int) (fun m σ H5=>∃(us:List V) (x0:Option V),σ=[x0,some (.int j)]∧H5 D3=some (.lst us)∧zal K H5 ((ownE rows j).take m) us∧But D3 H H5) ?_ ?_ ?_ ?_
 ·exact ⟨[],_,rfl,zab,.nil,fun b o n e=>by rw[zag n];exact e⟩
 ·rintro m σ H5 _ ⟨us,x0,rfl,_,_,k5⟩;exact SqT.of (k5 _ _ (zac ha4 hD3) ha4)
 ·rintro m r x σ H5 hx hm ⟨us,x0,rfl,h5,hw5,k5⟩;rw[yar]at hx;obtain ⟨y,hy,rfl⟩:=ybq.mp hx;have hlow:=(yak.mp hy).1;have htk3:(ownE rows j).take (m+1)=(ownE rows j).take m++[(y,(j:Int))]:=by
   unfold ownE;rw[← ybC,← ybC,yaQ hlow,yat];rw[(yak.mp hy).2];rfl
  have hul:=hw5.length;rw[yaq]at hul;rw[yab]at hm;have hrl:(zap rows j).length≤zbT rows:=by
   have:=zpn S4.len (k:=j) (ps:=ps);have e2:wtR ps rows j=(zap rows j).length+_:=zlW S4.T _ hjn;omega
  refine zdz ?_;refine ⟨_,rfl,_,rfl,(by show 2≤sizeLine;decide),fun u hu=>?_⟩;have su:=zai hu (.tup [.int y,.int (j:Int)]);have h6:=su _ _ h5;have hut:upd H5 u (.tup [.int y,.int (j:Int)]) u=some (.tup [.int y,.int (j:Int)]):=zab;have k6:=k5.new' hu (.tup [.int y,.int (j:Int)]);have hw6:=hw5.mono su.ext;generalize upd H5 u (.tup [.int y,.int (j:Int)])=H6 at su h6 hut k6 hw6 ⊢;refine ⟨_,h6,zao (by omega),r - 1,by omega,by rw[yab];omega,us++[.ref u],_,rfl,zab,?_,fun b o n e=>by rw[zag n];exact k6 b o n e⟩;rw[htk3];exact (zaQ h6 hw6).append (zaQ h6 (.cons ⟨u,.int y,.int (j:Int),rfl,hut,rfl,rfl⟩ .nil))
 ·rintro σ H5 ⟨us,x0,rfl,h5,hw5,k5⟩;rw[yab,yas (by unfold ownE;rw[yab];exact yaa _)]at hw5;exact q D3 us H5 hD3 (fun x o e=>k5 x o (zac e hD3) e) h5 hw5
def zrs (K:Frag):Sp:=fun vs H Q _=>∃(st:Addr) (ps:List Nat) (rows:List (List Int)) (t rs:Addr) (as:List Addr) (k:Nat),vs=[.ref st,.int k]∧zbx H st ps rows t rs as∧k < ps.length+1∧
 ∀(D:Addr) (qs:List Addr) (H':Hp),H D=none→Same H H'→H' D=some (.dK (zdM (benL ps k (ps.length+1)).reverse qs))→qs.Nodup→(∀ q∈qs,H q=none)→zaG K H' ps rows (benL ps k (ps.length+1)).reverse qs→Q (.ref D) H'
theorem zrT (T:Txt K mg)(D_full_rows_beneath:DF K mg "full_rows_beneath" za9 za3)(F_beneath:FC P w K mg base 1 "beneath" zed (ziD K))(F_children:FC P w K mg base 1 "children" zdn (zgY K))(F_handed:FC P w K mg base 6 "handed" zdE (zhE K))(F_own_entries:FC P w K mg base 1 "own_entries" zb2 (zrp K))(F_joined_up:FC P w K mg base 1 "joined_up" zb9 (zmq K)):FC P w K mg base 7 "full_rows_beneath" za3 (zrs K):=by
 refine D_full_rows_beneath.ok sc_full_rows_beneath (fun vs H Q E h=>?_) (fun f cdv A outer s H vs Q E hr h=>?_)
 ·obtain ⟨st,ps,rows,t,rs,as,k,rfl,_⟩:=h;rfl
 obtain ⟨st,ps,rows,t,rs,as,k,rfl,S,hk,q⟩:=h;refine ⟨_,(zah (zas (i:=2) sc_full_rows_beneath.nd rfl (Or.inl rfl) (zaD zaO (pv 0) zaf (fun _ _=>rfl)))
   (zah (zas (i:=3) sc_full_rows_beneath.nd rfl (Or.inr rfl) zkH)
   (zah (za2 PassesOwn.never rfl (zjC rfl T.m_reversed (zaa (zaA F_beneath hr (zaa (pv 2) (zaa (pv 1) zad))) zad)) (zar (i:=4) sc_full_rows_beneath.nd rfl (Or.inl rfl)) (zah (zen (i:=5) (N:=["child","told"]) (own:=1) (cap:=[3]) sc_full_rows_beneath.nd rfl rfl rfl (zbQ (zaA F_children hr (zaa (pv 2) (zaa (pv 4) zad)))) ⟨rfl,rfl,rfl,rfl,rfl,rfl⟩ (fun _ _ _ _ _=>(zar (i:=0) (show List.Nodup (["child","told"]:List Str) by decide +kernel) rfl (Or.inl rfl))) (fun _ _ _ _ _=>zcD) (fun _ _ _ _ _=>(zaA F_handed hr (zaa (zeo (ze4 hr) (pv 1) (pv 0) (fun _ _=>rfl)) zad))))
   (zah (zbi (zeW F.plainAttrs_list F.slot_list_append F.type_list_append zaU (pv 5) (zaa (zaA F_own_entries hr (zaa (pv 0) (zaa (pv 4) zad))) zad)))
   (zae (zfo (ze4 hr) (pv 3) (pv 4) (zaA F_joined_up hr (zaa (pv 5) zad)) rfl)))))
   (zae (zau (pv 3)))))),?_⟩
 refine ⟨_,rfl,_,_,_,_,rfl,rfl,SqT.of S.st,rfl,fun D hD=>?_⟩;have s0:=zai hD (.dK []);have hD0:upd H D (.dK []) D=some (.dK []):=zab;generalize upd H D (.dK [])=H0 at s0 hD0 ⊢;refine ⟨_,rfl,_,rfl,t,ps,k,rfl,s0 _ _ S.tr,S.T,hk,by have:=S.few;omega,fun b H1 hb s1 h1=>?_⟩;refine ⟨b,_,rfl,SqL.of h1,?_⟩;have hup:=zj7 ps k (ps.length+1);have hmem:=fun j=>zcs (ps:=ps) (k:=k) (n:=ps.length+1) (j:=j);have hbl:=zk8 ps k (ps.length+1);generalize benL ps k (ps.length+1)=bs at h1 q hup hmem hbl ⊢;have hdn:bs.reverse.Pairwise (· > ·):=by
  rw[List.pairwise_reverse];exact hup
 have hnd:bs.reverse.Nodup:=List.Pairwise.imp (fun {a b} (q:a > b)=>ybo q) hdn;refine zqR (xs:=bs.map nV) (fun i σ H2=>∃(qs:List Addr) (x5 x6:Option V),σ=[some (.ref st),some (.int k),some (.ref t),some (.ref D),x5,x6]∧H2 D=some (.dK (zdM (bs.reverse.take i) qs))∧qs.Nodup∧(∀ q∈qs,H q=none)∧zaG K H2 ps rows (bs.reverse.take i) qs∧H2 b=some (.lst (bs.map nV))∧But D H H2) ?_ ?_ ?_ ?_
 ·exact ⟨[],_,_,rfl,s1 _ _ hD0,ybr,(fun q hq=>nomatch hq),.nil,h1,fun x o _ e=>s1 _ _ (s0 _ _ e)⟩
 ·rintro i σ H2 _ ⟨qs,x5,x6,rfl,_,_,_,_,h2b,_⟩;exact SqL.of h2b
 ·rintro i x σ H2 hx ⟨qs,x5,x6,rfl,h2,hqn,hqf,hF,h2b,k2⟩;rw[← List.map_reverse]at hx;obtain ⟨hi,hxe⟩:=zk2 hx;have hji:bs.reverse[i]?=some (bs.reverse.getD i 0):=by
   rw[yae,yac hi];rfl
  subst hxe;have htk:bs.reverse.take (i+1)=bs.reverse.take i++[bs.reverse.getD i 0]:=by
   rw[yaQ hi,yae,yac hi];rfl
  rw[htk];generalize bs.reverse.getD i 0=j at hji htk ⊢;have hjm:j∈bs:=yb2.mp (yaE hji);obtain ⟨hjn,hjB⟩:=(hmem j).mp hjm;have hjnot:j∉bs.reverse.take i:=fun z=>by
   have hnd':=hnd;rw[← yaS (i+1) bs.reverse,htk]at hnd';have:=(ybc.mp hnd').1;exact (ybc.mp this).2.2 j z j (yal.mpr rfl) rfl
  have noD:∀{p:Addr} {o:HO},H p=some o→p≠D:=fun {p o} e=>zac e hD;have S2:zbx H2 st ps rows t rs as:=⟨k2 _ _ (noD S.st) S.st,k2 _ _ (noD S.tr) S.tr,k2 _ _ (noD S.rs) S.rs,zaN.keep (p:=D) (d:=D) (fun a row e=>noD e) k2 S.at_,S.len,S.T,S.R,S.few,S.keys⟩;have hkeys:=S.keys;have hfew:=S.few;refine ⟨_,rfl,_,rfl,t,ps,j,rfl,S2.tr,by omega,fun c H3 hc s3 h3=>?_⟩;refine ⟨c,rfl,⟨_,SqL.of h3⟩,fun D2 hD2=>?_⟩;have hcmem:=fun m=>zaK (ps:=ps) (k:=j) (n:=ps.length+1) (j:=m);have hcl:=zhm ps j (ps.length+1);have hparts:zdI ps rows j=((zch ps j (ps.length+1)).map fun c=>zcr (zak ps rows c))++[ownE rows j]:=rfl;generalize zch ps j (ps.length+1)=cs at h3 hcmem hcl hparts ⊢;have h3D:=s3 _ _ h2;have nDD2:D≠D2:=zac h3D hD2;have F3:zaG K H3 ps rows (bs.reverse.take i) qs:=hF.same s3;refine zbX (xs:=cs.map nV) (fun m σ H4=>∃(gs:List Addr) (x0:Option V),σ=[x0,some (.ref D)]∧H4 D2=some (.lst (gs.map V.ref))∧Own K H4 gs ((cs.take m).map fun c=>zcr (zak ps rows c))∧D2∉gs∧But D2 H3 H4) ?_ ?_ ?_ ?_
  ·exact ⟨[],_,rfl,zab,.nil,(fun z=>nomatch z),fun b o n e=>by rw[zag n];exact e⟩
  ·rintro m σ H4 _ ⟨gs,x0,rfl,_,_,_,k4⟩;exact k4.sq (SqL.of h3) hD2
  ·rintro m r x σ H4 hx hm ⟨gs,x0,rfl,h4,hO,hg,k4⟩;obtain ⟨hmi,rfl⟩:=zk2 hx;have hcm:cs[m]?=some (cs.getD m 0):=by
    rw[yae,yac hmi];rfl
   have htk2:cs.take (m+1)=cs.take m++[cs.getD m 0]:=by
    rw[yaQ hmi,yae,yac hmi];rfl
   rw[htk2];generalize cs.getD m 0=ch at hcm ⊢;obtain ⟨hchn,hchp⟩:=(hcmem ch).mp (yaE hcm);have hlt:=(zaM S.T hchp).1;have hin:ch∈bs.reverse.take i:=zpi hdn hji (yb2.mpr ((hmem ch).mpr ⟨hchn,zoU S.T hjB hchp⟩)) hlt;obtain ⟨u,hu,hue⟩:=yaO hin;have hu2:(bs.reverse.take i)[u]?=some ch:=by rw[yac hu,hue]
   obtain ⟨qq,hq1,ws,hq2,hq3⟩:=F3.get hu2;have hnd2:(bs.reverse.take i).Nodup:=hnd.sublist (List.take_sublist _ _);have hv:=zjO hnd2 hu2 hq1;have k4D:=k4 _ _ nDD2 h3D;have hq4:=k4 _ _ (zac hq2 hD2) hq2;have hq5:zal K H4 (zak ps rows ch) ws:=by
    have key:∀{es:List (Int×Int)} {vs:List V},zal K H3 es vs→zal K H4 es vs:=by
     intro es vs hh
     induction hh with
     | nil=>exact .nil
     | cons a _ ih=>
      obtain ⟨b,x1,x2,rfl,q,e1,e2⟩:=(show hasP K H3 _ _ from a);exact .cons ⟨b,x1,x2,rfl,k4 _ _ (zac q hD2) q,e1,e2⟩ ih
    exact key hq3
   have hlen:=zdt S.T S.len (rows:=rows) hchn;refine zdz ?_;have hdg:DGet H4 D (.int (ch:Int)) (some (.ref qq)):=by
    rw[← hv];exact DGet.k (k:=kN ch) k4D
   refine ⟨_,rfl,_,rfl,D,_,rfl,hdg,?_⟩;refine ⟨qq,ws,zak ps rows ch,rfl,hq4,hq5,by omega,ze5 S.T S.R hfew hchn,zaF S.T S.R hchn,fun g H5 hg5 s5 h5=>?_⟩;have hgl:=hO.length;rw[yab,yaq]at hgl;have h5D2:=s5 _ _ h4;have ngD2:D2≠g:=zac h4 hg5;rw[yab]at hm;refine ⟨_,h5D2,zao (by rw[yab];omega),r - 1,by omega,by rw[yab];omega,gs++[g],_,rfl,?_,?_,?_,fun x o n e=>by rw[zag n];exact s5 _ _ (k4 x o n e)⟩
   ·rw[zab,yat];rfl
   ·rw[yat];refine Own.other h5D2 (Own.append (hO.ext s5.ext) (.cons ⟨_,h5,?_⟩ .nil)) ?_
    ·exact zf7 (hq5.mono s5.ext)
    ·intro z;rcases yaj.mp z with z | z
     ·exact hg z
     ·exact ngD2 (yal.mp z)
   ·intro z;rcases yaj.mp z with z | z
    ·exact hg z
    ·exact ngD2 (yal.mp z)
  ·rintro σ H4 ⟨gs,x0,rfl,h4,hO,hg,k4⟩;rw[yab,yas (yaa _)]at hO;have hgl:=hO.length;rw[yab]at hgl;have s34:Same H3 H4:=fun x o e=>k4 x o (zac e hD2) e;have s24:Same H2 H4:=s3.trans s34;have S4:=S2.same s24;refine ⟨_,rfl,.inl ⟨rfl,_,SqL.of h4⟩,_,rfl,_,rfl,st,ps,rows,t,rs,as,j,rfl,S4,hjn,fun D3 us H5 hD3 s45 h5 hw5=>?_⟩;have h5D2:=s45 _ _ h4;have n23:D2≠D3:=zac h4 hD3;refine ⟨_,_,_,rfl,rfl,h5D2,zao (by rw[yab];omega),?_⟩;have O5:Own K H5 (gs++[D3]) (zdI ps rows j):=by
    rw[hparts];exact Own.append (hO.ext s45.ext) (.cons ⟨us,h5,hw5⟩ .nil)
   have nin:D2∉gs++[D3]:=fun z=>by
    rcases yaj.mp z with z | z
    ·exact hg z
    ·exact n23 (yal.mp z)
   have O6:=O5.other (o:=.lst (gs.map V.ref++[.ref D3])) h5D2 nin;have h6:upd H5 D2 (.lst (gs.map V.ref++[.ref D3])) D2=some (.lst ((gs++[D3]).map V.ref)):=by
    rw[zab,yat];rfl
   have k26:∀ x o,H2 x=some o→upd H5 D2 (.lst (gs.map V.ref++[.ref D3])) x=some o:=fun x o e=>by
    rw[zag (zac (s3 _ _ e) hD2)];exact s45 _ _ (s24 _ _ e)
   generalize upd H5 D2 (.lst (gs.map V.ref++[.ref D3]))=H6 at O6 h6 k26 ⊢;have hfl:(zdI ps rows j).flatten.length≤1000:=by
    have:=zdt S.T S.len (rows:=rows) hjn;rw[zb6 S.T hjn,zcN]at this;omega
   refine ⟨_,rfl,D2,gs++[D3],zdI ps rows j,rfl,h6,O6,hfl,fun p ws H7 hp s7 h7 hw7=>?_⟩;rw[← zb6 S.T hjn]at hw7;have s27:Same H2 H7:=fun x o e=>s7 _ _ (k26 x o e);have h7D:=s27 _ _ h2;have hql:=hF.length;have hpD:p≠D:=Ne.symm (zac (k26 _ _ h2) hp);refine ⟨_,rfl,_,rfl,D,_,rfl,DPut.k (k:=kN j) h7D (zao (by rw[znd hql,yaq,yb5];omega)),?_⟩;rw[zqC hql hjnot];have e78:Ext H7 (upd H7 D (.dK (zdM (bs.reverse.take i++[j]) (qs++[p])))):=fun x o e n=>by
    rw[zag (fun z=>by
     rw[z,h7D]at e;cases e
     exact n _ rfl)]
    exact e
   have F8:zaG K (upd H7 D (.dK (zdM (bs.reverse.take i++[j]) (qs++[p])))) ps rows (bs.reverse.take i++[j]) (qs++[p]):=by
    exact zaG.ext e78 (zaG.snoc (hF.same s27) ⟨ws,h7,hw7⟩)
   refine ⟨qs++[p],_,_,rfl,zab,?_,?_,F8,?_,fun x o n e=>?_⟩
   ·rw[ybc];refine ⟨hqn,yaW.mpr ⟨(fun z=>nomatch z),ybr⟩,fun a ha b hb z=>?_⟩;rw[yal.mp hb]at z;subst z;obtain ⟨ws',hws⟩:=hF.alloc a ha;have:=k26 _ _ hws;rw[hp]at this;cases this
   ·intro x hx;rcases yaj.mp hx with z | z
    ·exact hqf x z
    ·rw[yal.mp z];cases e:H p with
     | none=>rfl
     | some o=>
      have:=k26 _ _ (k2 p o hpD e);rw[hp]at this;cases this
   ·rw[zag (fun z=>by rw[z,h2]at h2b;cases h2b)]
    exact s27 _ _ h2b
   ·rw[zag n];exact s27 _ _ (k2 x o n e)
 ·rintro σ H2 ⟨qs,x5,x6,rfl,h2,hqn,hqf,hF,h2b,k2⟩;refine ⟨_,rfl,?_⟩;rw[yab,yas (by rw[yb5];exact yaa _)]at h2 hF;exact q D qs H2 hD (fun x o e=>k2 x o (zac e hD) e) h2 hqn hqf hF
def zms (K:Frag):Sp:=fun vs H Q _=>∃(st:Addr) (ps:List Nat) (rows:List (List Int)) (t rs:Addr) (as:List Addr),vs=[.ref st]∧zbx H st ps rows t rs as∧
 ∀(p:Addr) (qs:List Addr) (H':Hp),H p=none→Same H H'→H' p=some (.lst (qs.map V.ref))→qs.Nodup→(∀ q∈qs,H q=none)→p∉qs→zaG K H' ps rows (List.range (ps.length+1)) qs→Q (.ref p) H'
theorem zhN {n i:Nat}(h:i < n):(List.range n).reverse[n - 1 - i]?=some i:=by
 rw[ycA (by rw[ybb];omega),ybb,yck (by omega)];congr 1;omega
theorem zoD (T:Txt K mg)(D_full_rows:DF K mg "full_rows" zde zcT)(F_full_rows_beneath:FC P w K mg base 7 "full_rows_beneath" za3 (zrs K)):FC P w K mg base 8 "full_rows" zcT (zms K):=by
 refine D_full_rows.ok sc_full_rows (fun vs H Q E h=>?_) (fun f cdv A outer s H vs Q E hr h=>?_)
 ·obtain ⟨st,ps,rows,t,rs,as,rfl,_⟩:=h;rfl
 obtain ⟨st,ps,rows,t,rs,as,rfl,S,q⟩:=h;refine ⟨_,(zah (zas (i:=1) sc_full_rows.nd rfl (Or.inr rfl) (zaA F_full_rows_beneath hr (zaa (pv 0) (zaa zaf zad))))
   (zae (zau (zbS (N:=["knot","told"]) (own:=1) (cap:=[1]) rfl (zaY rfl T.m_range (zaa (zam zan rfl T.m_len boot_len (zaa (zaD zaO (pv 0) zaf (fun _ _=>rfl)) zad)) zad)) ⟨rfl,rfl,rfl,rfl,rfl,rfl⟩ (fun _ _ _ _ _=>(zar (i:=0) (show List.Nodup (["knot","told"]:List Str) by decide +kernel) rfl (Or.inl rfl))) (fun _ _ _ _ _=>zcD) (fun _ _ _ _ _=>(zeo (ze4 hr) (pv 1) (pv 0) (fun _ _=>rfl))))))),?_⟩
 refine ⟨_,rfl,st,ps,rows,t,rs,as,0,rfl,S,by omega,fun D qs H1 hD s1 h1 hqn hqf hF=>?_⟩;rw[znO S.T]at h1 hF;have S1:=S.same s1;have hfew:=S.few;have hql:=hF.length;rw[yb5,ybb]at hql;refine ⟨_,rfl,_,_,_,_,rfl,rfl,SqT.of S1.st,rfl,_,_,rfl,.inr (SqT.of S1.tr),_,rfl,by omega,by rw[zat];omega,fun p hp=>?_⟩;have el:((((zbJ ps).length:Nat):Int)).toNat=ps.length+1:=by rw[zat,ya5]
 rw[el];refine zc9 (n:=ps.length+1) (fun i σ H2=>∃ x0:Option V,σ=[x0,some (.ref D)]∧H2 p=some (.lst ((qs.reverse.take i).map V.ref))∧But p H1 H2) ?_ ?_ ?_
 ·exact ⟨_,rfl,zab,fun b o n e=>by rw[zag n];exact e⟩
 ·rintro i m σ H2 hm hi ⟨x0,rfl,h2,k2⟩;rw[ybe];have hi2:i < qs.reverse.length:=by rw[yb5];omega
  have hq1:qs[ps.length+1 - 1 - i]?=some qs.reverse[i]:=by
   have:=ycA (l:=qs) (i:=i) (by omega);rw[yac hi2]at this;rw[this];congr 1;omega
  have hv:=zjO (ziQ List.nodup_range) (zhN hi) hq1;have h2D:=k2 _ _ (zac h1 hp) h1;have hdg:DGet H2 D (.int (i:Int)) (some (.ref qs.reverse[i])):=by
   rw[← hv];exact DGet.k (k:=kN i) h2D
  refine zdz ?_;refine ⟨_,rfl,_,rfl,D,_,rfl,hdg,?_⟩;refine ⟨_,h2,zao (by rw[yab,yaq];omega),m - 1,by omega,by omega,_,rfl,?_,fun b o n e=>by rw[zag n];exact k2 b o n e⟩;rw[zab,yaQ hi2,yat];rfl
 ·rintro σ H2 ⟨x0,rfl,h2,k2⟩;rw[yas (by rw[yb5];omega)]at h2;have s2:Same H1 H2:=fun b o e=>k2 b o (zac e hp) e;have F2:=(hF.same s2).rev;rw[ycx]at F2;refine q p qs.reverse H2 ?_ (s1.trans s2) h2 (ziQ hqn) (fun x hx=>hqf x (yb2.mp hx)) (fun z=>?_) F2
  ·cases e:H p with
   | none=>rfl
   | some o=>
    have:=s1 _ _ e;rw[hp]at this;cases this
  ·obtain ⟨ws,hws⟩:=hF.alloc p (yb2.mp z);rw[hp]at hws;cases hws
abbrev En:=Int×Int
theorem zd5 {l:List En}(h:Rise l):l.Nodup:=List.Pairwise.imp (fun {a b} (q:pLt a b=true) z=>by
 subst z;have:=zc0.mp q;omega) h
theorem zfl {l m:List En}(h1:Rise l)(h2:Rise m)(h:∀ e,e∈l↔e∈m):l=m:=by
 refine List.Perm.eq_of_pairwise (le:=fun a b=>pLt a b=true) (fun a b _ _ q1 q2=>?_) h1 h2 ((ycD (zd5 h1) (zd5 h2)).mpr h);have:=zc0.mp q1;have:=zc0.mp q2;omega
theorem zbu {ps:List Nat}(T:zay ps){rows:List (List Int)}{k:Nat}(hk:k < ps.length+1){e:En}:e∈zak ps rows k↔e∈ownE rows k∨∃ c,par ps c=some k∧e∈zcr (zak ps rows c):=by
 rw[zb6 T hk,zdC,ycn];unfold zdI;constructor
 ·rintro ⟨l,hl,he⟩;rcases yaj.mp hl with q | q
  ·obtain ⟨c,hc,rfl⟩:=yaG.mp q;exact .inr ⟨c,(zaK.mp hc).2,he⟩
  ·rw[yal.mp q]at he;exact .inl he
 ·rintro (h | ⟨c,hc,h⟩)
  ·exact ⟨_,yaj.mpr (.inr (yal.mpr rfl)),h⟩
  ·exact ⟨_,yaj.mpr (.inl (yaG.mpr ⟨c,zaK.mpr ⟨(zaM T hc).2,hc⟩,rfl⟩)),h⟩
inductive zij (K:Frag)(H:Hp):V→Bool→Prop where
 | int (i:Int):zij K H (.int i) true
 | bl (b:Bool):zij K H (.bl b) false
 | oth (x:V) (t:String) (ty:TyOf K H x (.type t)) (h2:kitO t "int" = some false):zij K H x false
def zju (K:Frag):Sp:=fun vs H Q _=>∃(x:V) (b:Bool),vs=[x]∧zij K H x b∧Q (.bl b) H
theorem zor (T:Txt K mg)(D_is_whole:DF K mg "is_whole" zd3 zcF):FC P w K mg base 1 "is_whole" zcF (zju K):=by
 refine D_is_whole.ok sc_is_whole (fun vs H Q E h=>?_) (fun f cdv A outer s H vs Q E hr h=>?_)
 ·obtain ⟨x,b,rfl,_⟩:=h;rfl
 obtain ⟨x,b,rfl,hk,q⟩:=h;refine ⟨_,(zae (zau (zmI (zam zbY rfl T.m_isinstance boot_isinstance (zaa (pv 0) (zaa (zbj (v:=.ty "int") rfl T.m_int boot_int rfl) zad))) (zmH (zrF (zam zbY rfl T.m_isinstance boot_isinstance (zaa (pv 0) (zaa (zbj (v:=.ty "bool") rfl T.m_bool boot_bool rfl) zad)))))))),?_⟩;cases hk with
 | int i=>
  refine ⟨_,rfl,_,_,_,_,rfl,.int _,zr7,_,rfl,?_⟩;refine iteT ?_;refine ⟨_,rfl,_,_,_,_,rfl,.int _,zpG,_,rfl,?_⟩;exact q
 | bl c=>
  refine ⟨_,rfl,_,_,_,_,rfl,.bl _,(show kitO "bool" "int" = some true by decide +kernel),_,rfl,?_⟩;refine iteT ?_;refine ⟨_,rfl,_,_,_,_,rfl,.bl _,zr8,_,rfl,?_⟩;exact q
 | oth x t ty h2=>
  refine ⟨_,rfl,_,_,_,_,rfl,ty,h2,_,rfl,?_⟩;refine iteF ?_;exact q
inductive zpk (K:Frag)(H:Hp):V→Bool→Prop where
 | int (i:Int) (b:Bool) (h:b=decide ((if i < 0 then -i else i) < 10 ^ 60)):zpk K H (.int i) b
 | bl (b:Bool):zpk K H (.bl b) false
 | oth (x:V) (t:String) (ty:TyOf K H x (.type t)) (h1:kitO t "bool" = some false) (h2:kitO t "int" = some false):zpk K H x false
def zjx (K:Frag):Sp:=fun vs H Q _=>∃(x:V) (b:Bool),vs=[x]∧zpk K H x b∧Q (.bl b) H
theorem zoC (T:Txt K mg)(D_is_key:DF K mg "is_key" zfX zdD)(F_is_whole:FC P w K mg base 1 "is_whole" zcF (zju K)):FC P w K mg base 2 "is_key" zdD (zjx K):=by
 refine D_is_key.ok sc_is_key (fun vs H Q E h=>?_) (fun f cdv A outer s H vs Q E hr h=>?_)
 ·obtain ⟨x,b,rfl,_⟩:=h;rfl
 obtain ⟨x,b,rfl,hk,q⟩:=h;refine ⟨_,(zae (zau (zmI (zaA F_is_whole hr (zaa (pv 0) zad)) (zmH (zhR zhV (zam zig rfl T.m_abs boot_abs (zaa (pv 0) zad)) (zaw zg4 zaf zaf) (zaH _)))))),?_⟩;cases hk with
 | int i b hb=>
  refine ⟨_,rfl,_,true,rfl,.int i,_,rfl,?_⟩;refine iteT ?_;refine ⟨_,rfl,_,rfl,_,_,rfl,rfl,⟨by decide,by decide,by decide⟩,_,_,rfl,rfl,?_⟩;rw[hb]at q;exact q
 | bl c=>
  refine ⟨_,rfl,_,false,rfl,.bl c,_,rfl,?_⟩;refine iteF ?_;exact q
 | oth x t ty h1 h2=>
  refine ⟨_,rfl,_,false,rfl,.oth x t ty h2,_,rfl,?_⟩;refine iteF ?_;exact q
def zjy (K:Frag):Sp:=fun vs H Q _=>∃(m x:Int),vs=[.int m,.int x]∧0≤x∧x < m∧Q (.bl true) H
theorem zoF (T:Txt K mg)(D_is_one_of_first:DF K mg "is_one_of_first" zbq zaX)(F_is_whole:FC P w K mg base 1 "is_whole" zcF (zju K)):FC P w K mg base 2 "is_one_of_first" zaX (zjy K):=by
 refine D_is_one_of_first.ok sc_is_one_of_first (fun vs H Q E h=>?_) (fun f cdv A outer s H vs Q E hr h=>?_)
 ·obtain ⟨m,x,rfl,_⟩:=h;rfl
 obtain ⟨m,x,rfl,h0,h1,q⟩:=h;refine ⟨_,(zae (zau (zmI (zaA F_is_whole hr (zaa (pv 1) zad)) (zmH (zol zqi zhV zaf (pv 1) (pv 0)))))),?_⟩;refine ⟨_,rfl,_,true,rfl,.int x,_,rfl,?_⟩;refine iteT ?_;refine ⟨_,rfl,_,_,rfl,rfl,_,rfl,?_⟩;refine zsf h0 ?_;refine ⟨_,rfl,_,_,rfl,rfl,?_⟩;show Q (.bl (decide (x < m))) H;rw[yag h1];exact q
def zhq (x:Key):Prop:=∃ a:Int,x=.inl a∧-(10 ^ 60) < a∧a < 10 ^ 60
def toI:Key→Int
 | .inl a=>a
 | _=>0
theorem zp9 {kvs:List (Key×V)}{x:Key}{v:V}(h1:(kvs.map (·.1)).Nodup)(h2:∀ y∈kvs.map (·.1),zhq y)(hx:zhq x):((putK kvs x v).map (·.1)).Nodup∧∀ y∈(putK kvs x v).map (·.1),zhq y:=by
 rw[zmD];split
 ·exact ⟨h1,h2⟩
 ·rename_i c;refine ⟨?_,fun y hy=>?_⟩
  ·rw[ybc];refine ⟨h1,yaW.mpr ⟨(fun z=>nomatch z),ybr⟩,fun a ha b hb z=>?_⟩;rw[yal.mp hb]at z;subst z;obtain ⟨p,hp,e⟩:=yaG.mp ha;exact c (List.any_eq_true.mpr ⟨p,hp,yag e⟩)
  ·rcases yaj.mp hy with z | z
   ·exact h2 y z
   ·rw[yal.mp z];exact hx
theorem zfG:∀{l:List Key},(∀ y∈l,zhq y)→l.map kV=(l.map toI).map V.int
 | [],_=>rfl
 | x::l,h=>by
  obtain ⟨a,rfl,_⟩:=h x yaD;show V.int a::l.map kV=V.int a::(l.map toI).map V.int;rw[zfG fun y hy=>h y (yaF _ hy)]
theorem ziw:∀{l:List Key},l.Nodup→(∀ y∈l,zhq y)→(l.map toI).Nodup
 | [],_,_=>ybr
 | x::l,hn,h=>by
  rw[yau,yaW];have hc:=yaW.mp hn;refine ⟨fun z=>?_,ziw hc.2 fun y hy=>h y (yaF _ hy)⟩;obtain ⟨y,hy,e⟩:=yaG.mp z;obtain ⟨a,rfl,_⟩:=h x yaD;obtain ⟨b,rfl,_⟩:=h y (yaF _ hy);have:b=a:=e;subst this;exact hc.1 hy
def zro (K:Frag):Sp:=fun vs H Q _=>∃(d L:Addr) (m:Int),vs=[.ref d,.int m]∧(0≤m∧m≤40)∧LS K L d H∧
 ∀(a:Addr) (row:List Int) (H':Hp),H a=none→row.Pairwise (· < ·)→(∀ x∈row,-(10 ^ 60) < x∧x < 10 ^ 60)→(row.length:Int)≤m→H' a=some (.tup (row.map V.int))→Keep d H H'→LS K L d H'→Q (.ref a) H'
theorem zqo (T:Txt K mg)(D_l_row:DF K mg "_law_row" zhJ zf3)(F_l_take:FC P w K mg base 2 "_law_take" zbO (zgf K))(F_l_key:FC P w K mg base 3 "_law_key" zeS (zp3 K)):FC P w K mg base 4 "_law_row" zf3 (zro K):=by
 refine D_l_row.ok sc_l_row (fun vs H Q E h=>?_) (fun f cdv A outer s H vs Q E hr h=>?_)
 ·obtain ⟨d,L,m,rfl,_⟩:=h;rfl
 obtain ⟨d,L,m,rfl,⟨hm0,hm1⟩,hs,q⟩:=h;refine ⟨_,(zah (zas (i:=2) sc_l_row.nd rfl (Or.inl rfl) zkH)
   (zah (za2 PassesOwn.never rfl (zaY rfl T.m_range (zaa (zaA F_l_take hr (zaa (pv 0) (zaa (zaw za7 (pv 1) zaf) zad))) zad)) (zar (i:=3) sc_l_row.nd rfl (Or.inl rfl)) (zae (zfo (ze4 hr) (pv 2) (zaA F_l_key hr (zaa (pv 0) zad)) zcZ rfl)))
   (zae (zau (zaT zaR rfl T.m_tuple boot_tuple (zaa (zam (zei Int) rfl T.m_sorted boot_sorted (zaa (zaT (zlP rfl) rfl T.m_list boot_list (zaa (pv 2) zad)) zad)) zad)))))),?_⟩
 intro g hg;have ngd:g≠d:=fun z=>by
  obtain ⟨_,_,_,e,_⟩:=hs.ex;rw[← z,hg]at e;cases e
 refine ⟨_,rfl,_,rfl,_,_,rfl,rfl,d,L,m+1,rfl,⟨by omega,by omega⟩,hs.of_new hg _,fun n H1 n0 n1 k1 s1=>⟨_,rfl,by omega,by omega,?_⟩⟩;refine za0 (n:=n.toNat) (fun i σ H2=>∃(kvs:List (Key×V)) (x3:Option V),σ=[some (.ref d),some (.int m),some (.ref g),x3]∧H2 g=some (.dK kvs)∧kvs.length≤i∧(kvs.map (·.1)).Nodup∧(∀ y∈kvs.map (·.1),zhq y)∧(∀ b o,b≠d→b≠g→H b=some o→H2 b=some o)∧LS K L d H2) ?_ ?_ ?_
 ·exact ⟨[],_,rfl,k1 g _ ngd zab,yaa _,ybr,fun y hy=>(by simp at hy),fun b o b1 b2 e=>k1 b o b1 (by rw[zag b2];exact e),s1⟩
 ·rintro i σ H2 hi ⟨kvs,x3,rfl,h2,hl,hn,hy,kk,s2⟩;refine ⟨_,rfl,_,rfl,d,L,rfl,s2,fun v H3 v0 v1 k3 s3=>?_⟩;have h3:H3 g=some (.dK kvs):=k3 g _ ngd h2;obtain ⟨p1,p2⟩:=zp9 (v:=.bl true) hn hy (x:=.inl v) ⟨v,rfl,v0,v1⟩;refine ⟨g,_,rfl,DPut.k (k:=.inl v) (kvs:=kvs) h3 (zao (by omega)),?_⟩;refine ⟨putK kvs (.inl v) (.bl true),_,rfl,zab,?_,p1,p2,?_,?_⟩
  ·have:=zdp kvs (Sum.inl v:Key) (.bl true);omega
  ·intro b o b1 b2 e;rw[zag b2];exact k3 b o b1 (kk b o b1 b2 e)
  ·exact LS.put hs hg (fun b o b1 b2 e=>k3 b o b1 (kk b o b1 b2 e)) s3
 ·rintro σ H2 ⟨kvs,x3,rfl,h2,hl,hn,hy,kk,s2⟩;refine ⟨_,rfl,g,kvs,rfl,h2,fun l hl1=>?_⟩;have ei:kvs.map (fun kv=>kV kv.1)=((kvs.map (·.1)).map toI).map V.int:=by
   rw[← zfG hy,ybA];rfl
  rw[ei];have e1:=zai hl1 (.lst (((kvs.map (·.1)).map toI).map V.int));refine ⟨l,_,_,rfl,SqL.of zab,zal.ints,fun l2 ws hl2 hw=>?_⟩;rw[hw.toInts];have e2:=zai hl2 (.lst ((zcJ ((kvs.map (·.1)).map toI)).map V.int));refine ⟨l2,_,rfl,.inl ⟨SqL.of zab,fun a ha=>?_⟩⟩;have e3:=zai ha (.tup ((zcJ ((kvs.map (·.1)).map toI)).map V.int));have e13:=e1.trans (e2.trans e3);have free:H a=none:=by
   have z2:H2 a=none:=e1.free (e2.free ha);cases z:H a with
   | none=>rfl
   | some o=>
    by_cases c1:a=d
    ·obtain ⟨_,_,_,e,_⟩:=s2.ex;rw[← c1,z2]at e;cases e
    ·by_cases c2:a=g
     ·rw[c2,h2]at z2;cases z2
     ·rw[kk a o c1 c2 z]at z2;cases z2
  refine q a _ _ free ?_ (fun x hx=>?_) ?_ zab (fun b o b1 e=>e13 _ _ (kk b o b1 (zac e hg) e)) (s2.same e13)
  ·exact List.Pairwise.imp (fun {a b} (h:Srt.blt a b=true)=>yaH h) (zdV (ziw hn hy))
  ·rw[zdC]at hx;obtain ⟨y,hy2,rfl⟩:=yaG.mp hx;obtain ⟨a,rfl,h1,h2⟩:=hy y hy2;exact ⟨h1,h2⟩
  ·rw[zcN,yab,yab];omega
def zpv (K:Frag):Sp:=fun vs H Q _=>∃(d L:Addr) (n m:Nat),vs=[.ref d,.int n,.int m]∧n≤40∧m≤40∧LS K L d H∧
 ∀(r:Addr) (as:List Addr) (rows:List (List Int)) (H':Hp),H r=none→zaN H' as rows→rows.length=n→zaC rows→(∀ row∈rows,row.length≤m)→H' r=some (.tup (as.map V.ref))→Keep d H H'→LS K L d H'→Q (.ref r) H'
theorem zaC.snoc {rows:List (List Int)}{row:List Int}(R:zaC rows)(h1:row.Pairwise (· < ·))(h2:∀ x∈row,-(10 ^ 60) < x∧x < 10 ^ 60):zaC (rows++[row]):=by
 refine ⟨fun r hr=>?_,fun r hr=>?_⟩
 ·rcases yaj.mp hr with z | z
  ·exact R.up r z
  ·rw[yal.mp z];exact h1
 ·rcases yaj.mp hr with z | z
  ·exact R.key r z
  ·rw[yal.mp z];exact h2
theorem zoz (T:Txt K mg)(D_l_rows:DF K mg "_law_rows" zfV zeR)(F_l_take:FC P w K mg base 2 "_law_take" zbO (zgf K))(F_l_row:FC P w K mg base 4 "_law_row" zf3 (zro K)):FC P w K mg base 5 "_law_rows" zeR (zpv K):=by
 refine D_l_rows.ok sc_l_rows (fun vs H Q E h=>?_) (fun f cdv A outer s H vs Q E hr h=>?_)
 ·obtain ⟨d,L,n,m,rfl,_⟩:=h;rfl
 obtain ⟨d,L,n,m,rfl,hn,hm,hs,q⟩:=h;refine ⟨_,(zah (zas (i:=3) sc_l_rows.nd rfl (Or.inl rfl) (zca zad))
   (zah (za2 PassesOwn.never rfl (zaY rfl T.m_range (zaa (pv 1) zad)) (zar (i:=4) sc_l_rows.nd rfl (Or.inl rfl)) (zah (zas (i:=5) sc_l_rows.nd rfl (Or.inl rfl) (zaA F_l_row hr (zaa (pv 0) (zaa (pv 2) zad))))
   (zaB (zaW (zav zfr (zaA F_l_take hr (zaa (pv 0) (zaa zaf zad))) zaf (zaH _)) (zae (zas (i:=5) sc_l_rows.nd rfl (Or.inl rfl) (za6 zad))) zax)
   (zaB (zaW (PW.pt (zg1 (zav zlt (pv 4) zaf (zaH _)) (zfn (zav zfr (zaA F_l_take hr (zaa (pv 0) (zaa zaf zad))) zaf (zaH _))))) (zae (zas (i:=5) sc_l_rows.nd rfl (Or.inl rfl) (zaD zaI (pv 3) (zaw zcb (pv 4) zaf) (fun _ _=>rfl)))) zax)
   (zae (zbi (zeW F.plainAttrs_list F.slot_list_append F.type_list_append zaU (pv 3) (zaa (pv 5) zad))))))))
   (zae (zau (zaT zaR rfl T.m_tuple boot_tuple (zaa (pv 3) zad)))))),?_⟩
 refine ⟨(by show 0≤sizeLine;decide),fun p hp=>?_⟩;have g0:=zai hp (.lst []);have ndT:∀{H':Hp} {a:Addr} {o:List V},LS K L d H'→H' a=some (.tup o)→a≠d:=fun {H' a o} s e z=>by
  obtain ⟨_,_,_,e2,_⟩:=s.ex;rw[← z,e]at e2;cases e2
 have nd:∀{H':Hp} {a:Addr},LS K L d H'→H' a=none→a≠d:=fun {H' a} s e z=>by
  obtain ⟨_,_,_,e2,_⟩:=s.ex;rw[← z,e]at e2;cases e2
 have hpd:p≠d:=nd hs hp;refine ⟨_,rfl,_,rfl,by omega,by omega,?_⟩;rw[ya5];refine za0 (n:=n) (fun i σ H2=>∃(as:List Addr) (rows:List (List Int)) (x4 x5:Option V),σ=[some (.ref d),some (.int n),some (.int m),some (.ref p),x4,x5]∧H2 p=some (.lst (as.map V.ref))∧zaN H2 as rows∧rows.length=i∧zaC rows∧(∀ row∈rows,row.length≤m)∧(∀ b o,b≠d→b≠p→H b=some o→H2 b=some o)∧LS K L d H2) ?_ ?_ ?_
 ·exact ⟨[],[],_,_,rfl,zab,.nil,rfl,⟨(fun r hr=>nomatch hr),(fun r hr=>nomatch hr)⟩,(fun r hr=>nomatch hr),fun b o _ n e=>g0 b o e,hs.same g0⟩
 ·rintro i σ H2 hi ⟨as,rows,x4,x5,rfl,h2,hA,hl,hR,hlen,k2,s2⟩;rw[ybe];have hal:=hA.length;have old:∀{H3:Hp} {b:Addr} {o:HO},(∀ b o,b≠d→H2 b=some o→H3 b=some o)→b≠d→b≠p→H b=some o→H3 b=some o:=fun k n1 n2 e=>k _ _ n1 (k2 _ _ n1 n2 e);refine ⟨_,rfl,_,rfl,d,L,m,rfl,⟨by omega,by omega⟩,s2,fun a row H3 ha hup hky hlr h3 k3 s3=>?_⟩;refine ⟨fun σ' H'=>∃(a:Addr) (row:List Int),σ'=[some (.ref d),some (.int n),some (.int m),some (.ref p),some (.int i),some (.ref a)]∧H' a=some (.tup (row.map V.int))∧row.Pairwise (· < ·)∧(∀ x∈row,-(10 ^ 60) < x∧x < 10 ^ 60)∧row.length≤m∧(∀ b o,b≠d→H2 b=some o→H' b=some o)∧LS K L d H',?_,?_⟩
  ·refine ⟨_,rfl,d,L,4,rfl,by decide,s3,fun v H4 _ _ k4 s4=>⟨rfl,_,rfl,?_⟩⟩;have h4:=k4 _ _ (ndT s3 h3) h3;refine ite2 (fun _=>?_) (fun _=>?_)
   ·refine ⟨(by show 0≤sizeLine;decide),fun u hu=>?_⟩;have su:=zai hu (.tup []);exact ⟨u,[],rfl,zab,.nil,(fun x hx=>nomatch hx),yaC _,fun b o n1 e=>su _ _ (k4 _ _ n1 (k3 _ _ n1 e)),s4.same su⟩
   ·exact ⟨a,row,rfl,h4,hup,hky,by omega,fun b o n1 e=>k4 _ _ n1 (k3 _ _ n1 e),s4⟩
  rintro σ' H4 ⟨a,row,rfl,h4,hup,hky,hlr,k4,s4⟩;refine ⟨fun σ' H'=>∃(a:Addr) (row:List Int),σ'=[some (.ref d),some (.int n),some (.int m),some (.ref p),some (.int i),some (.ref a)]∧H' a=some (.tup (row.map V.int))∧row.Pairwise (· < ·)∧(∀ x∈row,-(10 ^ 60) < x∧x < 10 ^ 60)∧row.length≤m∧(∀ b o,b≠d→H2 b=some o→H' b=some o)∧LS K L d H',?_,?_⟩
  ·refine ⟨_,rfl,_,_,rfl,rfl,_,rfl,?_⟩;refine ite2 (fun c=>?_) (fun c=>?_)
   ·have c':(0:Int) < (i:Int):=yaH c;refine ⟨_,rfl,d,L,4,rfl,by decide,s4,fun v H5 _ _ k5 s5=>⟨rfl,_,rfl,?_⟩⟩;have h5:=k5 _ _ (ndT s4 h4) h4;refine ite2 (fun _=>?_) (fun _=>?_)
    ·have h5p:H5 p=some (.lst (as.map V.ref)):=k5 _ _ hpd (k4 _ _ hpd h2);obtain ⟨b,hb1,hb2⟩:=hA.get (k:=i - 1) (by omega);have hb5:=k5 _ _ (ndT s4 (k4 _ _ (ndT s2 hb2) hb2)) (k4 _ _ (ndT s2 hb2) hb2);have hat:atI (as.map V.ref) ((i:Int) - 1)=some (.ref b):=by
      rw[show (i:Int) - 1=((i - 1:Nat):Int) by omega];exact zbI hb1
     refine ⟨_,rfl,_,rfl,_,_,rfl,rfl,_,_,_,_,rfl,rfl,SqL.of h5p,hat,?_⟩;have hmem:zap rows (i - 1)∈rows:=by
      unfold zap;rw[yae,yac (show i - 1 < rows.length by omega)];exact yaN _
     exact ⟨b,zap rows (i - 1),rfl,hb5,hR.up _ hmem,hR.key _ hmem,hlen _ hmem,fun b o n1 e=>k5 _ _ n1 (k4 _ _ n1 e),s5⟩
    ·exact ⟨a,row,rfl,h5,hup,hky,hlr,fun b o n1 e=>k5 _ _ n1 (k4 _ _ n1 e),s5⟩
   ·refine iteF ?_;exact ⟨a,row,rfl,h4,hup,hky,hlr,k4,s4⟩
  rintro σ' H5 ⟨a,row,rfl,h5,hup,hky,hlr,k5,s5⟩;have h5p:H5 p=some (.lst (as.map V.ref)):=k5 _ _ hpd h2;have keep:∀ b o,b≠p→H5 b=some o→upd H5 p (.lst (as.map V.ref++[.ref a])) b=some o:=fun b o n e=>by rw[zag n];exact e
  have ntp:∀{b:Addr} {o:List V},H5 b=some (.tup o)→b≠p:=fun {b o} e z=>by
   rw[z,h5p]at e;cases e
  refine ⟨_,rfl,.inl ⟨rfl,_,SqL.of h5p⟩,_,rfl,_,_,_,rfl,rfl,h5p,zao (by rw[yab];omega),?_⟩;refine ⟨as++[a],rows++[row],_,_,rfl,?_,?_,by rw[yap,ybg,hl],hR.snoc hup hky,fun r hr=>?_,fun b o n1 n2 e=>keep _ _ n2 (k5 _ _ n1 (k2 _ _ n1 n2 e)),?_⟩
  ·rw[zab,yat];rfl
  ·refine zaN.snoc ?_ (keep _ _ (ntp h5) h5);have hA5:zaN H5 as rows:=zaN.keep (p:=d) (fun a row e=>ndT s2 e) k5 hA;exact zaN.keep (p:=p) (d:=p) (fun a row e=>ntp e) keep hA5
  ·rcases yaj.mp hr with z | z
   ·exact hlen r z
   ·rw[yal.mp z];exact hlr
  ·exact LS.put hs hp (fun b o n1 n2 e=>k5 _ _ n1 (k2 _ _ n1 n2 e)) s5
 ·rintro σ H2 ⟨as,rows,x4,x5,rfl,h2,hA,hl,hR,hlen,k2,s2⟩;refine ⟨_,rfl,p,_,rfl,.inl ⟨SqL.of h2,fun t ht=>?_⟩⟩;have sn:=zai ht (.tup (as.map V.ref));have ht0:H t=none:=by
   cases e:H t with
   | none=>rfl
   | some o=>
    have:=k2 t o (nd s2 ht) (Ne.symm (zac h2 ht)) e;rw[ht]at this;cases this
  exact q t as rows _ ht0 (hA.ext sn) hl hR hlen zab (fun b o n e=>sn _ _ (k2 b o n (zac e hp) e)) (s2.same sn)
theorem zpg {ps:List Nat}:atI (zbJ ps) 0=some .non:=by
 have h:=zet (ps:=ps) (k:=0) (by omega);rw[zgj rfl]at h;exact h
def zkp (K:Frag):Sp:=fun vs H Q _=>∃(t:Addr) (ps:List Nat),vs=[.ref t]∧H t=some (.tup (zbJ ps))∧zay ps∧ps.length≤39∧∀ H',Same H H'→Q (.ref t) H'
theorem zmR (T:Txt K mg)(D_tree_of:DF K mg "tree_of" zeB zd7)(F_is_one_of_first:FC P w K mg base 2 "is_one_of_first" zaX (zjy K)):FC P w K mg base 3 "tree_of" zd7 (zkp K):=by
 refine D_tree_of.ok sc_tree_of (fun vs H Q E h=>?_) (fun f cdv A outer s H vs Q E hr h=>?_)
 ·obtain ⟨t,ps,rfl,_⟩:=h;rfl
 obtain ⟨t,ps,rfl,ht,hT,hz,q⟩:=h;refine ⟨_,(zaB (zaW (zbG (zbe (zam zfy rfl T.m_isinstance boot_isinstance (zaa (pv 0) (zaa (za6 (zaa (zbj (v:=.ty "list") rfl T.m_list boot_list rfl) (zaa (zbj (v:=.ty "tuple") rfl T.m_tuple boot_tuple rfl) zad))) zad))))) (zae zbb) zax)
   (zaB (zaW (zbG (zof zqi zqi zaf (zam zan rfl T.m_len boot_len (zaa (pv 0) zad)) (zeV rfl T.g_MOST_KNOTS))) (zae zbb) zax)
   (zaB (zaW (zav zjF (zaD zaO (pv 0) zaf (fun _ _=>rfl)) zkG (zaH _)) (zae zbb) zax)
   (zah (za2 PassesOwn.never rfl (zdG rfl T.m_range (zaa zaf (zaa (zam zan rfl T.m_len boot_len (zaa (pv 0) zad)) zad))) (zar (i:=1) sc_tree_of.nd rfl (Or.inl rfl)) (zae (zaW (zbG (zbe (zaA F_is_one_of_first hr (zaa (pv 1) (zaa (zaD zaO (pv 0) (pv 1) (fun _ _=>rfl)) zad))))) (zae zbb) zax)))
   (zae (zau (zaT zaR rfl T.m_tuple boot_tuple (zaa (pv 0) zad)))))))),?_⟩
 refine ⟨fun σ' H'=>σ'=[some (.ref t),none]∧Same H H',?_,?_⟩
 ·refine ⟨_,rfl,(by show 2≤sizeLine;decide),fun p hp=>?_⟩;have sp:=zai hp (.tup [.ty "list",.ty "tuple"]);refine ⟨t,p,rfl,zab,.inr ⟨_,sp _ _ ht⟩,_,rfl,?_⟩;refine iteF ?_;exact ⟨rfl,sp⟩
 rintro σ' H1 ⟨rfl,s1⟩;have h1:=s1 _ _ ht;refine ⟨fun σ' H'=>σ'=[some (.ref t),none]∧H1=H',?_,?_⟩
 ·refine ⟨_,rfl,_,_,rfl,.inr (SqT.of h1),_,_,rfl,rfl,_,rfl,?_⟩;refine zsf (by rw[zat];omega) ?_;refine ⟨_,_,rfl,rfl,_,rfl,?_⟩;rw[yag (by rw[zat];omega)];refine iteF ?_;exact ⟨rfl,rfl⟩
 rintro σ' H' ⟨rfl,rfl⟩;refine ⟨fun σ' H'=>σ'=[some (.ref t),none]∧H1=H',?_,?_⟩
 ·refine ⟨_,rfl,_,_,_,_,rfl,rfl,SqT.of h1,zpg,rfl,_,rfl,?_⟩;refine iteF ?_;exact ⟨rfl,rfl⟩
 rintro σ' H' ⟨rfl,rfl⟩;refine ⟨_,rfl,_,_,rfl,.inr (SqT.of h1),1,_,rfl,⟨by omega,by omega,by rw[zat];omega,by rw[zat];omega⟩,?_⟩;have en:((((zbJ ps).length:Nat):Int) - 1).toNat=ps.length:=by rw[zat];omega
 rw[en];refine za0 (n:=ps.length) (fun i σ H2=>∃ x1:Option V,σ=[some (.ref t),x1]∧H2=H1) ?_ ?_ ?_
 ·exact ⟨_,rfl,rfl⟩
 ·rintro i σ H2 hi ⟨x1,rfl,rfl⟩;have ek:(1:Int)+(i:Int)=((i+1:Nat):Int):=by omega
  rw[ek];obtain ⟨u,hu⟩:=zf4 (ps:=ps) (k:=i+1) (by omega) (by omega);have hlt:=(zaM hT hu).1;have hat:=zet (ps:=ps) (k:=i+1) (by omega);rw[zdJ hu]at hat;refine ⟨_,rfl,_,rfl,_,rfl,_,_,_,_,rfl,rfl,SqT.of h1,hat,_,_,rfl,by omega,by omega,_,rfl,?_⟩;refine iteF ?_;exact ⟨_,rfl,rfl⟩
 ·rintro σ H2 ⟨x1,rfl,rfl⟩;refine ⟨_,rfl,t,_,rfl,.inr ⟨SqT.of h1,?_⟩⟩;exact q H2 s1
def zmm (K:Frag):Sp:=fun vs H Q _=>∃(a:Addr) (row:List Int),vs=[.ref a]∧H a=some (.tup (row.map V.int))∧row.Pairwise (· < ·)∧(∀ x∈row,-(10 ^ 60) < x∧x < 10 ^ 60)∧row.length≤900∧
 ∀(b:Addr) (H':Hp),H b=none→Same H H'→H' b=some (.tup (row.map V.int))→Q (.ref b) H'
theorem zot (T:Txt K mg)(D_row_of:DF K mg "row_of" zfQ zeM)(F_is_key:FC P w K mg base 2 "is_key" zdD (zjx K)):FC P w K mg base 3 "row_of" zeM (zmm K):=by
 refine D_row_of.ok sc_row_of (fun vs H Q E h=>?_) (fun f cdv A outer s H vs Q E hr h=>?_)
 ·obtain ⟨a,row,rfl,_⟩:=h;rfl
 obtain ⟨a,row,rfl,ha,hup,hky,hz,q⟩:=h;refine ⟨_,(zaB (zaW (zbG (zbe (zam zfy rfl T.m_isinstance boot_isinstance (zaa (pv 0) (zaa (za6 (zaa (zbj (v:=.ty "list") rfl T.m_list boot_list rfl) (zaa (zbj (v:=.ty "tuple") rfl T.m_tuple boot_tuple rfl) zad))) zad))))) (zae zbb) zax)
   (zah (za2 PassesOwn.never rfl (zdF (pv 0)) (zar (i:=1) sc_row_of.nd rfl (Or.inl rfl)) (zae (zaW (zbG (zbe (zaA F_is_key hr (zaa (pv 1) zad)))) (zae zbb) zax)))
   (zaB (zaW (zav zhV (zam zlQ rfl T.m_len boot_len (zaa (zaT (znL rfl) rfl T.m_set boot_set (zaa (pv 0) zad)) zad)) (zam zan rfl T.m_len boot_len (zaa (pv 0) zad)) (zaH _)) (zae zbb) zax)
   (zae (zau (zaT zaR rfl T.m_tuple boot_tuple (zaa (zam (zhp Int) rfl T.m_sorted boot_sorted (zaa (pv 0) zad)) zad))))))),?_⟩
 refine ⟨fun σ' H'=>σ'=[some (.ref a),none]∧Same H H',?_,?_⟩
 ·refine ⟨_,rfl,(by show 2≤sizeLine;decide),fun p hp=>?_⟩;have sp:=zai hp (.tup [.ty "list",.ty "tuple"]);refine ⟨a,p,rfl,zab,.inr ⟨_,sp _ _ ha⟩,_,rfl,?_⟩;refine iteF ?_;exact ⟨rfl,sp⟩
 rintro σ' H1 ⟨rfl,s1⟩;have h1:=s1 _ _ ha;refine ⟨_,rfl,a,rfl,⟨_,SqT.of h1⟩,?_⟩;refine zgx (xs:=row.map V.int) (fun i σ H2=>∃ x1:Option V,σ=[some (.ref a),x1]∧H2=H1) ?_ ?_ ?_ ?_
 ·exact ⟨_,rfl,rfl⟩
 ·rintro i σ H2 _ ⟨x1,rfl,rfl⟩;exact SqT.of h1
 ·rintro i x σ H2 hx ⟨x1,rfl,rfl⟩;rw[yar]at hx;obtain ⟨y,hy,rfl⟩:=ybq.mp hx;have hb:=hky y (yaE hy);refine ⟨_,rfl,_,true,rfl,.int y true ?_,_,rfl,?_⟩
  ·rw[yag (by split <;> omega)]
  refine iteF ?_;exact ⟨_,rfl,rfl⟩
 ·rintro σ H2 ⟨x1,rfl,rfl⟩;have hnd:row.Nodup:=List.Pairwise.imp (fun {a b} (q:a < b)=>by omega) hup;refine ⟨fun σ' H'=>σ'=[some (.ref a),x1]∧Same H2 H',?_,?_⟩
  ·refine ⟨_,rfl,a,row,rfl,SqT.of h1,by omega,fun l hl=>?_⟩;have sl:=zai hl (.set (fun k=>(metI row).any (· == k)) (metI row).length);refine ⟨l,_,_,rfl,zab,by rw[zha hnd];omega,_,rfl,_,_,rfl,.inr (SqT.of (sl _ _ h1)),_,_,rfl,rfl,_,rfl,?_⟩;refine zqE (by rw[zha hnd,yab];omega) ?_;exact ⟨rfl,sl⟩
  rintro σ' H3 ⟨rfl,s3⟩;have h3:=s3 _ _ h1;refine ⟨_,rfl,a,_,row,rfl,SqT.of h3,zal.ints,fun l ws hl hw=>?_⟩;rw[hw.toInts,ziE (List.Pairwise.imp (fun {a b} (h:a < b)=>yah (by omega)) hup)];have sl:=zai hl (.lst (row.map V.int));refine ⟨l,_,rfl,.inl ⟨SqL.of zab,fun b hb=>?_⟩⟩;have sb:=zai hb (.tup (row.map V.int));have s03:Same H H3:=s1.trans s3;exact q b _ (s03.free (sl.free hb)) (s03.trans (sl.trans sb)) zab
def zlT (H:Hp)(q:Addr)(n:Nat):Prop:=∃ xs,(H q=some (.lst xs)∨H q=some (.tup xs))∧xs.length=n
theorem zn7 (l:List Nat):(l.map fun n:Nat=>(n:Int)).sum=((l.sum:Nat):Int):=by
 induction l with
 | nil=>rfl
 | cons a l ih=>
  rw[yau,yaJ,ih,yaJ,ycp]
def zmp (K:Frag):Sp:=fun vs H Q _=>∃(a:Addr) (qs:List Addr) (ls:List Nat),vs=[.ref a]∧(H a=some (.lst (qs.map V.ref))∨H a=some (.tup (qs.map V.ref)))∧Paired (zlT H) qs ls∧ls.length≤900∧∀ H',Same H H'→Q (.int ((ls.sum:Nat):Int)) H'
theorem zqp (T:Txt K mg)(D_long_together:DF K mg "long_together" zbL zbf):FC P w K mg base 1 "long_together" zbf (zmp K):=by
 refine D_long_together.ok sc_long_together (fun vs H Q E h=>?_) (fun f cdv A outer s H vs Q E hr h=>?_)
 ·obtain ⟨a,qs,ls,rfl,_⟩:=h;rfl
 obtain ⟨a,qs,ls,rfl,ha,hP,hz,q⟩:=h;have hl:=Paired.length hP;refine ⟨_,(zae (zau (zam (znK rfl) rfl T.m_sum boot_sum (zaa (zbS (N:=["each"]) (own:=1) (cap:=[]) rfl (zrD (pv 0)) ⟨rfl,rfl,rfl,rfl,rfl,rfl⟩ (fun _ _ _ _ _=>(zar (i:=0) (show List.Nodup (["each"]:List Str) by decide +kernel) rfl (Or.inl rfl))) (fun _ _ _ _ _=>zcD) (fun _ _ _ _ _=>(zam (zif (K:=K)) rfl T.m_len boot_len (zaa (pv 0) zad)))) zad)))),?_⟩;have step:∀{D:Addr} (hD:H D=none) {i m:Nat} {x:V} {σ:L2.St} {H2:Hp} {fin:Nat→L2.St→Hp→Prop},(qs.map V.ref)[i]?=some x→i+m=(qs.map V.ref).length→(∀ b o,b≠D→H b=some o→H2 b=some o)→H2 D=some (.lst ((ls.take i).map nV))→∃ xs,(SqL K H2 (match x with | .ref q=>q | _=>0) xs∨SqT K H2 (match x with | .ref q=>q | _=>0) xs)∧(∃ q,x=.ref q)∧ls.take (i+1)=ls.take i++[xs.length]∧i < ls.length:=by
  intro D hD i m x σ H2 fin hx hm k2 h2;rw[yar]at hx;obtain ⟨qq,hq,rfl⟩:=ybq.mp hx;obtain ⟨n,hn,hL⟩:∃ n,ls[i]?=some n∧zlT H qq n:=by
   have:∀{qs:List Addr} {ls:List Nat} {i:Nat},Paired (zlT H) qs ls→qs[i]?=some qq→∃ n,ls[i]?=some n∧zlT H qq n:=by
    intro qs ls i r
    induction r generalizing i with
    | nil=>intro h;simp at h
    | cons a _ ih=>
     intro h;cases i with
     | zero=>
      have e:=yad (show some _=some qq from h);subst e;exact ⟨_,rfl,a⟩
     | succ i=>
      obtain ⟨n,h1,h2⟩:=ih (i:=i) (by simpa using h);exact ⟨n,by simpa using h1,h2⟩
   exact this hP hq
  have hi:=(yak.mp hn).1;obtain ⟨xs,hxs,hxl⟩:=hL;refine ⟨xs,?_,⟨qq,rfl⟩,?_,hi⟩
  ·rcases hxs with hxs | hxs
   ·exact .inl (SqL.of (k2 _ _ (zac hxs hD) hxs))
   ·exact .inr (SqT.of (k2 _ _ (zac hxs hD) hxs))
  ·rw[yaQ hi,(yak.mp hn).2,hxl]
 have end_:∀{D:Addr} {H2:Hp},H D=none→H2 D=some (.lst (ls.map nV))→But D H H2→(fun xs H Q=>∃(p:Addr) (ns:List Int),xs=[V.ref p]∧SqL K H p (ns.map V.int)∧Q (.int ns.sum) H) [V.ref D] H2 Q:=fun {D H2} hD h2 k2=>by
  refine ⟨D,ls.map fun n:Nat=>(n:Int),rfl,?_,?_⟩
  ·rw[ybA];exact SqL.of h2
  ·rw[zn7];exact q H2 (fun b o e=>k2 b o (zac e hD) e)
 rcases ha with ha | ha
 ·refine ⟨_,rfl,a,rfl,.inl ⟨⟨_,SqL.of ha⟩,fun D hD=>?_⟩⟩;refine zbX (xs:=qs.map V.ref) (fun i σ H2=>∃ x0:Option V,σ=[x0]∧H2 D=some (.lst ((ls.take i).map nV))∧But D H H2) ?_ ?_ ?_ ?_
  ·exact ⟨_,rfl,zab,fun b o n e=>by rw[zag n];exact e⟩
  ·rintro i σ H2 _ ⟨x0,rfl,_,k2⟩;exact k2.sq (SqL.of ha) hD
  ·rintro i m x σ H2 hx hm ⟨x0,rfl,h2,k2⟩;obtain ⟨xs,hS,⟨qq,rfl⟩,htk,hi⟩:=step hD (σ:=[x0]) (fin:=fun _ _ _=>True) hx hm k2 h2;rw[yab]at hm;refine zdz ?_;refine ⟨_,rfl,qq,xs,rfl,hS,_,h2,zao (by rw[yab,yaq];omega),m - 1,by omega,by rw[yab];omega,_,rfl,?_,fun b o n e=>by rw[zag n];exact k2 b o n e⟩;rw[zab,htk,yat];rfl
  ·rintro σ H2 ⟨x0,rfl,h2,k2⟩;rw[yab,yas (by omega)]at h2;exact end_ hD h2 k2
 ·refine ⟨_,rfl,a,rfl,.inr ⟨⟨_,SqT.of ha⟩,fun D hD=>?_⟩⟩;refine zdv (xs:=qs.map V.ref) (fun i σ H2=>∃ x0:Option V,σ=[x0]∧H2 D=some (.lst ((ls.take i).map nV))∧But D H H2) ?_ ?_ ?_ ?_
  ·exact ⟨_,rfl,zab,fun b o n e=>by rw[zag n];exact e⟩
  ·rintro i σ H2 _ ⟨x0,rfl,_,k2⟩;exact SqT.of (k2 _ _ (zac ha hD) ha)
  ·rintro i m x σ H2 hx hm ⟨x0,rfl,h2,k2⟩;obtain ⟨xs,hS,⟨qq,rfl⟩,htk,hi⟩:=step hD (σ:=[x0]) (fin:=fun _ _ _=>True) hx hm k2 h2;rw[yab]at hm;refine zdz ?_;refine ⟨_,rfl,qq,xs,rfl,hS,_,h2,zao (by rw[yab,yaq];omega),m - 1,by omega,by rw[yab];omega,_,rfl,?_,fun b o n e=>by rw[zag n];exact k2 b o n e⟩;rw[zab,htk,yat];rfl
  ·rintro σ H2 ⟨x0,rfl,h2,k2⟩;rw[yab,yas (by omega)]at h2;exact end_ hD h2 k2
def ziB (K:Frag):Sp:=fun vs H Q _=>∃(t r:Addr) (ps:List Nat) (rows:List (List Int)) (as:List Addr),vs=[.ref t,.ref r]∧H t=some (.tup (zbJ ps))∧H r=some (.tup (as.map V.ref))∧zaN H as rows∧rows.length=ps.length+1∧zay ps∧zaC rows∧ps.length≤40∧zbT rows≤300∧
 ∀(st rs:Addr) (bs:List Addr) (H':Hp),H st=none→Same H H'→zbx H' st ps rows t rs bs→Q (.ref st) H'
theorem zaN.lens {H:Hp}:∀{as:List Addr} {rows:List (List Int)},zaN H as rows→Paired (zlT H) as (rows.map List.length)
 | _,_,.nil=>.nil
 | _,_,.cons h t=>.cons ⟨_,.inr h,by rw[yab]⟩ (zaN.lens t)
theorem ze3 {rows:List (List Int)}{row:List Int}(h:row∈rows):row.length≤zbT rows:=by
 unfold zbT
 induction rows with
 | nil=>cases h
 | cons r rows ih=>
  rw[yau,yaJ];rcases yam.mp h with e | e
  ·rw[e];omega
  ·have:=ih e;omega
theorem zlv (T:Txt K mg)(D_stand_of:DF K mg "stand_of" zdX zdh)(F_row_of:FC P w K mg base 3 "row_of" zeM (zmm K))(F_long_together:FC P w K mg base 1 "long_together" zbf (zmp K)):FC P w K mg base 4 "stand_of" zdh (ziB K):=by
 refine D_stand_of.ok sc_stand_of (fun vs H Q E h=>?_) (fun f cdv A outer s H vs Q E hr h=>?_)
 ·obtain ⟨t,r,ps,rows,as,rfl,_⟩:=h;rfl
 obtain ⟨t,r,ps,rows,as,rfl,ht,hr0,hA,hlen,hT,hR,hfew,hkeys,q⟩:=h;have hal:=hA.length;refine ⟨_,(zaB (zaW (zbG (zbe (zam zfy rfl T.m_isinstance boot_isinstance (zaa (pv 1) (zaa (za6 (zaa (zbj (v:=.ty "list") rfl T.m_list boot_list rfl) (zaa (zbj (v:=.ty "tuple") rfl T.m_tuple boot_tuple rfl) zad))) zad))))) (zae zbb) zax)
   (zaB (zaW (zav zrK (zam zan rfl T.m_len boot_len (zaa (pv 1) zad)) (zam zan rfl T.m_len boot_len (zaa (pv 0) zad)) (zaH _)) (zae zbb) zax)
   (zah (zas (i:=2) sc_stand_of.nd rfl (Or.inl rfl) (zaT zaR rfl T.m_tuple boot_tuple (zaa (zbS (N:=["row"]) (own:=1) (cap:=[]) rfl (zdF (pv 1)) ⟨rfl,rfl,rfl,rfl,rfl,rfl⟩ (fun _ _ _ _ _=>(zar (i:=0) (show List.Nodup (["row"]:List Str) by decide +kernel) rfl (Or.inl rfl))) (fun _ _ _ _ _=>zcD) (fun _ _ _ _ _=>(zaA F_row_of hr (zaa (pv 0) zad)))) zad)))
   (zaB (zaW (zav zlt (zaA F_long_together hr (zaa (pv 2) zad)) (zeV rfl T.g_MOST_KEYS) (zaH _)) (zae zbb) zax)
   (zae (zau (za6 (zaa (pv 0) (zaa (pv 2) zad))))))))),?_⟩
 refine ⟨fun σ' H'=>σ'=[some (.ref t),some (.ref r),none]∧Same H H',?_,?_⟩
 ·refine ⟨_,rfl,(by show 2≤sizeLine;decide),fun p hp=>?_⟩;have sp:=zai hp (.tup [.ty "list",.ty "tuple"]);refine ⟨r,p,rfl,zab,.inr ⟨_,sp _ _ hr0⟩,_,rfl,?_⟩;refine iteF ?_;exact ⟨rfl,sp⟩
 rintro σ' H1 ⟨rfl,s1⟩;have h1t:=s1 _ _ ht;have h1r:=s1 _ _ hr0;have A1:=hA.ext s1;refine ⟨fun σ' H'=>σ'=[some (.ref t),some (.ref r),none]∧H1=H',?_,?_⟩
 ·refine ⟨_,rfl,_,_,rfl,.inr (SqT.of h1r),_,rfl,_,_,rfl,.inr (SqT.of h1t),rfl,_,rfl,?_⟩;refine ziZ (by rw[yab,zat,hal,hlen]) ?_;exact ⟨rfl,rfl⟩
 rintro σ' H' ⟨rfl,rfl⟩;refine ⟨_,rfl,r,rfl,⟨_,SqT.of h1r⟩,fun D hD=>?_⟩;refine zdv (xs:=as.map V.ref) (fun i σ H2=>∃(bs:List Addr) (x0:Option V),σ=[x0]∧H2 D=some (.lst (bs.map V.ref))∧zaN H2 bs (rows.take i)∧But D H1 H2) ?_ ?_ ?_ ?_
 ·exact ⟨[],_,rfl,zab,.nil,fun b o n e=>by rw[zag n];exact e⟩
 ·rintro i σ H2 _ ⟨bs,x0,rfl,_,_,k2⟩;exact SqT.of (k2 _ _ (zac h1r hD) h1r)
 ·rintro i m x σ H2 hx hm ⟨bs,x0,rfl,h2,hB,k2⟩;have hbl:=hB.length;rw[yaq]at hbl;rw[yab]at hm;have hi:i < rows.length:=by
   have:=(yak.mp hx).1;rw[yab]at this;omega
  obtain ⟨b,hb1,hb2⟩:=A1.get hi;rw[yar,hb1]at hx;have:=yad hx;subst this;have hmem:zap rows i∈rows:=by
   unfold zap;rw[yae,yac hi];exact yaN hi
  have hrl:=ze3 hmem;have htk:rows.take (i+1)=rows.take i++[zap rows i]:=by
   rw[yaQ hi];unfold zap;rw[yae,yac hi];rfl
  have h2b:=k2 _ _ (zac hb2 hD) hb2;refine zdz ?_;refine ⟨_,rfl,b,zap rows i,rfl,h2b,hR.at_up i,hR.at_key i,by omega,fun c H3 hc s3 h3=>?_⟩;have h3D:=s3 _ _ h2;have ncD:∀{x:Addr} {o:List V},H3 x=some (.tup o)→x≠D:=fun {x o} e z=>by
   rw[z,h3D]at e;cases e
  have kD:∀ b o,b≠D→H3 b=some o→upd H3 D (.lst (bs.map V.ref++[.ref c])) b=some o:=fun b o n e=>by rw[zag n];exact e
  refine ⟨_,h3D,zao (by rw[yab];omega),m - 1,by omega,by rw[yab];omega,bs++[c],_,rfl,?_,?_,fun b o n e=>kD _ _ n (s3 _ _ (k2 b o n e))⟩
  ·rw[zab,yat];rfl
  ·rw[htk];exact zaN.snoc (zaN.keep (p:=D) (d:=D) (fun a row e=>ncD e) kD (hB.ext s3)) (kD _ _ (ncD h3) h3)
 rintro σ H2 ⟨bs,x0,rfl,h2,hB,k2⟩;rw[yab,yas (by omega)]at hB;have s2:Same H1 H2:=fun b o e=>k2 b o (zac e hD) e;refine ⟨D,_,rfl,.inl ⟨SqL.of h2,fun rs hrs=>?_⟩⟩;have s3:=zai hrs (.tup (bs.map V.ref));have h3:upd H2 rs (.tup (bs.map V.ref)) rs=some (.tup (bs.map V.ref)):=zab;have s13:=s2.trans s3;have B3:=hB.ext s3;generalize upd H2 rs (.tup (bs.map V.ref))=H3 at s3 h3 s13 B3 ⊢;refine ⟨fun σ' H'=>σ'=[some (.ref t),some (.ref r),some (.ref rs)]∧Same H3 H',?_,?_⟩
 ·refine ⟨_,rfl,rs,bs,rows.map List.length,rfl,.inr h3,B3.lens,by rw[yab];omega,fun H4 s4=>?_⟩;have hk:(rows.map List.length).sum=zbT rows:=rfl;rw[hk];refine ⟨_,_,rfl,rfl,_,rfl,?_⟩;refine zqE (by omega) ?_;exact ⟨rfl,s4⟩
 rintro σ' H4 ⟨rfl,s4⟩;have s04:=s1.trans (s13.trans s4);refine ⟨_,rfl,_,rfl,(by show 2≤sizeLine;decide),fun st hst=>?_⟩;have ss:=zai hst (.tup [.ref t,.ref rs]);exact q st rs bs _ (s04.free hst) (s04.trans ss) ⟨zab,ss _ _ (s04 _ _ ht),ss _ _ (s4 _ _ h3),(B3.ext s4).ext ss,hlen,hT,hR,hfew,by omega⟩
def accL (ps:List Nat)(rows:List (List Int)):Nat→Nat→List En
 | 0,j=>ownE rows j
 | i+1,j=>accL ps rows i j++(if par ps (ps.length - i)=some j then zcr (zak ps rows (ps.length - i)) else [])
theorem zkb {ps:List Nat}(T:zay ps){rows:List (List Int)}{j:Nat}{e:En}:∀ i,i≤ps.length→(e∈accL ps rows i j↔e∈ownE rows j∨∃ c,ps.length - i < c∧par ps c=some j∧e∈zcr (zak ps rows c))
 | 0,_=>by
  unfold accL;constructor
  ·exact .inl
  ·rintro (h | ⟨c,h1,h2,_⟩)
   ·exact h
   ·have:=(zaM T h2).2;omega
 | i+1,hi=>by
  unfold accL;rw[yaj,zkb T i (by omega)];constructor
  ·rintro ((h | ⟨c,h1,h2,h3⟩) | h)
   ·exact .inl h
   ·exact .inr ⟨c,by omega,h2,h3⟩
   ·by_cases z:par ps (ps.length - i)=some j
    ·rw[if_pos z]at h;exact .inr ⟨_,by omega,z,h⟩
    ·rw[if_neg z]at h;cases h
  ·rintro (h | ⟨c,h1,h2,h3⟩)
   ·exact .inl (.inl h)
   ·by_cases z:c=ps.length - i
    ·subst z;rw[if_pos h2];exact .inr h3
    ·exact .inl (.inr ⟨c,by omega,h2,h3⟩)
theorem zjl {ps:List Nat}(T:zay ps){rows:List (List Int)}(R:zaC rows){j:Nat}(hj:j < ps.length+1):∀ i,i≤ps.length→(accL ps rows i j).Nodup
 | 0,_=>ziN R j
 | i+1,hi=>by
  unfold accL;have ih:=zjl T R hj i (by omega);by_cases z:par ps (ps.length - i)=some j
  ·rw[if_pos z,ybc];have hc:=(zaM T z).2;refine ⟨ih,(zdu T R hc).sublist (zaP _),fun a ha b hb hab=>?_⟩;subst hab;obtain ⟨u,_,g2,g3,_⟩:=zeg T R hc a ((zaP _).mem hb);rcases (zkb T i (by omega)).mp ha with h | ⟨c,h1,h2,h3⟩
   ·have:=(ziM hj h).2;have:u=j:=by omega
    subst this;rw[zdN T (zaM T z).1]at g2;cases g2
   ·obtain ⟨v,_,f2,f3,_⟩:=zeg T R (zaM T h2).2 a ((zaP _).mem h3);have:u=v:=by omega
    subst this;exact zc7 T h2 z (by omega) u u (yaa _) f2 g2
  ·rw[if_neg z,yaz];exact ih
theorem zii {ps:List Nat}(T:zay ps){rows:List (List Int)}(R:zaC rows){k:Nat}(hk:k < ps.length+1):zcJ (accL ps rows (ps.length - k) k)=zak ps rows k:=by
 refine zfl (zdV (zjl T R hk _ (by omega))) (zaF T R hk) fun e=>?_;rw[zdC,zkb T _ (by omega),zbu T hk];constructor
 ·rintro (h | ⟨c,_,h2,h3⟩)
  ·exact .inl h
  ·exact .inr ⟨c,h2,h3⟩
 ·rintro (h | ⟨c,h2,h3⟩)
  ·exact .inl h
  ·exact .inr ⟨c,by have:=(zaM T h2).1;omega,h2,h3⟩
theorem zpK {ps:List Nat}{rows:List (List Int)}{j:Nat}(i:Nat):∀ d,(accL ps rows i j).length≤(accL ps rows (i+d) j).length
 | 0=>yaa _
 | d+1=>by
  refine yao (zpK i d) ?_;show _≤(accL ps rows (i+d) j++_).length;rw[yap];omega
theorem zra {ps:List Nat}(T:zay ps){rows:List (List Int)}(R:zaC rows)(hl:rows.length=ps.length+1){i j:Nat}(hj:j < ps.length+1)(hi:i≤ps.length - j):(accL ps rows i j).length≤zbT rows:=by
 obtain ⟨d,hd⟩:∃ d,ps.length - j=i+d:=⟨ps.length - j - i,by omega⟩;have h:=zii T R hj;rw[hd]at h;have h2:=congrArg List.length h;rw[zcN]at h2;exact yao (zpK i d) (by rw[h2];exact zdt T hl hj)
def valL (ps:List Nat)(rows:List (List Int))(i j:Nat):List En:=if ps.length - i < j then zak ps rows j else accL ps rows i j
structure FA (K:Frag)(H:Hp)(p:Addr)(qs:List Addr)(n:Nat)(f:Nat→List En):Prop where
 at_:H p=some (.lst (qs.map V.ref))
 len:qs.length=n
 nd:qs.Nodup
 np:p∉qs
 get:∀(j:Nat) (q:Addr),qs[j]?=some q→∃ ws,H q=some (.lst ws)∧zal K H (f j) ws
section
variable {K:Frag}{H H':Hp}{p:Addr}{qs:List Addr}{n:Nat}{f g:Nat→List En}
theorem FA.ext (h:FA K H p qs n f)(e:Ext H H'):FA K H' p qs n f:=
 ⟨e _ _ h.at_ (fun _ z=>nomatch z),h.len,h.nd,h.np,fun j q hq=>by
  obtain ⟨ws,h1,h2⟩:=h.get j q hq;exact ⟨ws,e _ _ h1 (fun _ z=>nomatch z),h2.mono e⟩⟩
theorem FA.congr (h:FA K H p qs n f)(e:∀ j,j < n→f j=g j):FA K H p qs n g:=
 ⟨h.at_,h.len,h.nd,h.np,fun j q hq=>by
  rw[← e j (by have:=(yak.mp hq).1;have:=h.len;omega)];exact h.get j q hq⟩
theorem FA.set (h:FA K H p qs n f){k:Nat}{q':Addr}{l:List En}{ws:List V}(hq:H q'=some (.lst ws))(hw:zal K H l ws)(hn:q'∉qs)(hp:q'≠p):FA K (upd H p (.lst ((qs.map V.ref).set k (.ref q')))) p (qs.set k q') n (fun j=>if j=k then l else f j):=by
 refine ⟨?_,by rw[ybT];exact h.len,?_,fun z=>?_,fun j q hj=>?_⟩
 ·rw[zab,ybD]
 ·show List.Pairwise _ _;rw[yaY];intro i j hi hj hij;rw[ybT]at hi hj;rw[List.getElem_set,List.getElem_set];have old:=yaY.mp h.nd i j hi hj hij;split
  ·rw[if_neg (by omega)];exact fun z=>hn (z ▸ yaN hj)
  ·split
   ·exact fun z=>hn (z ▸ yaN hi)
   ·exact old
 ·rcases ybu z with y | y
  ·exact h.np y
  ·exact hp y.symm
 ·rw[ybt]at hj;show ∃ ws,_∧zal K _ (if j=k then l else f j) ws
  by_cases c:k=j
  ·rw[if_pos c]at hj;by_cases c2:k < qs.length
   ·rw[if_pos c2]at hj;have:=yad hj;subst this;rw[if_pos c.symm];exact ⟨ws,by rw[zag hp];exact hq,zaQ h.at_ hw⟩
   ·rw[if_neg c2]at hj;cases hj
  ·rw[if_neg c]at hj;rw[if_neg (fun z=>c z.symm)];obtain ⟨us,h1,h2⟩:=h.get j q hj;have hqp:q≠p:=fun z=>h.np (by rw[← z];exact yaE hj);exact ⟨us,by rw[zag hqp];exact h1,zaQ h.at_ h2⟩
theorem FA.put (h:FA K H p qs n f){k:Nat}{q:Addr}{ws:List V}{e:En}{x:V}(hk:qs[k]?=some q)(hq:H q=some (.lst ws))(hx:Rep.has K H e x):FA K (upd H q (.lst (ws++[x]))) p qs n (fun j=>if j=k then f j++[e] else f j):=by
 have hqp:p≠q:=fun z=>h.np (z ▸ yaE hk);refine ⟨by rw[zag hqp];exact h.at_,h.len,h.nd,h.np,fun j q2 hj=>?_⟩;obtain ⟨us,h1,h2⟩:=h.get j q2 hj;show ∃ ws,_∧zal K _ (if j=k then f j++[e] else f j) ws
 by_cases c:j=k
 ·subst c;rw[hk]at hj;have:=yad hj;subst this;rw[hq]at h1;cases h1
  rw[if_pos rfl];exact ⟨_,zab,(zaQ hq h2).append (zaQ hq (.one hx))⟩
 ·rw[if_neg c];have hne:q2≠q:=fun z=>by
   subst z;obtain ⟨i1,e1⟩:=yak.mp hj;obtain ⟨i2,e2⟩:=yak.mp hk;have old:=yaY.mp h.nd;rcases Nat.lt_or_gt_of_ne c with z | z
   ·exact old j k i1 i2 z (e1.trans e2.symm)
   ·exact old k j i2 i1 z (e2.trans e1.symm)
  exact ⟨us,by rw[zag hne];exact h1,zaQ hq h2⟩
theorem FA.at (h:FA K H p qs n f){k:Nat}(hk:k < n):∃ q ws,qs[k]?=some q∧H q=some (.lst ws)∧zal K H (f k) ws:=by
 have e:qs[k]?=some (qs[k]'(by have:=h.len;omega)):=yac _;obtain ⟨ws,h1,h2⟩:=h.get k _ e;exact ⟨_,ws,e,h1,h2⟩
end
def zks (K:Frag):Sp:=fun vs H Q _=>∃(t r:Addr) (ps:List Nat) (rows:List (List Int)) (as:List Addr),vs=[.ref t,.ref r]∧H t=some (.tup (zbJ ps))∧H r=some (.tup (as.map V.ref))∧zaN H as rows∧rows.length=ps.length+1∧zay ps∧zaC rows∧ps.length≤40∧zbT rows≤400∧
 ∀(p:Addr) (qs:List Addr) (H':Hp),H p=none→Same H H'→FA K H' p qs (ps.length+1) (zak ps rows)→(∀ q∈qs,H q=none)→Q (.ref p) H'
theorem zmV (T:Txt K mg)(D_l_fulls:DF K mg "_law_fulls" zeE zea)(F_l_marks:FC P w K mg base 2 "_law_marks" zd9 (zhD K)):FC P w K mg base 3 "_law_fulls" zea (zks K):=by
 refine D_l_fulls.ok sc_l_fulls (fun vs H Q E h=>?_) (fun f cdv A outer s H vs Q E hr h=>?_)
 ·obtain ⟨t,r,ps,rows,as,rfl,_⟩:=h;rfl
 obtain ⟨t,r,ps,rows,as,rfl,ht,hr0,hA,hlen,hT,hR,hfew,hkeys,q⟩:=h;refine ⟨_,(zaz (zog "_law_k" (i:=2) (N:=["_law_k","_law_rows_here"]) (own:=1) (cap:=[1]) sc_l_fulls.nd rfl rfl rfl (zaY rfl T.m_range (zaa (zam zan rfl T.m_len boot_len (zaa (pv 0) zad)) zad)) ⟨rfl,rfl,rfl,rfl,rfl,rfl,rfl⟩ (fun _ _ _ _ _=>(zar (i:=0) (show List.Nodup (["_law_k","_law_rows_here"]:List Str) by decide +kernel) rfl (Or.inr rfl))) (fun _ _ _ _ _=>zcD) (fun _ _ _ _ _=>(zbS (N:=["_law_key_here","_law_k"]) (own:=1) (cap:=[0]) rfl (zqb (K:=K) (zaD (zjU (K:=K)) (pv 1) (pv 0) (fun _ _=>rfl))) ⟨rfl,rfl,rfl,rfl,rfl,rfl⟩ (fun _ _ _ _ _=>(zar (i:=0) (show List.Nodup (["_law_key_here","_law_k"]:List Str) by decide +kernel) rfl (Or.inl rfl))) (fun _ _ _ _ _=>zcD) (fun _ _ _ _ _=>(za6 (zaa (pv 0) (zaa (pv 1) zad)))))))
   (zaz (za2 PassesOwn.never rfl (zmF rfl T.m_range (zaa (zaw zcb (zam zan rfl T.m_len boot_len (zaa (pv 0) zad)) zaf) (zaa zaf (zaa (zmG ziq zaf) zad)))) (zar (i:=3) sc_l_fulls.nd rfl (Or.inl rfl)) (zaz (zdx (zam (zei (Int×Int)) rfl T.m_sorted boot_sorted (zaa (zaD zaI (pv 2) (pv 3) (fun _ _=>rfl)) zad)) (zeU (pv 2) (pv 3) zck))
   (zaz (zas (i:=4) sc_l_fulls.nd rfl (Or.inl rfl) (zaD zaO (pv 0) (pv 3) (fun _ _=>rfl)))
   (zae (za2 PassesOwn.never rfl (zpB rfl T.m_zip (zaa (zaD zaI (pv 2) (pv 3) (fun _ _=>rfl)) (zaa (zaA F_l_marks hr (zaa (zaD zaI (pv 2) (pv 3) (fun _ _=>rfl)) zad)) zad))) (zg3 rfl (zbt (zar (i:=5) sc_l_fulls.nd rfl (Or.inl rfl)) (zbt (zar (i:=6) sc_l_fulls.nd rfl (Or.inl rfl)) zfq))) (zae (zaW (zbe (pv 6)) (zae (zbi (zeW F.plainAttrs_list F.slot_list_append F.type_list_append zaU (zaD zaI (pv 2) (pv 4) (fun _ _=>rfl)) (zaa (pv 5) zad)))) zax)))))))
   (zaz (zdx (zam (zei (Int×Int)) rfl T.m_sorted boot_sorted (zaa (zaD zaI (pv 2) zaf (fun _ _=>rfl)) zad)) (zeU (pv 2) zaf zck))
   (zae (zau (pv 2)))))),?_⟩
 intro N0 n0;have el:((((zbJ ps).length:Nat):Int)).toNat=ps.length+1:=by rw[zat,ya5]
 refine ⟨_,rfl,_,_,rfl,.inr (SqT.of ht),_,rfl,by omega,by rw[zat];omega,fun D hD=>?_⟩;rw[el];refine zc9 (n:=ps.length+1) (fun i σ H2=>∃(qs:List Addr) (x0:Option V),σ=[x0,some (.ref r)]∧FA K H2 D qs i (ownE rows)∧(∀ q∈qs,H q=none)∧But D H H2) ?_ ?_ ?_
 ·exact ⟨[],_,rfl,⟨zab,rfl,ybr,(fun z=>nomatch z),fun j q e=>by simp at e⟩,(fun q z=>nomatch z),fun b o n e=>by rw[zag n];exact e⟩
 ·rintro i m σ H2 hm hi ⟨qs,x0,rfl,h2,hqs,k2⟩;rw[ybe];have s2:Same H H2:=fun b o e=>k2 b o (zac e hD) e;obtain ⟨b,hb1,hb2⟩:=(hA.ext s2).get (k:=i) (by rw[hlen];exact hi);refine zdz ?_;refine ⟨_,rfl,_,rfl,_,_,_,_,rfl,rfl,SqT.of (s2 _ _ hr0),zbI hb1,b,rfl,⟨_,SqT.of hb2⟩,fun D3 hD3=>?_⟩;refine zdv (xs:=(zap rows i).map V.int) (fun m σ H5=>∃(us:List V) (x0:Option V),σ=[x0,some (.int i)]∧H5 D3=some (.lst us)∧zal K H5 ((ownE rows i).take m) us∧But D3 H2 H5) ?_ ?_ ?_ ?_
  ·exact ⟨[],_,rfl,zab,.nil,fun b o n e=>by rw[zag n];exact e⟩
  ·rintro m σ H5 _ ⟨us,x0,rfl,_,_,k5⟩;exact SqT.of (k5 _ _ (zac hb2 hD3) hb2)
  ·rintro j m' x σ H5 hx hm' ⟨us,x0,rfl,h5,hw5,k5⟩;rw[yar]at hx;obtain ⟨y,hy,rfl⟩:=ybq.mp hx;have hlow:=(yak.mp hy).1;have htk3:(ownE rows i).take (j+1)=(ownE rows i).take j++[(y,(i:Int))]:=by
    unfold ownE;rw[← ybC,← ybC,yaQ hlow,yat];rw[(yak.mp hy).2];rfl
   have hul:=hw5.length;rw[yaq]at hul;rw[yab]at hm';have hrl:(zap rows i).length≤zbT rows:=by
    refine ze3 ?_;unfold zap;rw[yae,yac (show i < rows.length by omega)];exact yaN _
   refine zdz ?_;refine ⟨_,rfl,_,rfl,(by show 2≤sizeLine;decide),fun u hu=>?_⟩;have su:=zai hu (.tup [.int y,.int (i:Int)]);have h6:=su _ _ h5;have hut:upd H5 u (.tup [.int y,.int (i:Int)]) u=some (.tup [.int y,.int (i:Int)]):=zab;have k6:=k5.new' hu (.tup [.int y,.int (i:Int)]);have hw6:=hw5.mono su.ext;generalize upd H5 u (.tup [.int y,.int (i:Int)])=H6 at su h6 hut k6 hw6 ⊢;refine ⟨_,h6,zao (by omega),m' - 1,by omega,by rw[yab];omega,us++[.ref u],_,rfl,zab,?_,fun b o n e=>by rw[zag n];exact k6 b o n e⟩;rw[htk3];exact (zaQ h6 hw6).append (zaQ h6 (.cons ⟨u,.int y,.int (i:Int),rfl,hut,rfl,rfl⟩ .nil))
  rintro σ H5 ⟨us,x0,rfl,h5,hw5,k5⟩;rw[yab,yas (by unfold ownE;rw[yab];exact yaa _)]at hw5;have s5:Same H2 H5:=fun x o e=>k5 x o (zac e hD3) e;have F5:=h2.ext s5.ext;have hqn:D3∉qs:=fun z=>by
   obtain ⟨j,hj,e⟩:=yaO z;obtain ⟨ws,w1,_⟩:=h2.get j D3 (by rw[yac hj,e]);rw[hD3]at w1;cases w1
  have hDD:D3≠D:=fun z=>by
   have:=h2.at_;rw[← z,hD3]at this;cases this
  have hql:=h2.len;refine ⟨_,F5.at_,zao (by rw[yab];omega),m - 1,by omega,by omega,qs++[D3],_,rfl,⟨?_,by rw[yap,ybg,hql],?_,?_,?_⟩,?_,?_⟩
  ·rw[zab,yat];rfl
  ·rw[ybc];refine ⟨h2.nd,yaW.mpr ⟨(fun z=>nomatch z),ybr⟩,fun a ha b hb e=>?_⟩;rw[yal.mp hb]at e;exact hqn (e ▸ ha)
  ·intro z;rcases yaj.mp z with y | y
   ·exact h2.np y
   ·exact hDD (yal.mp y).symm
  ·intro j q0 hj;by_cases c:j < qs.length
   ·rw[ybp c]at hj;obtain ⟨ws,w1,w2⟩:=F5.get j q0 hj;have hne:q0≠D:=fun z=>h2.np (by rw[← z];exact yaE hj);exact ⟨ws,by rw[zag hne];exact w1,zaQ F5.at_ w2⟩
   ·rw[ybj (by omega)]at hj;have hj0:j - qs.length=0:=by
     have:=(yak.mp hj).1;rw[ybg]at this;omega
    rw[hj0]at hj;have:=yad (show some D3=some q0 from hj);subst this;have:j=i:=by omega
    subst this;exact ⟨us,by rw[zag hDD];exact h5,zaQ F5.at_ hw5⟩
  ·intro q0 hq0;rcases yaj.mp hq0 with y | y
   ·exact hqs q0 y
   ·rw[yal.mp y];exact s2.free hD3
  ·exact fun b o n e=>by
    rw[zag n];exact s5 _ _ (k2 b o n e)
 rintro σ H2 ⟨qs,x0,rfl,F2,hqs2,k2⟩;refine n0 _ _ ?_;intro N1 n1;have s2:Same H H2:=fun b o e=>k2 b o (zac e hD) e;have hD0:=hD;clear k2;have F0:FA K H2 D qs (ps.length+1) (valL ps rows 0):=F2.congr fun j hj=>by
  unfold valL accL;rw[if_neg (by omega)]
 clear F2;have h2t:=s2 _ _ ht;refine ⟨_,rfl,_,_,rfl,.inr (SqT.of h2t),_,_,rfl,rfl,?_⟩;refine ⟨_,rfl,_,_,rfl,⟨by rw[zat];omega,by rw[zat];omega,by omega,by omega⟩,?_⟩;have en:((((zbJ ps).length:Nat):Int) - 1 - 0).toNat=ps.length:=by rw[zat];omega
 rw[en];refine zo2 (n:=ps.length) (fun i σ H3=>∃(qs:List Addr) (x3 x4 x5 x6:Option V),σ=[some (.ref t),some (.ref r),some (.ref D),x3,x4,x5,x6]∧FA K H3 D qs (ps.length+1) (valL ps rows i)∧(∀ q∈qs,H q=none)∧Same H H3) ?_ ?_ ?_
 ·exact ⟨qs,_,_,_,_,rfl,F0,hqs2,s2⟩
 ·rintro i σ H3 hi ⟨qs,x3,x4,x5,x6,rfl,F3,hqs,s3⟩;have ek:(((zbJ ps).length:Nat):Int) - 1 - (i:Int)=((ps.length - i:Nat):Int):=by rw[zat];omega
  rw[ek];have eI:i=ps.length - (ps.length - i):=by omega
  obtain ⟨k,hk⟩:∃ k,k=ps.length - i:=⟨_,rfl⟩;rw[← hk]at eI ⊢;refine zqF fun N B R hN hB hR'=>?_;intro N2 n2;have hkn:k < ps.length+1:=by omega
  have hk1:1≤k:=by omega
  obtain ⟨q0,ws,hq0,hq1,hq2⟩:=F3.at hkn;have ev:valL ps rows i k=accL ps rows i k:=by
   unfold valL;rw[if_neg (by omega)]
  rw[ev]at hq2;have hfl:=yao (zdt hT hlen hkn (rows:=rows)) hkeys;refine ⟨_,rfl,_,rfl,_,_,_,_,rfl,rfl,SqL.of F3.at_,zbI hq0,q0,ws,_,rfl,SqL.of hq1,hq2,fun l us hl hus=>?_⟩;have hsort:zcJ (accL ps rows i k)=zak ps rows k:=by
   rw[eI];exact zii hT hR hkn
  rw[hsort]at hus;have sl:=zai hl (.lst us);have F4:=F3.ext sl.ext;have hl4:upd H3 l (.lst us) l=some (.lst us):=zab;have hus4:=hus.mono sl.ext;have s4:=s3.trans sl;have hlq:l∉qs:=fun z=>by
   obtain ⟨j,hj,e⟩:=yaO z;obtain ⟨ws,w1,_⟩:=F3.get j l (by rw[yac hj,e]);rw[hl]at w1;cases w1
  have hlD:l≠D:=fun z=>by
   have:=F3.at_;rw[← z,hl]at this;cases this
  have hl0:H l=none:=s3.free hl;clear sl;generalize upd H3 l (.lst us)=H4 at F4 hl4 hus4 s4 ⊢;refine ⟨_,rfl,_,rfl,_,_,_,k,rfl,rfl,F4.at_,zds (by rw[yab,F4.len];exact hkn),n2 _ _ ?_⟩;intro N3 n3;have F5:=F4.set (k:=k) hl4 hus4 hlq hlD;have hl5:upd H4 D (.lst ((qs.map V.ref).set k (.ref l))) l=some (.lst us):=by rw[zag hlD];exact hl4
  have hus5:zal K (upd H4 D (.lst ((qs.map V.ref).set k (.ref l)))) (zak ps rows k) us:=zaQ F4.at_ hus4;have s5:Same H (upd H4 D (.lst ((qs.map V.ref).set k (.ref l)))):=fun b o e=>by
   rw[zag (zac e hD)];exact s4 _ _ e
  have hqs5:∀ q∈qs.set k l,H q=none:=fun q hq=>by
   rcases ybu hq with y | y
   ·exact hqs q y
   ·rw[y];exact hl0
  have hqk:(qs.set k l)[k]?=some l:=by
   rw[ybt,if_pos rfl,if_pos (by rw[F4.len];exact hkn)]
  generalize upd H4 D (.lst ((qs.map V.ref).set k (.ref l)))=H5 at F5 hl5 hus5 s5 ⊢;generalize qs.set k l=qs' at F5 hqs5 hqk ⊢;obtain ⟨u,hu⟩:=zf4 (ps:=ps) (k:=k) (by omega) hkn;have hlt:=(zaM hT hu).1;refine ⟨_,rfl,_,rfl,_,_,_,_,rfl,rfl,SqT.of (s5 _ _ ht),zet hkn,?_⟩;rw[zdJ hu];refine n3 _ _ ?_;refine ⟨_,rfl,_,rfl,_,_,_,_,rfl,rfl,SqL.of F5.at_,zbI hqk,?_⟩;refine ⟨_,rfl,_,rfl,_,_,_,_,rfl,rfl,SqL.of F5.at_,zbI hqk,?_⟩;refine ⟨l,us,zak ps rows k,rfl,hl5,hus5,by omega,ze5 hT hR (by omega) hkn,zaF hT hR hkn,fun pm H6 hpm s6 h6=>?_⟩;refine ⟨l,pm,rfl,⟨_,SqL.of (s6 _ _ hl5)⟩,⟨_,SqL.of h6⟩,?_⟩;have hul:=hus5.length;have hml:=zeZ (zak ps rows k);have F6:=F5.ext s6.ext;have s06:=s5.trans s6;have hl6:=s6 _ _ hl5;have hus6:=hus5.mono s6.ext;have hpmq:pm∉qs':=fun z=>by
   obtain ⟨j,hj,e⟩:=yaO z;obtain ⟨ws,w1,_⟩:=F5.get j pm (by rw[yac hj,e]);rw[hpm]at w1;cases w1
  have F6':FA K H6 D qs' (ps.length+1) (fun j=>if j=u then accL ps rows i u++zcf ((zak ps rows k).take 0) ((zbH (zak ps rows k)).take 0) else if j=k then zak ps rows k else valL ps rows i j):=F6.congr fun j hj=>by
   show (if j=k then _ else _)=_
   by_cases c:j=u
   ·subst c;rw[if_pos rfl,if_neg (by omega)];unfold valL;rw[if_neg (by omega)];show _=_++[];rw[yaz]
   ·rw[if_neg c]
  clear F5 F6;refine zqQ (xs:=us) (ys:=(zbH (zak ps rows k)).map V.bl) (by rw[yab,hml];exact hul.symm) (fun m σ H7=>∃ x5 x6:Option V,σ=[some (.ref t),some (.ref r),some (.ref D),some (.int k),some (.int u),x5,x6]∧FA K H7 D qs' (ps.length+1) (fun j=>if j=u then accL ps rows i u++zcf ((zak ps rows k).take m) ((zbH (zak ps rows k)).take m) else if j=k then zak ps rows k else valL ps rows i j)∧H7 l=some (.lst us)∧zal K H7 (zak ps rows k) us∧H7 pm=some (.lst ((zbH (zak ps rows k)).map V.bl))∧Same H H7) ?_ ?_ ?_ ?_
  ·exact ⟨_,_,rfl,F6',hl6,hus6,h6,s06⟩
  ·rintro m σ H7 _ ⟨x5,x6,rfl,F7,hl7,hus7,hm7,s7⟩;exact ⟨SqL.of hl7,SqL.of hm7⟩
  ·rintro m x y σ H7 rr hx hy ⟨x5,x6,rfl,F7,hl7,hus7,hm7,s7⟩ hrr;obtain ⟨e,he,hex⟩:=hus7.get hx;rw[yar]at hy;obtain ⟨b,hb,rfl⟩:=ybq.mp hy;have hme:=(yak.mp he).1;have hmb:=(yak.mp hb).1;have tke:(zak ps rows k).take (m+1)=(zak ps rows k).take m++[e]:=by rw[yaQ hme,(yak.mp he).2]
   have tkb:(zbH (zak ps rows k)).take (m+1)=(zbH (zak ps rows k)).take m++[b]:=by rw[yaQ hmb,(yak.mp hb).2]
   have hhs:zcf ((zak ps rows k).take (m+1)) ((zbH (zak ps rows k)).take (m+1))=zcf ((zak ps rows k).take m) ((zbH (zak ps rows k)).take m)++(if b=true then [e] else []):=by
    rw[tke,tkb];exact zi0 (by rw[yaq,yaq];omega)
   rw[hhs];have sr:=zai hrr (.tup [x,.bl b]);refine ⟨rr,_,rfl,SqT.of zab,rfl,_,_,rfl,_,_,rfl,rfl,?_⟩;refine zsg fun N4 B4 R4 hN4 hB4 hR4=>?_;have F8:=F7.ext sr.ext;have hl8:=sr _ _ hl7;have hus8:=hus7.mono sr.ext;have hm8:=sr _ _ hm7;have s8:=s7.trans sr;have hex8:=Rep.mono sr.ext hex;clear sr F7 hl7 hus7 hm7 s7 hex;generalize upd H7 rr (.tup [x,.bl b])=H8 at F8 hl8 hus8 hm8 s8 hex8 ⊢;refine ⟨_,rfl,b,rfl,?_⟩;cases b with
   | false=>
    refine iteF ?_;refine hN4 _ _ ⟨_,_,rfl,?_,hl8,hus8,hm8,s8⟩;rw[if_neg yaA,yaz];exact F8
   | true=>
    refine iteT ?_;obtain ⟨qu,wu,hqu,hqu1,hqu2⟩:=F8.at (k:=u) (by omega);have hqu2:zal K H8 (accL ps rows i u++zcf ((zak ps rows k).take m) ((zbH (zak ps rows k)).take m)) wu:=by
     have z:=hqu2;rw[if_pos rfl]at z;exact z
    have hwl:=hqu2.length;have hal:=yao (zra hT hR hlen (i:=i) (j:=u) (by omega) (by omega)) hkeys;have hhl:=zgu ((zak ps rows k).take m) ((zbH (zak ps rows k)).take m);rw[yaq]at hhl;rw[yap]at hwl;have hlu:l≠qu:=fun z=>by
     subst z;obtain ⟨i1,e1⟩:=yak.mp hqk;obtain ⟨i2,e2⟩:=yak.mp hqu;exact yaY.mp F8.nd u k i2 i1 hlt (e2.trans e1.symm)
    have hpu:pm≠qu:=fun z=>hpmq (by rw[z];exact yaE hqu);have hu0:=hqs5 qu (yaE hqu);have F9:=F8.put hqu hqu1 hex8;refine ⟨_,rfl,_,rfl,_,_,_,_,rfl,rfl,SqL.of F8.at_,zbI hqu,.inl ⟨rfl,_,SqL.of hqu1⟩,_,rfl,_,_,_,rfl,rfl,hqu1,zao (by omega),?_⟩;refine hN4 _ _ ⟨_,_,rfl,F9.congr fun j hj=>?_,by rw[zag hlu];exact hl8,zaQ hqu1 hus8,by rw[zag hpu];exact hm8,fun b o e=>by rw[zag (zac e hu0)];exact s8 _ _ e⟩;show (if j=u then (if j=u then _ else _)++[e] else (if j=u then _ else _))=_
    by_cases c:j=u
    ·rw[if_pos c,if_pos c,if_pos c,if_pos rfl,yaM]
    ·rw[if_neg c,if_neg c,if_neg c]
  rintro σ H7 ⟨x5,x6,rfl,F7,hl7,hus7,hm7,s7⟩;refine hN _ _ ⟨qs',_,_,_,_,rfl,F7.congr fun j hj=>?_,hqs5,s7⟩;rw[← hul,yas (yaa _),yas (by rw[hml];exact yaa _)];unfold valL;have e1:ps.length - (i+1)=k - 1:=by omega
  have e2:ps.length - i=k:=by omega
  have eacc:accL ps rows (i+1) j=accL ps rows i j++(if par ps k=some j then zcr (zak ps rows k) else []):=by
   rw[accL,e2]
  rw[e1,e2,eacc,hu];by_cases c:j=u
  ·subst c;rw[if_pos rfl,if_neg (by omega),if_pos rfl];rfl
  ·rw[if_neg c];by_cases c2:j=k
   ·rw[if_pos c2,if_pos (by omega),c2]
   ·rw[if_neg c2];by_cases c3:k < j
    ·rw[if_pos c3,if_pos (by omega)]
    ·rw[if_neg c3,if_neg (by omega),if_neg (fun z=>c (yad z).symm),yaz]
 rintro σ H3 ⟨qs,x3,x4,x5,x6,rfl,F3,hqs,s3⟩;refine n1 _ _ ?_;intro N5 n5;obtain ⟨q0,ws,hq0,hq1,hq2⟩:=F3.at (k:=0) (by omega);have ev:valL ps rows ps.length 0=accL ps rows ps.length 0:=by
  unfold valL;rw[if_neg (by omega)]
 rw[ev]at hq2;refine ⟨_,rfl,_,_,_,_,rfl,rfl,SqL.of F3.at_,zbI hq0,q0,ws,_,rfl,SqL.of hq1,hq2,fun l us hl hus=>?_⟩;have hsort:zcJ (accL ps rows ps.length 0)=zak ps rows 0:=zii hT hR (k:=0) (by omega);rw[hsort]at hus;have sl:=zai hl (.lst us);have F4:=F3.ext sl.ext;have hl4:upd H3 l (.lst us) l=some (.lst us):=zab;have hus4:=hus.mono sl.ext;have s4:=s3.trans sl;have hlq:l∉qs:=fun z=>by
  obtain ⟨j,hj,e⟩:=yaO z;obtain ⟨ws,w1,_⟩:=F3.get j l (by rw[yac hj,e]);rw[hl]at w1;cases w1
 have hlD:l≠D:=fun z=>by
  have:=F3.at_;rw[← z,hl]at this;cases this
 have hl0:H l=none:=s3.free hl;clear sl;generalize upd H3 l (.lst us)=H4 at F4 hl4 hus4 s4 ⊢;refine ⟨_,rfl,_,_,_,0,rfl,rfl,F4.at_,zds (k:=0) (by rw[yab,F4.len];exact Nat.succ_pos _),n5 _ _ ?_⟩;refine ⟨_,rfl,?_⟩;refine q D (qs.set 0 l) _ hD0 (fun b o e=>by rw[zag (zac e hD)];exact s4 _ _ e) ((F4.set (k:=0) hl4 hus4 hlq hlD).congr fun j hj=>?_) fun q hq=>?_
 ·show (if j=0 then _ else _)=_
  by_cases c:j=0
  ·rw[if_pos c,c]
  ·rw[if_neg c];unfold valL;rw[if_pos (by omega)]
 ·rcases ybu hq with y | y
  ·exact hqs q y
  ·rw[y];exact hl0
def zaL (a b:List En):List En:=a.filter fun e=>decide (e∉b)
theorem zbm {a b:List En}{e:En}:e∈zaL a b↔e∈a∧e∉b:=by
 unfold zaL;rw[ya7,decide_eq_true_iff]
theorem zi6 (a:List En):zaL a a=[]:=ybP.mpr fun e h=>by
 rw[yah (fun z=>z h)];decide
theorem zhi {a b:List En}(h:a.Nodup):(zaL a b).Nodup:=h.filter _
structure Led (f f' g c:List En):Prop where
 eq:f'=zcJ (zaL f g++c)
 gone:g=zaL f f'
 come:c=zaL f' f
theorem znb {f f' g c:List En}(h1:Rise f)(h2:Rise f')(hg:Rise g)(hc:Rise c)(mg:∀ e,e∈g↔e∈f∧e∉f')(mc:∀ e,e∈c↔e∈f'∧e∉f):Led f f' g c:=by
 have nd:(zaL f g++c).Nodup:=by
  refine ybc.mpr ⟨zhi (zd5 h1),zd5 hc,fun a ha b hb z=>?_⟩;subst z;exact ((mc a).mp hb).2 (zbm.mp ha).1
 refine ⟨zfl h2 (zdV nd) fun e=>?_,zfl hg (h1.filter _) fun e=>?_,zfl hc (h2.filter _) fun e=>?_⟩
 ·rw[zdC,yaj,zbm,mg,mc];constructor
  ·intro h;by_cases hf:e∈f
   ·exact .inl ⟨hf,fun z=>z.2 h⟩
   ·exact .inr ⟨h,hf⟩
  ·rintro (⟨h,n⟩ | h)
   ·exact Classical.byContradiction fun z=>n ⟨h,z⟩
   ·exact h.1
 ·exact (mg e).trans zbm.symm
 ·exact (mc e).trans zbm.symm
theorem zqB {f f':List En}(h1:Rise f)(h2:Rise f'):Led f f' (zaL f f') (zaL f' f):=znb h1 h2 (h1.filter _) (h2.filter _) (fun _=>zbm) (fun _=>zbm)
theorem zh5 {f f':List En}(h1:Rise f)(h2:Rise f')(hg:zaL f f'=[])(hc:zaL f' f=[]):f'=f:=zfl h2 h1 fun e=>by
 constructor
 ·intro h;exact Classical.byContradiction fun z=>absurd (zbm.mpr ⟨h,z⟩) (by rw[hc];exact ybm)
 ·intro h;exact Classical.byContradiction fun z=>absurd (zbm.mpr ⟨h,z⟩) (by rw[hg];exact ybm)
section
variable {ps:List Nat}{rows rows':List (List Int)}
def zfJ (k:Nat)(rows rows':List (List Int)):Prop:=∀ j,j≠k→zap rows' j=zap rows j
theorem zmM {k j:Nat}(h:zfJ k rows rows')(n:j≠k):ownE rows' j=ownE rows j:=by
 unfold ownE;rw[h j n]
theorem zf8 (T:zay ps){k:Nat}(hk:k < ps.length+1)(h:zfJ k rows rows'):∀(m j:Nat),ps.length+1 - j≤m→j < ps.length+1→isB ps j k=false→zak ps rows' j=zak ps rows j
 | 0,j,hm,hj,_=>by omega
 | m+1,j,hm,hj,hb=>by
  rw[zb6 T hj,zb6 T hj];unfold zdI;have njk:j≠k:=fun z=>by
   rw[z,zcq]at hb;cases hb
  rw[zmM h njk];congr 3;refine yco fun c hc=>?_;obtain ⟨hcn,hcp⟩:=zaK.mp hc;have hlt:=(zaM T hcp).1;rw[zf8 T hk h m c (by omega) hcn ?_];cases e:isB ps c k with
  | false=>rfl
  | true=>
   rw[(zce T _ k (yaa _) hk).mpr (.inr ⟨c,hcp,e⟩)]at hb;cases hb
theorem znu (T:zay ps)(R:zaC rows)(R':zaC rows'){k j p:Nat}(hk:k < ps.length+1)(h:zfJ k rows rows')(hb:isB ps j k=true)(hp:par ps j=some p) :
  Led (zak ps rows p) (zak ps rows' p) (zaL (zcr (zak ps rows j)) (zcr (zak ps rows' j))) (zaL (zcr (zak ps rows' j)) (zcr (zak ps rows j))):=by
 have hlt:=zaM T hp;have hpn:p < ps.length+1:=by omega
 have npk:p≠k:=fun z=>by
  have:=zdN T (show k < j by omega);rw[hb]at this;cases this
 have oth:∀ c,par ps c=some p→c≠j→zak ps rows' c=zak ps rows c:=fun c hc n=>by
  refine zf8 T hk h _ c (yaa _) (zaM T hc).2 ?_;cases e:isB ps c k with
  | false=>rfl
  | true=>exact (zc7 T hc hp n _ k (yaa _) e hb).elim
 have hr:=fun {r:List (List Int)} (R:zaC r)=>(zaF T R hlt.2).sublist (zaP _);have dis:∀{r r':List (List Int)},zaC r→zaC r'→(∀ c,par ps c=some p→c≠j→zak ps r' c=zak ps r c)→ownE r' p=ownE r p→∀ e,e∈zcr (zak ps r j)→e∉zcr (zak ps r' j)→e∉zak ps r' p:=fun {r r'} Q Q' ho hw e he hn hf=>by
  obtain ⟨i,hi,hbi,ei,_⟩:=zeg T Q hlt.2 e ((zaP _).subset he);rcases (zbu T hpn).mp hf with z | ⟨c,hc,z⟩
  ·have:=(ziM hpn z).2;have eij:i=p:=by omega
   have:=zdN T hlt.1;rw[← eij,hbi]at this;cases this
  ·by_cases cj:c=j
   ·subst cj;exact hn z
   ·obtain ⟨i2,hi2,hb2,e2,_⟩:=zeg T Q' (zaM T hc).2 e ((zaP _).subset z);have eii:i2=i:=by omega
    subst eii;exact zc7 T hc hp cj _ i2 (yaa _) hb2 hbi
 have up:∀{r r':List (List Int)},(∀ c,par ps c=some p→c≠j→zak ps r' c=zak ps r c)→ownE r' p=ownE r p→∀ e,e∈zak ps r p→e∉zak ps r' p→e∈zcr (zak ps r j)∧e∉zcr (zak ps r' j):=fun {r r'} ho hw e he hn=>by
  refine ⟨?_,fun z=>hn ((zbu T hpn).mpr (.inr ⟨j,hp,z⟩))⟩;rcases (zbu T hpn).mp he with z | ⟨c,hc,z⟩
  ·exact absurd ((zbu T hpn).mpr (.inl (by rw[hw];exact z))) hn
  ·by_cases cj:c=j
   ·subst cj;exact z
   ·exact absurd ((zbu T hpn).mpr (.inr ⟨c,hc,by rw[ho c hc cj];exact z⟩)) hn
 have ow:=zmM h npk;refine znb (zaF T R hpn) (zaF T R' hpn) ((hr R).filter _) ((hr R').filter _) (fun e=>zbm.trans ⟨fun zq0=>(by obtain ⟨a,b⟩:=zq0;exact ⟨(zbu T hpn).mpr (.inr ⟨j,hp,a⟩),dis R R' oth ow e a b⟩),fun zq1=>(by obtain ⟨a,b⟩:=zq1;exact up oth ow e a b)⟩) (fun e=>zbm.trans ⟨fun zq2=>(by obtain ⟨a,b⟩:=zq2;exact ⟨(zbu T hpn).mpr (.inr ⟨j,hp,a⟩),dis R' R (fun c hc n=>(oth c hc n).symm) ow.symm e a b⟩),fun zq3=>(by obtain ⟨a,b⟩:=zq3;exact up (fun c hc n=>(oth c hc n).symm) ow.symm e a b)⟩)
theorem zi2 (T:zay ps)(R:zaC rows)(R':zaC rows'){k:Nat}(hk:k < ps.length+1)(h:zfJ k rows rows'):Led (zak ps rows k) (zak ps rows' k) (zaL (ownE rows k) (ownE rows' k)) (zaL (ownE rows' k) (ownE rows k)):=by
 have oth:∀ c,par ps c=some k→zak ps rows' c=zak ps rows c:=fun c hc=>zf8 T hk h _ c (yaa _) (zaM T hc).2 (zdN T (zaM T hc).1);have half:∀{r r':List (List Int)},zaC r'→(∀ c,par ps c=some k→zak ps r' c=zak ps r c)→∀ e,(e∈ownE r k∧e∉ownE r' k)↔e∈zak ps r k∧e∉zak ps r' k:=fun {r r'} Q' ho e=>by
  constructor
  ·rintro ⟨a,b⟩;refine ⟨(zbu T hk).mpr (.inl a),fun z=>?_⟩;rcases (zbu T hk).mp z with z | ⟨c,hc,z⟩
   ·exact b z
   ·obtain ⟨i,hi,hbi,ei,_⟩:=zeg T Q' (zaM T hc).2 e ((zaP _).subset z);have:=(ziM hk a).2;have eik:i=k:=by omega
    have:=zdN T (zaM T hc).1;rw[← eik,hbi]at this;cases this
  ·rintro ⟨a,b⟩;refine ⟨?_,fun z=>b ((zbu T hk).mpr (.inl z))⟩;rcases (zbu T hk).mp a with z | ⟨c,hc,z⟩
   ·exact z
   ·exact absurd ((zbu T hk).mpr (.inr ⟨c,hc,by rw[ho c hc];exact z⟩)) b
 have ori:∀{r:List (List Int)},zaC r→Rise (ownE r k):=fun {r} Q=>by
  unfold ownE;exact List.Pairwise.map _ (R:=fun a b:Int=>a < b) (fun a b (h:a < b)=>zc0.mpr (.inl h)) (Q.at_up k)
 exact znb (zaF T R hk) (zaF T R' hk) ((ori R).filter _) ((ori R').filter _) (fun e=>zbm.trans (half R' oth e)) (fun e=>zbm.trans (half R (fun c hc=>(oth c hc).symm) e))
end
structure zaS (K:Frag)(CS:Addr)(H:Hp)(sh dx st p:Addr)(qs:List Addr)(ps:List Nat)(rows:List (List Int))(t rs:Addr)(as:List Addr):Prop where
 own:H dx=some (.own sh)
 ins:H sh=some (.ins CS dx [("kept",.ref st),("fulls",.ref p)])
 stand:zbx H st ps rows t rs as
 full:FA K H p qs (ps.length+1) (zak ps rows)
def Tp (H H':Hp):Prop:=∀ b us,H b=some (.tup us)→H' b=some (.tup us)
theorem zjA {H H':Hp}(e:Tp H H'){as:List Addr}{rows:List (List Int)}(h:zaN H as rows):zaN H' as rows:=pImp (fun _ _=>e _ _) h
theorem zcj {H H':Hp}{st t rs:Addr}{ps:List Nat}{rows:List (List Int)}{as:List Addr}(e:Tp H H')(S:zbx H st ps rows t rs as):zbx H' st ps rows t rs as:=
 ⟨e _ _ S.st,e _ _ S.tr,e _ _ S.rs,zjA e S.at_,S.len,S.T,S.R,S.few,S.keys⟩
theorem But.tp {H H':Hp}{p:Addr}(k:But p H H')(n:∀ us,H p≠some (.tup us)):Tp H H':=fun b us e=>k b _ (fun z=>n us (z ▸ e)) e
theorem zbl {K:Frag}{H H':Hp}(k:Tp H H'){es:List (Int×Int)}{ws:List V}(h:zal K H es ws):zal K H' es ws:=pImp (fun _ _ h=>by
  obtain ⟨a,x1,x2,rfl,hT,e1,e2⟩:=(show hasP K H _ _ from h);exact ⟨a,x1,x2,rfl,k _ _ hT,e1,e2⟩) h
theorem FA.tp {K:Frag}{H H':Hp}{p:Addr}{qs:List Addr}{n:Nat}{f:Nat→List En}(h:FA K H p qs n f)(e:Tp H H')(l:∀ b us,H b=some (.lst us)→H' b=some (.lst us)):FA K H' p qs n f:=
 ⟨l _ _ h.at_,h.len,h.nd,h.np,fun j q hq=>by
  obtain ⟨ws,h1,h2⟩:=h.get j q hq;exact ⟨ws,l _ _ h1,zbl e h2⟩⟩
def zmr (K:Frag)(CS:Addr):Sp:=fun vs H Q _=>∃(sh dx st:Addr) (ps:List Nat) (rows:List (List Int)) (t rs:Addr) (as:List Addr),vs=[.ref sh,.ref st]∧H dx=some (.own sh)∧H sh=some (.ins CS dx [])∧zbx H st ps rows t rs as∧
 ∀(p:Addr) (qs:List Addr) (H':Hp),H p=none→(∀ q∈qs,H q=none)→But sh H H'→zaS K CS H' sh dx st p qs ps rows t rs as→Q .non H'
theorem zsn {K:Frag}{H:Hp}{ps:List Nat}{rows:List (List Int)}:∀{n:Nat} {qs:List Addr} (m:Nat),zaG K H ps rows (List.range' m n) qs→qs.length=n∧∀(j:Nat) (q:Addr),qs[j]?=some q→∃ ws,H q=some (.lst ws)∧zal K H (zak ps rows (m+j)) ws
 | 0,_,_,.nil=>⟨rfl,fun j q h=>by simp at h⟩
 | n+1,_,m,.cons (b:=q) h r=>by
  obtain ⟨l,g⟩:=zsn (m+1) r;refine ⟨by rw[yaL,l],fun j q' hj=>?_⟩;cases j with
  | zero=>
   obtain rfl:=yad hj;exact h
  | succ j=>
   have:=g j q' hj;rwa[show m+1+j=m+(j+1) by omega]at this
theorem zaG.fa {K:Frag}{H:Hp}{p:Addr}{ps:List Nat}{rows:List (List Int)}{n:Nat}{qs:List Addr}(h:zaG K H ps rows (List.range n) qs)(hp:H p=some (.lst (qs.map V.ref)))(nd:qs.Nodup)(np:p∉qs):FA K H p qs n (zak ps rows):=by
 rw[List.range_eq_range']at h;obtain ⟨l,g⟩:=zsn 0 h;exact ⟨hp,l,nd,np,fun j q hj=>by
  have:=g j q hj;rwa[Nat.zero_add]at this⟩
theorem zqq (T:Txt K mg){CS:Addr}(O:OwnC K mg CS)(D_Shelf___init__:DI K CS "Shelf.__init__" zbC zbs)(F_full_rows:FC P w K mg base 8 "full_rows" zcT (zms K)):FI P w K mg base CS 9 zbs (zmr K CS):=by
 refine D_Shelf___init__.ok sc_Shelf___init__ (fun vs H Q E h=>?_) (fun f cdv A outer s H vs Q E hr h=>?_)
 ·obtain ⟨sh,dx,st,ps,rows,t,rs,as,rfl,_⟩:=h;rfl
 obtain ⟨sh,dx,st,ps,rows,t,rs,as,rfl,h1,h2,S,q⟩:=h;refine ⟨_,(zah (zkF (pv 0) (pv 1) rfl)
   (zae (zkF (pv 0) (zaA F_full_rows hr (zaa (pv 1) zad)) rfl))),?_⟩
 refine ⟨_,rfl,_,rfl,sh,CS,dx,[],rfl,h2,O.cl,O.n_kept,by decide,?_⟩;have k1:But sh H (upd H sh (.ins CS dx (putF "kept" (.ref st) []))):=fun b o n e=>by rw[zag n];exact e
 have hsd:dx≠sh:=fun z=>by rw[z,h2]at h1;cases h1
 have a1:=k1 _ _ hsd h1;have a2:upd H sh (.ins CS dx (putF "kept" (.ref st) [])) sh=some (.ins CS dx [("kept",.ref st)]):=zab;have S1:=zcj (k1.tp fun us z=>by rw[h2]at z;cases z) S
 have hn:∀ b,upd H sh (.ins CS dx (putF "kept" (.ref st) [])) b=none→H b=none:=fun b e=>by
  by_cases z:b=sh
  ·subst z;rw[a2]at e;cases e
  ·rwa[zag z]at e
 generalize upd H sh (.ins CS dx (putF "kept" (.ref st) []))=H1 at k1 a1 a2 S1 hn ⊢;refine ⟨_,rfl,st,ps,rows,t,rs,as,rfl,S1,fun p qs H2 hp s2 g2 nd hq np F=>?_⟩;have b2:=s2 _ _ a2;refine ⟨_,rfl,sh,CS,dx,_,rfl,b2,O.cl,O.n_fulls,(by show 1 < 1000;decide),?_⟩;have k2:But sh H2 (upd H2 sh (.ins CS dx (putF "fulls" (.ref p) [("kept",.ref st)]))):=fun b o n e=>by rw[zag n];exact e
 have F2:FA K (upd H2 sh (.ins CS dx (putF "fulls" (.ref p) [("kept",.ref st)]))) p qs (ps.length+1) (zak ps rows):=by
  exact (F.fa g2 nd np).tp (k2.tp fun us z=>by rw[b2]at z;cases z) fun b us e=>k2 b _ (fun z=>by rw[z,b2]at e;cases e) e
 refine q p qs _ (hn _ hp) (fun x hx=>hn _ (hq x hx)) (fun b o n e=>k2 b o n (s2 _ _ (k1 b o n e))) ⟨k2 _ _ hsd (s2 _ _ a1),by rw[zab];rfl,zcj (k2.tp fun us z=>by rw[b2]at z;cases z) (S1.same s2),F2⟩
def zjw (K:Frag):Sp:=fun vs H Q _=>∃(t:Addr) (kn:Nat) (ps:List Nat),vs=[.ref t,.int kn]∧H t=some (.tup (zbJ ps))∧ps.length≤900∧kn < ps.length+1∧Q .non H
def zml (CS:Addr):Sp:=fun vs H Q _=>∃(sh dx st p:Addr),vs=[.ref sh]∧H sh=some (.ins CS dx [("kept",.ref st),("fulls",.ref p)])∧Q (.ref st) H
theorem zos {CS:Addr}(O:OwnC K mg CS)(D_Shelf_stand:DM K CS "stand" "Shelf.stand" zcm zb3):FM P w K mg base CS 1 "stand" zb3 (zml CS):=by
 refine D_Shelf_stand.ok sc_Shelf_stand (fun vs H Q E h=>?_) (fun f cdv A outer s H vs Q E hr h=>?_)
 ·obtain ⟨sh,dx,st,p,rfl,_⟩:=h;rfl
 obtain ⟨sh,dx,st,p,rfl,h2,q⟩:=h;refine ⟨_,(zae (zau (zc5 (pv 0) rfl))),?_⟩;exact ⟨_,rfl,sh,CS,dx,_,_,rfl,h2,O.cl,O.n_kept,rfl,q⟩
theorem zoB (T:Txt K mg)(D_need_knot:DF K mg "need_knot" zdb zb8)(F_is_one_of_first:FC P w K mg base 2 "is_one_of_first" zaX (zjy K)):FC P w K mg base 3 "need_knot" zb8 (zjw K):=by
 refine D_need_knot.ok sc_need_knot (fun vs H Q E h=>?_) (fun f cdv A outer s H vs Q E hr h=>?_)
 ·obtain ⟨t,kn,ps,rfl,_⟩:=h;rfl
 obtain ⟨t,kn,ps,rfl,ht,hl,hk,q⟩:=h;refine ⟨_,(zae (zaW (zbG (zbe (zaA F_is_one_of_first hr (zaa (zam zan rfl T.m_len boot_len (zaa (pv 0) zad)) (zaa (pv 1) zad))))) (zae zbb) zax)),?_⟩;have el:=zat ps;refine ⟨_,rfl,_,_,rfl,.inr (SqT.of ht),_,rfl,_,_,rfl,by omega,by omega,_,rfl,?_⟩;exact iteF q
def znT (x:Int):Prop:=-10 ^ 60 < x∧x < 10 ^ 60
def zmn (K:Frag):Sp:=fun vs H Q _=>∃(x:Int),vs=[.int x]∧znT x∧Q .non H
theorem zov (T:Txt K mg)(D_need_key:DF K mg "need_key" zdY zdi)(F_is_key:FC P w K mg base 2 "is_key" zdD (zjx K)):FC P w K mg base 3 "need_key" zdi (zmn K):=by
 refine D_need_key.ok sc_need_key (fun vs H Q E h=>?_) (fun f cdv A outer s H vs Q E hr h=>?_)
 ·obtain ⟨x,rfl,_⟩:=h;rfl
 obtain ⟨x,rfl,hx,q⟩:=h;refine ⟨_,(zae (zaW (zbG (zbe (zaA F_is_key hr (zaa (pv 0) zad)))) (zae zbb) zax)),?_⟩;refine ⟨_,rfl,_,true,rfl,.int x _ (yag (p:=(if x < 0 then -x else x) < 10 ^ 60) ?_).symm,_,rfl,?_⟩
 ·obtain ⟨h1,h2⟩:=hx;split <;> omega
 exact iteF q
def zmt (K:Frag)(CS:Addr):Sp:=fun vs H Q _=>∃(sh dx st p:Addr) (kn:Nat) (qs:List Addr) (ps:List Nat) (rows:List (List Int)) (t rs:Addr) (as:List Addr),vs=[.ref sh,.int kn]∧zaS K CS H sh dx st p qs ps rows t rs as∧kn < ps.length+1∧
 ∀(D:Addr) (ws:List V),H D=none→zal K H (zak ps rows kn) ws→Q (.ref D) (upd H D (.lst ws))
theorem zoE (T:Txt K mg){CS:Addr}(O:OwnC K mg CS)(D_Shelf_full:DM K CS "full" "Shelf.full" zcR zcp)(F_need_knot:FC P w K mg base 3 "need_knot" zb8 (zjw K)):FM P w K mg base CS 4 "full" zcp (zmt K CS):=by
 refine D_Shelf_full.ok sc_Shelf_full (fun vs H Q E h=>?_) (fun f cdv A outer s H vs Q E hr h=>?_)
 ·obtain ⟨sh,dx,st,p,kn,qs,ps,rows,t,rs,as,rfl,_⟩:=h;rfl
 obtain ⟨sh,dx,st,p,kn,qs,ps,rows,t,rs,as,rfl,S,hk,q⟩:=h;refine ⟨_,(zah (zbi (zaA F_need_knot hr (zaa (zaD zaO (zc5 (pv 0) rfl) zaf (fun _ _=>rfl)) (zaa (pv 1) zad))))
   (zae (zau (zaT zcX rfl T.m_list boot_list (zaa (zaD zaI (zc5 (pv 0) rfl) (pv 1) (fun _ _=>rfl)) zad))))),?_⟩
 obtain ⟨qk,ws,g1,g2,g3⟩:=S.full.at hk;refine ⟨_,rfl,sh,CS,dx,_,_,rfl,S.ins,O.cl,O.n_kept,rfl,_,_,_,_,rfl,rfl,SqT.of S.stand.st,rfl,_,rfl,t,kn,ps,rfl,S.stand.tr,by have:=S.stand.few;omega,hk,?_⟩;refine ⟨_,rfl,sh,CS,dx,_,_,rfl,S.ins,O.cl,O.n_fulls,rfl,_,rfl,_,_,_,_,rfl,rfl,SqL.of S.full.at_,zbI g1,qk,ws,rfl,.inl (SqL.of g2),fun D hD=>?_⟩;exact q D ws hD g3
def zhC (K:Frag)(CS:Addr):Sp:=fun vs H Q _=>∃(sh dx st p:Addr) (kn:Nat) (x:Int) (qs:List Addr) (ps:List Nat) (rows:List (List Int)) (t rs:Addr) (as:List Addr),vs=[.ref sh,.int kn,.int x]∧zaS K CS H sh dx st p qs ps rows t rs as∧kn < ps.length+1∧znT x∧
 ∀(a:Addr),as[kn]?=some a→H a=some (.tup ((zap rows kn).map V.int))→Q (.ref a) H
theorem zmT (T:Txt K mg){CS:Addr}(O:OwnC K mg CS)(D_Shelf_row_for:DM K CS "row_for" "Shelf.row_for" zbM zbg)(F_need_knot:FC P w K mg base 3 "need_knot" zb8 (zjw K))(F_need_key:FC P w K mg base 3 "need_key" zdi (zmn K)):FM P w K mg base CS 4 "row_for" zbg (zhC K CS):=by
 refine D_Shelf_row_for.ok sc_Shelf_row_for (fun vs H Q E h=>?_) (fun f cdv A outer s H vs Q E hr h=>?_)
 ·obtain ⟨sh,dx,st,p,kn,x,qs,ps,rows,t,rs,as,rfl,_⟩:=h;rfl
 obtain ⟨sh,dx,st,p,kn,x,qs,ps,rows,t,rs,as,rfl,S,hk,hx,q⟩:=h;refine ⟨_,(zah (zbi (zaA F_need_knot hr (zaa (zaD zaO (zc5 (pv 0) rfl) zaf (fun _ _=>rfl)) (zaa (pv 1) zad))))
   (zah (zbi (zaA F_need_key hr (zaa (pv 2) zad)))
   (zae (zau (zaD zaO (zaD zaO (zc5 (pv 0) rfl) zaf (fun _ _=>rfl)) (pv 1) (fun _ _=>rfl)))))),?_⟩
 obtain ⟨a,g1,g2⟩:=S.stand.at_.get (k:=kn) (by rw[S.stand.len];exact hk);refine ⟨_,rfl,sh,CS,dx,_,_,rfl,S.ins,O.cl,O.n_kept,rfl,_,_,_,_,rfl,rfl,SqT.of S.stand.st,rfl,_,rfl,t,kn,ps,rfl,S.stand.tr,by have:=S.stand.few;omega,hk,?_⟩;refine ⟨_,rfl,x,rfl,hx,?_⟩;refine ⟨_,rfl,sh,CS,dx,_,_,rfl,S.ins,O.cl,O.n_kept,rfl,_,_,_,_,rfl,rfl,SqT.of S.stand.st,rfl,_,rfl,_,_,_,_,rfl,rfl,SqT.of S.stand.rs,zbI g1,?_⟩;exact q a g1 g2
abbrev kS (e:En):List Key:=[.inl e.1,.inl e.2]
theorem zsd {e f:En}(h:kS e=kS f):e=f:=by
 obtain ⟨a,b⟩:=e;obtain ⟨c,d⟩:=f;injection h with h1 h2;injection h2 with h2 _;have h1:a=c:=Sum.inl.inj h1;have h2:b=d:=Sum.inl.inj h2;rw[h1,h2]
def kvW (es:List En):List (List Key×V):=es.map fun e=>(kS e,.bl true)
theorem zjP (e:En):∀ es:List En,valV (kvW es) (kS e)=if e∈es then some (.bl true) else none
 | []=>rfl
 | f::es=>by
  show valV ((kS f,.bl true)::kvW es) (kS e)=_;by_cases z:f=e
  ·subst z;rw[zcM rfl,if_pos yaD]
  ·rw[zbz (fun y=>z (zsd y)),zjP e es];have hm:(e∈f::es)=(e∈es):=propext ⟨fun h=>(yam.mp h).resolve_left fun y=>z y.symm,fun h=>yaF _ h⟩;by_cases y:e∈es
   ·rw[if_pos y,if_pos (by rw[hm];exact y)]
   ·rw[if_neg y,if_neg (by rw[hm];exact y)]
def ziA (K:Frag):Sp:=fun vs H Q _=>∃(a c:Addr) (ws us:List V) (es cs:List En),vs=[.ref a,.ref c]∧H a=some (.lst ws)∧zal K H es ws∧es.length≤900∧H c=some (.lst us)∧zal K H cs us∧cs.length≤900∧cs.Nodup∧
 ∀(p:Addr) (ws':List V) (H':Hp),H p=none→Same H H'→H' p=some (.lst ws')→zal K H' (zaL es cs) ws'→Q (.ref p) H'
theorem zlu (T:Txt K mg)(D_without:DF K mg "without" zeA zd6):FC P w K mg base 1 "without" zd6 (ziA K):=by
 refine D_without.ok sc_without (fun vs H Q E h=>?_) (fun f cdv A outer s H vs Q E hr h=>?_)
 ·obtain ⟨a,c,ws,us,es,cs,rfl,_⟩:=h;rfl
 obtain ⟨a,c,ws,us,es,cs,rfl,ha,hw,hz,hc,hu,hzc,hnd,q⟩:=h;have hwl:=hw.length;have hul:=hu.length;refine ⟨_,(zah (zas (i:=2) sc_without.nd rfl (Or.inr rfl) zok)
   (zah (za2 PassesOwn.never rfl (zbQ (pv 1)) (zar (i:=3) sc_without.nd rfl (Or.inl rfl)) (zae (zfo (ze4 hr) (pv 2) (pv 3) zcZ rfl)))
   (zae (zau (zbS (N:=["entry","away"]) (own:=1) (cap:=[2]) rfl (zbQ (pv 0)) ⟨rfl,rfl,rfl,rfl,rfl,rfl⟩ (fun _ _ _ _ _=>(zar (i:=0) (show List.Nodup (["entry","away"]:List Str) by decide +kernel) rfl (Or.inl rfl))) (fun _ _ _ _ _=>(zcC (zav (zls (ze4 hr)) (pv 0) (pv 1) (by with_unfolding_all rfl)))) (fun _ _ _ _ _=>(pv 0))))))),?_⟩
 intro D hD;have k0:But D H (upd H D (.dT [])):=fun b o n e=>by rw[zag n];exact e
 have naD:a≠D:=zac ha hD;have ncD:c≠D:=zac hc hD;refine ⟨_,rfl,c,rfl,⟨_,SqL.of (k0 _ _ ncD hc)⟩,?_⟩;refine ze6 (xs:=us) (fun i σ H2=>∃ x3:Option V,σ=[some (.ref a),some (.ref c),some (.ref D),x3]∧H2 D=some (.dT (kvW (cs.take i)))∧But D H H2) ?_ ?_ ?_ ?_
 ·exact ⟨_,rfl,zab,k0⟩
 ·rintro i σ H2 _ ⟨x3,rfl,_,k2⟩;exact SqL.of (k2 _ _ ncD hc)
 ·rintro i x σ H2 hx ⟨x3,rfl,h2,k2⟩;obtain ⟨e,he,hhas⟩:=hu.get hx;obtain ⟨b,y1,y2,rfl,hb,hy1,hy2⟩:=(show hasP K H e x from hhas);have hy1:y1=.int e.1:=hy1;have hy2:y2=.int e.2:=hy2;subst hy1 hy2;have hi:=(yak.mp he).1;have htk:cs.take (i+1)=cs.take i++[e]:=by
   rw[yaQ hi,(yak.mp he).2]
  have h2b:=k2 _ _ (zac hb hD) hb;have hnot:e∉cs.take i:=fun z=>by
   have hn2:=hnd;rw[← yaS (i+1) cs,htk]at hn2;have:=(ybc.mp (ybc.mp hn2).1).2.2 e z e (yal.mpr rfl);exact this rfl
  have hln:(kvW (cs.take i)).length≤1000:=by
   unfold kvW;rw[yab,yaq];omega
  refine ⟨_,rfl,_,rfl,D,_,rfl,DPut.t (k:=kS e) h2 h2b (zao hln),?_⟩;refine ⟨_,rfl,?_,fun b o n e=>by rw[zag n];exact k2 b o n e⟩;rw[zab,zeJ _ (by rw[zjP,if_neg hnot]),htk];unfold kvW;rw[yat];rfl
 ·rintro σ H2 ⟨x3,rfl,h2,k2⟩;rw[yas (by omega)]at h2;have s2:Same H H2:=fun b o e=>k2 b o (zac e hD) e;have h2a:=s2 _ _ ha;refine ⟨_,rfl,a,rfl,⟨_,SqL.of h2a⟩,fun p hp=>?_⟩;have nDp:D≠p:=zac h2 hp;refine zbX (xs:=ws) (fun j σ H5=>∃(x0:Option V) (us:List V),σ=[x0,some (.ref D)]∧H5 p=some (.lst us)∧zal K H5 (zaL (es.take j) cs) us∧us.length≤j∧But p H2 H5) ?_ ?_ ?_ ?_
  ·exact ⟨_,[],rfl,zab,.nil,yaa _,fun b o n e=>by rw[zag n];exact e⟩
  ·rintro j σ H5 _ ⟨x0,us,rfl,_,_,_,k5⟩;exact k5.sq (SqL.of h2a) hp
  ·rintro j m x σ H5 hx hm ⟨x0,us,rfl,h5,hv,hul,k5⟩;have hj:=(yak.mp hx).1;obtain ⟨e,he,bb,x1,x2,rfl,hb,e1,e2⟩:∃ e,es[j]?=some e∧hasP K H e x:=hw.get hx;have e1':x1=.int e.1:=e1;have e2':x2=.int e.2:=e2;subst e1' e2';have htk:zaL (es.take (j+1)) cs=zaL (es.take j) cs++zaL [e] cs:=by
    unfold zaL;rw[yaQ (by omega),(yak.mp he).2,ybh]
   have b2:=s2 _ _ hb;have b5:=k5 _ _ (zac b2 hp) b2;have h5D:=k5 _ _ nDp h2;refine ⟨_,rfl,_,rfl,D,_,rfl,DGet.t (k:=kS e) h5D b5,_,rfl,?_⟩;rw[zjP];by_cases c:e∈cs
   ·rw[if_pos c];refine iteF ⟨m - 1,by omega,by omega,_,_,rfl,h5,?_,by omega,k5⟩;rw[htk,show zaL [e] cs=[] from ybn (p:=fun e=>decide (e∉cs)) (by simpa using c),yaz];exact hv
   ·rw[if_neg c];refine iteT ⟨_,rfl,_,h5,zao (by omega),m - 1,by omega,by omega,_,_,rfl,zab,?_,by rw[yap,ybg];omega,fun b o n e=>by rw[zag n];exact k5 b o n e⟩;rw[htk,show zaL [e] cs=[e] from ybd (p:=fun e=>decide (e∉cs)) (yag c)];exact (zaQ h5 hv).append (zaQ h5 (.cons ⟨bb,.int e.1,.int e.2,rfl,b5,rfl,rfl⟩ .nil))
  rintro σ H5 ⟨x0,us',rfl,h5,hv,_,k5⟩;rw[← hwl,yas (yaa _)]at hv;have hpH:H p=none:=by
   cases e:H p with
   | none=>rfl
   | some o=>
    rw[s2 _ _ e]at hp;cases hp
  exact q p us' H5 hpH (fun b o e=>k5 b o (zac (s2 _ _ e) hp) (s2 _ _ e)) h5 hv
section
variable {ps:List Nat}{rows rows':List (List Int)}{k:Nat}
def upN (ps:List Nat)(k:Nat):Nat→Option Nat
 | 0=>some k
 | m+1=>(upN ps k m).bind (par ps)
theorem znY {m j p:Nat}(h:upN ps k m=some j)(hp:par ps j=some p):upN ps k (m+1)=some p:=by
 show (upN ps k m).bind (par ps)=_;rw[h];exact hp
theorem zhx {m j:Nat}(h:upN ps k m=some j):upN ps k (m+1)=par ps j:=by
 show (upN ps k m).bind (par ps)=_;rw[h];rfl
theorem zfM {m p:Nat}(h:upN ps k (m+1)=some p):∃ j,upN ps k m=some j∧par ps j=some p:=by
 cases e:upN ps k m with
 | none=>
  have:(upN ps k m).bind (par ps)=some p:=h;rw[e]at this;cases this
 | some j=>
  have:(upN ps k m).bind (par ps)=some p:=h;rw[e]at this;exact ⟨j,rfl,this⟩
theorem zkj (T:zay ps):∀{m j:Nat},upN ps k m=some j→j+m≤k
 | 0,j,h=>by
  have:k=j:=yad h;omega
 | m+1,j,h=>by
  obtain ⟨i,h1,h2⟩:=zfM h;have:=zkj T h1;have:=(zaM T h2).1;omega
theorem zgc (T:zay ps)(hk:k < ps.length+1){m j:Nat}(h:upN ps k m=some j):j < ps.length+1:=by
 have:=zkj T h;omega
theorem zhy (T:zay ps){i j:Nat}:∀ d m,upN ps k (m+d)=some i→upN ps k m=some j→i+d≤j
 | 0,m,h1,h2=>by
  rw[ybs,h2]at h1;have:=yad h1;omega
 | d+1,m,h1,h2=>by
  obtain ⟨x,g1,g2⟩:=zfM (m:=m+d) h1;have:=zhy T d m g1 h2;have:=(zaM T g2).1;omega
theorem zkk (T:zay ps)(hk:k < ps.length+1):∀{m j:Nat},upN ps k m=some j→isB ps j k=true
 | 0,j,h=>by
  have:k=j:=yad h;subst this;exact zcq
 | m+1,j,h=>by
  obtain ⟨i,h1,h2⟩:=zfM h;exact (zce T _ k (yaa _) hk).mpr (.inr ⟨i,h2,zkk T hk h1⟩)
theorem zpp (T:zay ps)(hk:k < ps.length+1):∀(n j:Nat),ps.length+1 - j≤n→isB ps j k=true→∃ m,upN ps k m=some j
 | 0,j,hn,h=>by
  rcases (zce T _ k (yaa _) hk).mp h with z | ⟨c,hc,_⟩
  ·exact ⟨0,congrArg some z⟩
  ·have:=zaM T hc;omega
 | n+1,j,hn,h=>by
  rcases (zce T _ k (yaa _) hk).mp h with z | ⟨c,hc,hb⟩
  ·exact ⟨0,congrArg some z⟩
  ·have:=zaM T hc;obtain ⟨m,hm⟩:=zpp T hk n c (by omega) hb;exact ⟨m+1,znY hm hc⟩
def stL (ps:List Nat)(rows rows':List (List Int))(k:Nat):Nat→Nat→List En
 | 0,i=>zak ps rows i
 | m+1,i=>if upN ps k m=some i then zak ps rows' i else stL ps rows rows' k m i
theorem zmj:∀{m i m':Nat},m' < m→upN ps k m'=some i→stL ps rows rows' k m i=zak ps rows' i
 | m+1,i,m',h,e=>by
  unfold stL;by_cases z:upN ps k m=some i
  ·rw[if_pos z]
  ·rw[if_neg z];refine zmj (m':=m') ?_ e;rcases ybK m' m with y | y
   ·exact y
   ·have:m'=m:=by omega
    subst this;exact absurd e z
theorem zhB:∀{m i:Nat},(∀ m',m' < m→upN ps k m'≠some i)→stL ps rows rows' k m i=zak ps rows i
 | 0,_,_=>rfl
 | m+1,i,h=>by
  unfold stL;rw[if_neg (h m (by omega))];exact zhB fun m' hm=>h m' (by omega)
theorem zp1 (T:zay ps){m j:Nat}(h:upN ps k m=some j):stL ps rows rows' k m j=zak ps rows j:=zhB fun m' hm e=>by
 have:=zhy T (m - m') m' (by rw[show m'+(m - m')=m by omega];exact h) e;omega
theorem zl1 (T:zay ps)(R:zaC rows)(R':zaC rows')(hk:k < ps.length+1)(h:zfJ k rows rows'){m j:Nat}(hm:upN ps k m=some j)(e:zak ps rows' j=zak ps rows j):∀{d i:Nat},upN ps k (m+d)=some i→zak ps rows' i=zak ps rows i
 | 0,i,hi=>by
  rw[ybs,hm]at hi;have:=yad hi;subst this;exact e
 | d+1,i,hi=>by
  obtain ⟨x,g1,g2⟩:=zfM (m:=m+d) hi;have ih:=zl1 T R R' hk h hm e g1;have L:=znu T R R' hk h (zkk T hk g1) g2;rw[ih,zi6]at L;exact zh5 (zaF T R (zgc T hk hi)) (zaF T R' (zgc T hk hi)) L.gone.symm L.come.symm
theorem zp0 (T:zay ps)(R:zaC rows)(R':zaC rows')(hk:k < ps.length+1)(h:zfJ k rows rows'){m:Nat}(hm:upN ps k m=none∨∃ j,upN ps k m=some j∧zak ps rows' j=zak ps rows j){i:Nat}(hi:i < ps.length+1):stL ps rows rows' k m i=zak ps rows' i:=by
 cases e:isB ps i k with
 | false=>
  rw[zhB fun m' _ z=>by rw[zkk T hk z]at e;cases e]
  exact (zf8 T hk h _ i (yaa _) hi e).symm
 | true=>
  obtain ⟨m',e'⟩:=zpp T hk _ i (yaa _) e;rcases ybK m' m with y | y
  ·exact zmj y e'
  ·rw[zhB fun x hx z=>by
    have:=zhy T (m' - x) x (by rw[show x+(m' - x)=m' by omega];exact e') z;omega]
   rcases hm with hm | ⟨j,hm,hj⟩
   ·exfalso;have:∀ d,upN ps k (m+d)=none:=fun d=>by
     induction d with
     | zero=>exact hm
     | succ d ih=>
      show (upN ps k (m+d)).bind (par ps)=none;rw[ih];rfl
    have:=this (m' - m);rw[show m+(m' - m)=m' by omega,e']at this;cases this
   ·exact (zl1 T R R' hk h hm hj (d:=m' - m) (by rw[show m+(m' - m)=m' by omega];exact e')).symm
end
def zlh (ps:List Nat)(rows rows':List (List Int))(j:Nat):Tri Int (List En) (List En):=⟨(j:Int),zaL (zak ps rows j) (zak ps rows' j),zaL (zak ps rows' j) (zak ps rows j)⟩
def zbZ (ps:List Nat)(rows rows':List (List Int))(k:Nat):Nat→List (Tri Int (List En) (List En))
 | 0=>[]
 | m+1=>zbZ ps rows rows' k m++((upN ps k m).map (zlh ps rows rows')).toList
structure zcI (K:Frag)(CS:Addr)(H:Hp)(sh dx st p:Addr)(qs:List Addr)(ps:List Nat)(rows rows':List (List Int))(t rs:Addr)(as:List Addr)(k m:Nat):Prop where
 own:H dx=some (.own sh)
 ins:H sh=some (.ins CS dx [("kept",.ref st),("fulls",.ref p)])
 stand:zbx H st ps rows' t rs as
 full:FA K H p qs (ps.length+1) (stL ps rows rows' k m)
def zik (ps:List Nat)(rows rows':List (List Int))(k m:Nat):Prop:=(∀ m' j,m' < m→upN ps k m'=some j→¬(zaL (zak ps rows j) (zak ps rows' j)=[]∧zaL (zak ps rows' j) (zak ps rows j)=[]))∧
 (upN ps k m=none∨∃ j,upN ps k m=some j∧zaL (zak ps rows j) (zak ps rows' j)=[]∧zaL (zak ps rows' j) (zak ps rows j)=[])
structure zsu (K:Frag)(H:Hp)(D:Addr)(Fr:Addr→Prop)(e:Tri Int (List En) (List En))(v:V):Prop where
 ex:∃(u g c:Addr) (gw cw:List V),v=.ref u∧H u=some (.tup [.int e.a,.ref g,.ref c])∧H g=some (.lst gw)∧zal K H e.b gw∧H c=some (.lst cw)∧zal K H e.c cw∧g≠D∧c≠D∧Fr g∧Fr c
def za8 (K:Frag)(H:Hp)(D:Addr)(Fr:Addr→Prop):List (Tri Int (List En) (List En))→List V→Prop:=Paired (zsu K H D Fr)
theorem zkm {R S:Tri Int (List En) (List En)→V→Prop}(h:∀ e v,R e v→S e v){es:List (Tri Int (List En) (List En))}{us:List V}(p:Paired R es us):Paired S es us:=by
 induction p with
 | nil=>exact .nil
 | cons a _ ih=>exact .cons (h _ _ a) ih
theorem za8.keep {K:Frag}{H H':Hp}{D:Addr}{Fr:Addr→Prop}(k:∀ b o,b≠D→Fr b→H b=some o→H' b=some o)(tp:Tp H H'){es:List (Tri Int (List En) (List En))}{us:List V}(h:za8 K H D Fr es us):za8 K H' D Fr es us:=zkm (fun e v z=>by
 obtain ⟨u,g,c,gw,cw,e1,e2,e3,e4,e5,e6,n1,n2,n3,n4⟩:=z.ex;exact ⟨u,g,c,gw,cw,e1,tp _ _ e2,k _ _ n1 n3 e3,zbl tp e4,k _ _ n2 n4 e5,zbl tp e6,n1,n2,n3,n4⟩) h
theorem za8.imp {K:Frag}{H:Hp}{D:Addr}{Fr Fr':Addr→Prop}(k:∀ b o,H b=some o→Fr b→Fr' b){es:List (Tri Int (List En) (List En))}{us:List V}(h:za8 K H D Fr es us):za8 K H D Fr' es us:=zkm (fun e v z=>by
 obtain ⟨u,g,c,gw,cw,e1,e2,e3,e4,e5,e6,n1,n2,n3,n4⟩:=z.ex;exact ⟨u,g,c,gw,cw,e1,e2,e3,e4,e5,e6,n1,n2,k _ _ e3 n3,k _ _ e5 n4⟩) h
theorem za8.snoc {K:Frag}{H:Hp}{D:Addr}{Fr:Addr→Prop}{e:Tri Int (List En) (List En)}{v:V}{es:List (Tri Int (List En) (List En))}{us:List V}(h:za8 K H D Fr es us)(g:zsu K H D Fr e v):za8 K H D Fr (es++[e]) (us++[v]):=by
 induction h with
 | nil=>exact .cons g .nil
 | cons a _ ih=>exact .cons a ih
def zjz (K:Frag)(CS:Addr):Sp:=fun vs H Q _=>∃(sh dx st p g c:Addr) (gw cw:List V) (kn:Nat) (qs:List Addr) (ps:List Nat) (rows rows':List (List Int)) (t rs:Addr) (as:List Addr) (Fr:Addr→Prop),vs=[.ref sh,.int kn,.ref g,.ref c]∧zcI K CS H sh dx st p qs ps rows rows' t rs as kn 0∧
 kn < ps.length+1∧zfJ kn rows rows'∧zaC rows∧rows.length=ps.length+1∧zbT rows≤400∧H g=some (.lst gw)∧zal K H (zaL (zak ps rows kn) (zak ps rows' kn)) gw∧H c=some (.lst cw)∧zal K H (zaL (zak ps rows' kn) (zak ps rows kn)) cw∧Fr g∧Fr c∧g∉qs∧c∉qs∧¬Fr p∧(∀ b,H b=none→Fr b)∧
 ∀(D:Addr) (us:List V) (m:Nat) (qs':List Addr) (H':Hp),zik ps rows rows' kn m→H D=none→(∀ q∈qs',q∈qs∨H q=none)→But p H H'→zaS K CS H' sh dx st p qs' ps rows' t rs as→H' D=some (.lst us)→za8 K H' D (fun b=>Fr b∧b∉qs') (zbZ ps rows rows' kn m) us→Q (.ref D) H'
def upV:Option Nat→V
 | none=>.non
 | some j=>.int j
def Goes (ps:List Nat)(rows rows':List (List Int))(k m:Nat):Prop:=∀ m' j,m' < m→upN ps k m'=some j→¬(zaL (zak ps rows j) (zak ps rows' j)=[]∧zaL (zak ps rows' j) (zak ps rows j)=[])
structure CarI (K:Frag)(CS:Addr)(Fr:Addr→Prop)(H H2:Hp)(sh dx st p g c D:Addr)(gw cw us:List V)(qs qs':List Addr)(ps:List Nat)(rows rows':List (List Int))(t rs:Addr)(as:List Addr)(k m:Nat):Prop where
 half:zcI K CS H2 sh dx st p qs' ps rows rows' t rs as k m
 hg:H2 g=some (.lst gw)
 hc:H2 c=some (.lst cw)
 cur:∀ j,upN ps k m=some j→zal K H2 (zaL (zak ps rows j) (zak ps rows' j)) gw∧zal K H2 (zaL (zak ps rows' j) (zak ps rows j)) cw
 goes:Goes ps rows rows' k m
 hD:H2 D=some (.lst us)
 told:za8 K H2 D (fun b=>Fr b∧b∉qs') (zbZ ps rows rows' k m) us
 gD:g≠D
 cD:c≠D
 gp:Fr g
 cp:Fr c
 gq:g∉qs'
 cq:c∉qs'
 nD:H D=none
 nqs:∀ q∈qs',q∈qs∨H q=none
 but:But p H H2
 dp:D≠p
 dqs:D∉qs'
theorem zcI.keep {K:Frag}{CS:Addr}{H H':Hp}{sh dx st p:Addr}{qs:List Addr}{ps:List Nat}{rows rows':List (List Int)}{t rs:Addr}{as:List Addr}{k m:Nat}{D:Addr}(S:zcI K CS H sh dx st p qs ps rows rows' t rs as k m)(kp:But D H H')(hD:∀ o,H D=some o→∃ us,o=.lst us)(dp:D≠p)(dq:D∉qs):zcI K CS H' sh dx st p qs ps rows rows' t rs as k m:=by
 have nl:∀{b:Addr} {o:HO},H b=some o→(∀ us,o≠.lst us)→H' b=some o:=fun {b o} e n=>kp b o (fun z=>by
  subst z;obtain ⟨us,z⟩:=hD _ e;exact n us z) e
 have tp:Tp H H':=fun b us e=>nl e (fun _ z=>nomatch z);refine ⟨nl S.own (fun _ z=>nomatch z),nl S.ins (fun _ z=>nomatch z),zcj tp S.stand,kp _ _ dp.symm S.full.at_,S.full.len,S.full.nd,S.full.np,fun j q hq=>?_⟩;obtain ⟨ws,h1,h2⟩:=S.full.get j q hq;exact ⟨ws,kp _ _ (fun z=>dq (z ▸ yaE hq)) h1,zbl tp h2⟩
theorem ziv {ps:List Nat}{rows rows':List (List Int)}{k:Nat}(T:zay ps):∀ m:Nat,(zbZ ps rows rows' k m).length≤m
 | 0=>yaa _
 | m+1=>by
  unfold zbZ;rw[yap];have:=ziv (rows:=rows) (rows':=rows') (k:=k) T m;cases upN ps k m with
  | none=>exact Nat.le_succ_of_le this
  | some j=>exact Nat.succ_le_succ this
theorem zhS (ps:List Nat)(j:Nat):parV ps j=upV (par ps j):=by
 unfold parV;cases par ps j <;> rfl
theorem zoG (T:Txt K mg){CS:Addr}(O:OwnC K mg CS)(D_Shelf_carry_up:DM K CS "carry_up" "Shelf.carry_up" zbB za4)(F_handed:FC P w K mg base 6 "handed" zdE (zhE K))(F_joined_up:FC P w K mg base 1 "joined_up" zb9 (zmq K))(F_without:FC P w K mg base 1 "without" zd6 (ziA K)):FM P w K mg base CS 7 "carry_up" za4 (zjz K CS):=by
 refine D_Shelf_carry_up.ok sc_Shelf_carry_up (fun vs H Q E h=>?_) (fun f cdv A outer s H vs Q E hr h=>?_)
 ·obtain ⟨sh,dx,st,p,g,c,gw,cw,kn,qs,ps,rows,rows',t,rs,as,Fr,rfl,_⟩:=h;rfl
 obtain ⟨sh,dx,st,p,g,c,gw,cw,kn,qs,ps,rows,rows',t,rs,as,Fr,rfl,S,hk,hB,R,hlen,hkeys,hg,hgw,hc,hcw,ngp,ncp,ngq,ncq,hFp,hF0,q⟩:=h;refine ⟨_,(zaz (zas (i:=4) sc_Shelf_carry_up.nd rfl (Or.inl rfl) (zca zad))
   (zaz (zf1 PassesOwn.never (PW.pt (zg1 (zav zjF (pv 1) zkG (zaH _)) (zfn (zav zlt (zaw za7 (zam zan rfl T.m_len boot_len (zaa (pv 2) zad)) (zam zan rfl T.m_len boot_len (zaa (pv 3) zad))) zaf (zaH _))))) (zaz (zbi (zeW F.plainAttrs_list F.slot_list_append F.type_list_append zaU (pv 4) (zaa (za6 (zaa (pv 1) (zaa (pv 2) (zaa (pv 3) zad)))) zad)))
   (zaz (zas (i:=5) sc_Shelf_carry_up.nd rfl (Or.inl rfl) (zaA F_handed hr (zaa (zaD zaI (zc5 (pv 0) rfl) (pv 1) (fun _ _=>rfl)) zad)))
   (zaz (zdx (zaA F_joined_up hr (zaa (zca (zaa (zaA F_without hr (zaa (zaD zaI (zc5 (pv 0) rfl) (pv 1) (fun _ _=>rfl)) (zaa (pv 2) zad))) (zaa (pv 3) zad))) zad)) (zeU (zc5 (pv 0) rfl) (pv 1) zck))
   (zaz (zas (i:=6) sc_Shelf_carry_up.nd rfl (Or.inl rfl) (zaA F_handed hr (zaa (zaD zaI (zc5 (pv 0) rfl) (pv 1) (fun _ _=>rfl)) zad)))
   (zaz (zas (i:=2) sc_Shelf_carry_up.nd rfl (Or.inl rfl) (zaA F_without hr (zaa (pv 5) (zaa (pv 6) zad))))
   (zaz (zas (i:=3) sc_Shelf_carry_up.nd rfl (Or.inl rfl) (zaA F_without hr (zaa (pv 6) (zaa (pv 5) zad))))
   (zae (zas (i:=1) sc_Shelf_carry_up.nd rfl (Or.inl rfl) (zaD zaO (zaD zaO (zc5 (pv 0) rfl) zaf (fun _ _=>rfl)) (pv 1) (fun _ _=>rfl)))))))))))
   (zae (zau (pv 4))))),?_⟩
 intro N0 n0;refine ⟨(by show 0≤sizeLine;decide),fun D hD=>n0 _ _ ?_⟩;intro Nw nw;have T':=S.stand.T;have R':=S.stand.R;have s0:=zai hD (.lst []);refine zga (fun σ H2=>∃(g c:Addr) (gw cw us:List V) (qs':List Addr) (m:Nat) (x5 x6:Option V),σ=[some (.ref sh),some (upV (upN ps kn m)),some (.ref g),some (.ref c),some (.ref D),x5,x6]∧CarI K CS Fr H H2 sh dx st p g c D gw cw us qs qs' ps rows rows' t rs as kn m)
  (fun σ H2=>∃(g c:Addr) (gw cw us:List V) (qs':List Addr) (m:Nat) (x5 x6:Option V),σ=[some (.ref sh),some (upV (upN ps kn m)),some (.ref g),some (.ref c),some (.ref D),x5,x6]∧CarI K CS Fr H H2 sh dx st p g c D gw cw us qs qs' ps rows rows' t rs as kn m∧(upN ps kn m=none∨∃ j,upN ps kn m=some j∧zaL (zak ps rows j) (zak ps rows' j)=[]∧zaL (zak ps rows' j) (zak ps rows j)=[]))
  (fun σ _=>match σ with | _::some (.int j)::_=>j.toNat+1 | _=>0) ?_ ?_ ?_ ?_
 ·refine ⟨g,c,gw,cw,[],qs,0,_,_,rfl,⟨s0 _ _ S.own,s0 _ _ S.ins,S.stand.same s0,S.full.ext s0.ext⟩,s0 _ _ hg,s0 _ _ hc,fun j e=>?_,fun m' j h=>absurd h (ybO _),zab,.nil,zac hg hD,zac hc hD,ngp,ncp,ngq,ncq,hD,fun q h=>.inl h,fun b o _ e=>s0 b o e,(fun z=>by rw[z,S.full.at_]at hD;cases hD),fun z=>?_⟩
  ·have:kn=j:=yad e;subst this;exact ⟨hgw.mono s0.ext,hcw.mono s0.ext⟩
  ·obtain ⟨j,hj,e⟩:=yaO z;obtain ⟨ws,w1,_⟩:=S.full.get j D (by rw[yac hj,e]);rw[hD]at w1;cases w1
 ·rintro σ H2 ⟨g,c,gw,cw,us,qs',m,x5,x6,rfl,I⟩;cases eu:upN ps kn m with
  | none=>
   refine ⟨_,rfl,rfl,_,rfl,?_⟩;refine iteF ?_;refine iteF ?_;exact ⟨g,c,gw,cw,us,qs',m,x5,x6,by rw[eu],I,.inl eu⟩
  | some j=>
   refine ⟨_,rfl,rfl,_,rfl,?_⟩;refine iteT ?_;refine ⟨_,rfl,_,_,rfl,.inl (SqL.of I.hg),_,rfl,_,_,rfl,.inl (SqL.of I.hc),_,_,rfl,rfl,_,_,rfl,rfl,_,rfl,?_⟩;obtain ⟨cg,cc⟩:=I.cur j eu;have lg:=cg.length;have lc:=cc.length;refine ite2 (fun hpos=>?_) (fun hneg=>?_)
   ·have hmj:=zkj T' eu;have hjn:=zgc T' hk eu;have hfew:=S.stand.few;have hul:us.length≤m:=by
     have:=Paired.length I.told;have:=ziv (rows:=rows) (rows':=rows') (k:=kn) T' m;omega
    refine zsg fun N B' R0 hN hB' hR'=>?_;intro N1 n1;refine ⟨_,rfl,.inl ⟨rfl,_,SqL.of I.hD⟩,?_⟩;refine ⟨_,rfl,_,rfl,_,rfl,(by show 3≤sizeLine;decide),fun u hu=>?_⟩;have su:=zai hu (.tup [upV (some j),.ref g,.ref c]);have huT:upd H2 u (.tup [upV (some j),.ref g,.ref c]) u=some (.tup [.int (j:Int),.ref g,.ref c]):=zab;generalize upd H2 u (.tup [upV (some j),.ref g,.ref c])=H3 at su huT ⊢;refine ⟨_,_,_,rfl,rfl,su _ _ I.hD,zao (by omega),n1 _ _ ?_⟩;intro N2 n2;have hDq:∀ o,H3 D=some o→∃ us,o=.lst us:=fun o e=>⟨us,by rw[su _ _ I.hD]at e;exact (yad e).symm⟩;have k4:But D H3 (upd H3 D (.lst (us++[.ref u]))):=fun b o n e=>by rw[zag n];exact e
    have S4:zcI K CS (upd H3 D (.lst (us++[.ref u]))) sh dx st p qs' ps rows rows' t rs as kn m:=zcI.keep ⟨su _ _ I.half.own,su _ _ I.half.ins,I.half.stand.same su,I.half.full.ext su.ext⟩ k4 hDq I.dp I.dqs;have tp4:Tp H3 (upd H3 D (.lst (us++[.ref u]))):=k4.tp fun us' z=>by rw[su _ _ I.hD]at z;cases z
    have tpS:Tp H2 H3:=fun b us e=>su _ _ e;have g4:=k4 _ _ I.gD (su _ _ I.hg);have c4:=k4 _ _ I.cD (su _ _ I.hc);have cg4:=zbl tp4 (zbl tpS cg);have cc4:=zbl tp4 (zbl tpS cc);have D4:upd H3 D (.lst (us++[.ref u])) D=some (.lst (us++[.ref u])):=zab;have t4:za8 K (upd H3 D (.lst (us++[.ref u]))) D (fun b=>Fr b∧b∉qs') (zbZ ps rows rows' kn (m+1)) (us++[.ref u]):=by
     have e:zbZ ps rows rows' kn (m+1)=zbZ ps rows rows' kn m++[zlh ps rows rows' j]:=by
      show _++((upN ps kn m).map (zlh ps rows rows')).toList=_;rw[eu];rfl
     rw[e];refine za8.snoc (za8.keep (fun b o n1 _ e=>k4 b o n1 (su _ _ e)) (fun b us e=>tp4 _ _ (tpS _ _ e)) I.told) ⟨u,g,c,gw,cw,rfl,tp4 _ _ huT,g4,cg4,c4,cc4,I.gD,I.cD,⟨I.gp,I.gq⟩,⟨I.cp,I.cq⟩⟩
    have b4:But p H (upd H3 D (.lst (us++[.ref u]))):=fun b o n e=>k4 b o (zac e hD) (su _ _ (I.but b o n e));clear k4 hDq tp4;generalize upd H3 D (.lst (us++[.ref u]))=H4 at S4 g4 c4 cg4 cc4 D4 t4 b4 ⊢;obtain ⟨qj,ws,f1,f2,f3⟩:=S4.full.at hjn;rw[zp1 T' eu]at f3;have hle:=zdt T' hlen hjn;have hle':=zdt T' S.stand.len hjn;have hk':=S.stand.keys;refine ⟨_,rfl,sh,CS,dx,_,_,rfl,S4.ins,O.cl,O.n_fulls,rfl,_,rfl,_,_,_,_,rfl,rfl,SqL.of S4.full.at_,zbI f1,qj,ws,_,rfl,f2,f3,by omega,ze5 T' R hfew hjn,zaF T' R hjn,fun B H5 hB5 s5 h5=>n2 _ _ ?_⟩;intro N3 n3;have hh5:zal K H5 (zcr (zak ps rows j)) (zcf ws (zbH (zak ps rows j))):=zf7 (f3.mono s5.ext);have tp5:Tp H4 H5:=fun b us e=>s5 _ _ e;have S5:zcI K CS H5 sh dx st p qs' ps rows rows' t rs as kn m:=⟨s5 _ _ S4.own,s5 _ _ S4.ins,S4.stand.same s5,S4.full.ext s5.ext⟩;have ndg:(zaL (zak ps rows j) (zak ps rows' j)).Nodup:=zhi (zdu T' R hjn);refine ⟨_,rfl,sh,CS,dx,_,_,rfl,S5.ins,O.cl,O.n_fulls,rfl,_,rfl,_,_,_,_,rfl,rfl,SqL.of S5.full.at_,zbI f1,_,rfl,qj,g,ws,gw,_,_,rfl,s5 _ _ f2,f3.mono s5.ext,by omega,s5 _ _ g4,cg4.mono s5.ext,?_,ndg,fun W ww H6 hW s6 h6 hw6=>?_⟩
    ·exact yao (ya3 _ _) (by omega)
    refine ⟨_,rfl,(by show 2≤sizeLine;decide),fun L hL=>?_⟩;have s7:=zai hL (.lst [.ref W,.ref c]);have c7:=s7 _ _ (s6 _ _ (s5 _ _ c4));have hL7:upd H6 L (.lst [.ref W,.ref c]) L=some (.lst ([W,c].map V.ref)):=zab;have W7:=s7 _ _ h6;have w7:=hw6.mono s7.ext;generalize upd H6 L (.lst [.ref W,.ref c])=H7 at s7 c7 hL7 W7 w7 ⊢;have s47:Same H4 H7:=s5.trans (s6.trans s7);have cl:(zaL (zak ps rows' j) (zak ps rows j)).length≤(zak ps rows' j).length:=ya3 _ _;have gl:(zaL (zak ps rows j) (zaL (zak ps rows j) (zak ps rows' j))).length≤(zak ps rows j).length:=ya3 _ _;refine ⟨L,[W,c],[zaL (zak ps rows j) (zaL (zak ps rows j) (zak ps rows' j)),zaL (zak ps rows' j) (zak ps rows j)],rfl,hL7,.cons ⟨ww,W7,w7⟩ (.cons ⟨cw,c7,cc4.mono s47.ext⟩ .nil),?_,fun J jw H8 hJ s8 h8 hw8=>?_⟩
    ·rw[ybQ,ybQ,List.flatten_nil,yaz,yap];omega
    rw[ybQ,ybQ,List.flatten_nil,yaz,← (zqB (zaF T' R hjn) (zaF T' R' hjn)).eq]at hw8;have s48:Same H4 H8:=s47.trans s8;have S8:zcI K CS H8 sh dx st p qs' ps rows rows' t rs as kn m:=⟨s48 _ _ S4.own,s48 _ _ S4.ins,S4.stand.same s48,S4.full.ext s48.ext⟩;refine ⟨_,rfl,sh,CS,dx,_,_,rfl,S8.ins,O.cl,O.n_fulls,rfl,_,rfl,p,_,_,j,rfl,rfl,S8.full.at_,zds (by rw[yab,S8.full.len];exact hjn),n3 _ _ ?_⟩;intro N4 n4;have nn:∀{b:Addr},H7 b=none→H4 b=none:=fun {b} e=>by
     cases e4:H4 b with
     | none=>rfl
     | some o=>
      rw[s47 _ _ e4]at e;cases e
    have hJ4:=nn hJ;have hJp:J≠p:=fun z=>by rw[z,S4.full.at_]at hJ4;cases hJ4
    have hJq:J∉qs':=fun z=>by
     obtain ⟨i,hi,e⟩:=yaO z;obtain ⟨ws,w1,_⟩:=S4.full.get i J (by rw[yac hi,e]);rw[hJ4]at w1;cases w1
    have hJD:D≠J:=fun z=>by rw[← z,D4]at hJ4;cases hJ4
    have hBp:B≠p:=fun z=>by rw[z,S4.full.at_]at hB5;cases hB5
    have F9:=S8.full.set (k:=j) h8 hw8 hJq hJp;have k9:But p H8 (upd H8 p (.lst ((qs'.map V.ref).set j (.ref J)))):=fun b o n e=>by rw[zag n];exact e
    have tp9:Tp H8 (upd H8 p (.lst ((qs'.map V.ref).set j (.ref J)))):=k9.tp fun us' z=>by rw[S8.full.at_]at z;cases z
    have F9':FA K (upd H8 p (.lst ((qs'.map V.ref).set j (.ref J)))) p (qs'.set j J) (ps.length+1) (stL ps rows rows' kn (m+1)):=F9.congr fun i hi=>by
     show _=if upN ps kn m=some i then zak ps rows' i else stL ps rows rows' kn m i
     rw[eu];by_cases z:i=j
     ·rw[if_pos z,if_pos (by rw[z]),z]
     ·rw[if_neg z,if_neg (fun y=>z (yad y).symm)]
    have nlp:∀{b:Addr} {o:HO},H8 b=some o→(∀ us,o≠.lst us)→upd H8 p (.lst ((qs'.map V.ref).set j (.ref J))) b=some o:=fun {b o} e n=>k9 b o (fun z=>by
     rw[z,S8.full.at_]at e;exact n _ (yad e).symm) e
    have S9:zcI K CS (upd H8 p (.lst ((qs'.map V.ref).set j (.ref J)))) sh dx st p (qs'.set j J) ps rows rows' t rs as kn (m+1):=⟨nlp S8.own (fun _ z=>nomatch z),nlp S8.ins (fun _ z=>nomatch z),zcj tp9 S8.stand,F9'⟩;have s58:Same H5 H8:=s6.trans (s7.trans s8);have B9:=k9 _ _ hBp (s58 _ _ h5);have hB9:=zbl tp9 (hh5.mono s58.ext);have J9:=k9 _ _ hJp h8;have hJ9:=zbl tp9 hw8;have D9:=k9 _ _ I.dp (s48 _ _ D4);have t4':=t4.imp (Fr':=fun b=>Fr b∧b∉qs'.set j J) fun b o e n=>⟨n.1,fun z=>by
     rcases ybu z with y | y
     ·exact n.2 y
     ·rw[y,hJ4]at e;cases e⟩
    have t9:=za8.keep (fun b o _ n e=>k9 b o (fun z=>hFp (z ▸ n.1)) (s48 _ _ e)) (fun b us e=>tp9 _ _ (s48 _ _ e)) t4';have b9:But p H (upd H8 p (.lst ((qs'.map V.ref).set j (.ref J)))):=fun b o n e=>k9 b o n (s48 _ _ (b4 b o n e));clear k9 tp9 nlp F9 F9';generalize upd H8 p (.lst ((qs'.map V.ref).set j (.ref J)))=H9 at S9 B9 hB9 J9 hJ9 D9 t9 b9 ⊢;have fJ:(qs'.set j J)[j]?=some J:=by
     have:=I.half.full.len;rw[ybt,if_pos rfl,if_pos (by omega)]
    refine ⟨_,rfl,sh,CS,dx,_,_,rfl,S9.ins,O.cl,O.n_fulls,rfl,_,rfl,_,_,_,_,rfl,rfl,SqL.of S9.full.at_,zbI fJ,J,jw,_,rfl,J9,hJ9,by omega,ze5 T' R' hfew hjn,zaF T' R' hjn,fun A' H10 hA10 s10 h10=>n4 _ _ ?_⟩;intro N5 n5;have hh10:zal K H10 (zcr (zak ps rows' j)) (zcf jw (zbH (zak ps rows' j))):=zf7 (hJ9.mono s10.ext);have hl1:=(zaP (zak ps rows j)).length_le;have hl2:=(zaP (zak ps rows' j)).length_le;have nd1:=(zdu T' R hjn).sublist (zaP (zak ps rows j));have nd2:=(zdu T' R' hjn).sublist (zaP (zak ps rows' j));refine ⟨_,rfl,_,rfl,B,A',_,_,_,_,rfl,s10 _ _ B9,hB9.mono s10.ext,by omega,h10,hh10,by omega,nd2,fun G gw' H11 hG s11 h11 hw11=>n5 _ _ ?_⟩;intro N6 n6;refine ⟨_,rfl,_,rfl,A',B,_,_,_,_,rfl,s11 _ _ h10,hh10.mono s11.ext,by omega,s11 _ _ (s10 _ _ B9),(hB9.mono s10.ext).mono s11.ext,by omega,nd1,fun C cw' H12 hC s12 h12 hw12=>n6 _ _ ?_⟩;have s92:Same H9 H12:=s10.trans (s11.trans s12);have S12:zcI K CS H12 sh dx st p (qs'.set j J) ps rows rows' t rs as kn (m+1):=⟨s92 _ _ S9.own,s92 _ _ S9.ins,S9.stand.same s92,S9.full.ext s92.ext⟩;refine ⟨_,rfl,sh,CS,dx,_,_,rfl,S12.ins,O.cl,O.n_kept,rfl,_,_,_,_,rfl,rfl,SqT.of S12.stand.st,rfl,_,rfl,_,_,_,_,rfl,rfl,SqT.of S12.stand.tr,zet hjn,?_⟩;have tp92:Tp H9 H12:=fun b us e=>s92 _ _ e;have hnH:∀{b:Addr},H9 b=none→H b=none∨b=p:=fun {b} e=>by
     by_cases z:b=p
     ·exact .inr z
     ·refine .inl ?_;cases e4:H b with
      | none=>rfl
      | some o=>
       rw[b9 _ _ z e4]at e;cases e
    have nG:H9 G=none:=s10.free hG;have nC:H9 C=none:=s10.free (s11.free hC);have nqs:∀{b:Addr},H9 b=none→b∉qs'.set j J:=fun {b} e z=>by
     obtain ⟨i,hi,ei⟩:=yaO z;obtain ⟨ws,w1,_⟩:=S9.full.get i b (by rw[yac hi,ei]);rw[e]at w1;cases w1
    refine hN _ _ ⟨⟨G,C,gw',cw',us++[.ref u],qs'.set j J,m+1,some (.ref B),some (.ref A'),?_,S12,s12 _ _ h11,h12,fun i hi=>?_,fun m' i hm' hi=>?_,s92 _ _ D9,za8.keep (fun b o _ _ e=>s92 _ _ e) tp92 t9,?_,?_,?_,?_,nqs nG,nqs nC,hD,fun x hx=>?_,fun b o n e=>s92 _ _ (b9 b o n e),I.dp,fun z=>?_⟩,?_⟩
    ·rw[zhx eu,zhS];rfl
    ·have L:=znu T' R R' hk hB (zkk T' hk eu) ((zhx eu).symm.trans hi);rw[← L.gone,← L.come];exact ⟨hw11.mono s12.ext,hw12⟩
    ·rcases ybK m' m with y | y
     ·exact I.goes m' i y hi
     ·have:m'=m:=by omega
      subst this;rw[eu]at hi;have:=yad hi;subst this;rintro ⟨z1,z2⟩;rw[z1]at lg;rw[z2]at lc;have:(0:Int) < (gw.length:Int)+cw.length:=yaH hpos;rw[yby]at lg lc;omega
    ·exact fun z=>by rw[z,D9]at nG;cases nG
    ·exact fun z=>by rw[z,D9]at nC;cases nC
    ·exact (hnH nG).elim (hF0 _) fun z=>by rw[z,S9.full.at_]at nG;cases nG
    ·exact (hnH nC).elim (hF0 _) fun z=>by rw[z,S9.full.at_]at nC;cases nC
    ·rcases ybu hx with y | y
     ·exact I.nqs x y
     ·rw[y];refine .inr ?_;cases e4:H J with
      | none=>rfl
      | some o=>
       rw[b4 _ _ hJp e4]at hJ4;cases hJ4
    ·rcases ybu z with y | y
     ·exact I.dqs y
     ·exact hJD y
    ·rw[zhS];cases ep:par ps j with
     | none=>exact Nat.succ_pos _
     | some i=>
      have:=(zaM T' ep).1;show ((i:Int)).toNat+1 < ((j:Int)).toNat+1;omega
   ·have e0:gw.length=0∧cw.length=0:=by
     have:¬ (0:Int) < (gw.length:Int)+cw.length:=fun z=>hneg (yag z);omega
    exact ⟨g,c,gw,cw,us,qs',m,x5,x6,by rw[eu],I,.inr ⟨j,eu,ycF.mp (by omega),ycF.mp (by omega)⟩⟩
 ·refine ziy (fun σ H Q Q' m h=>?_) (fun σ H Q Q' m h=>?_)
  ·obtain ⟨y1,e1,e3,b,e4,q⟩:=h;exact ⟨y1,e1,e3,b,e4,m _ _ q⟩
  ·obtain ⟨y1,e1,p1,z1,e2,e3,y2,e4,p2,z2,e5,e6,i1,j1,e7,e8,i2,j2,e9,e10,b,e11,q⟩:=h;exact ⟨y1,e1,p1,z1,e2,e3,y2,e4,p2,z2,e5,e6,i1,j1,e7,e8,i2,j2,e9,e10,b,e11,m _ _ q⟩
 ·rintro σ H2 ⟨g,c,gw,cw,us,qs',m,x5,x6,rfl,I,hm⟩;have hm':upN ps kn m=none∨∃ j,upN ps kn m=some j∧zak ps rows' j=zak ps rows j:=hm.imp id fun ⟨j,h1,h2,h3⟩=>⟨j,h1,zh5 (zaF T' R (zgc T' hk h1)) (zaF T' R' (zgc T' hk h1)) h2 h3⟩;refine nw _ _ ?_;refine ⟨_,rfl,?_⟩;exact q D us m qs' H2 ⟨I.goes,hm⟩ hD I.nqs I.but ⟨I.half.own,I.half.ins,I.half.stand,I.half.full.congr fun i hi=>zp0 T' R R' hk hB hm' hi⟩ I.hD I.told
def loN (row:List Int)(x:Int):Nat:=(row.filter fun y=>decide (y < x)).length
def putR (row:List Int)(x:Int):List Int:=row.take (loN row x)++[x]++row.drop (loN row x)
def outR (row:List Int)(x:Int):List Int:=row.take (loN row x)++row.drop (loN row x+1)
theorem zna {x:Int}:∀{row:List Int},row.Pairwise (· < ·)→(∀ y∈row.take (loN row x),y < x)∧∀ y∈row.drop (loN row x),x≤y
 | [],_=>⟨(fun _ h=>by simp at h),fun _ h=>by simp at h⟩
 | a::r,h=>by
  obtain ⟨h1,h2⟩:=yb8.mp h;by_cases c:a < x
  ·have e:loN (a::r) x=loN r x+1:=by
    unfold loN;rw[ybd (p:=fun y=>decide (y < x)) (yag c),yaL]
   obtain ⟨i1,i2⟩:=zna (x:=x) h2;rw[e];refine ⟨fun y hy=>?_,fun y hy=>i2 y hy⟩;rcases yam.mp hy with z | z
   ·rw[z];exact c
   ·exact i1 y z
  ·have e:loN (a::r) x=0:=by
    unfold loN;rw[ybP.mpr,yby];intro y hy z;have z:=yaH z;rcases yam.mp hy with w | w
    ·omega
    ·have:=h1 y w;omega
   rw[e];refine ⟨(fun y hy=>by simp at hy),fun y hy=>?_⟩;rcases yam.mp hy with w | w
   ·omega
   ·have:=h1 y w;omega
theorem zhO {row:List Int}{x y:Int}:y∈putR row x↔y∈row∨y=x:=by
 unfold putR;rw[yaj,yaj,yal];constructor
 ·rintro ((h | h) | h)
  ·exact .inl (ybH h)
  ·exact .inr h
  ·exact .inl (ybI h)
 ·rintro (h | h)
  ·rw[← yaS (loN row x) row]at h;rcases yaj.mp h with h | h
   ·exact .inl (.inl h)
   ·exact .inr h
  ·exact .inl (.inr h)
theorem zmB {row:List Int}{x:Int}(h:row.Pairwise (· < ·))(n:x∉row):(putR row x).Pairwise (· < ·):=by
 obtain ⟨h1,h2⟩:=zna (x:=x) h;have h3:∀ y∈row.drop (loN row x),x < y:=fun y hy=>by
  have:=h2 y hy;have:y≠x:=fun z=>n (z ▸ ybI hy);omega
 have hp:=h;rw[← yaS (loN row x) row]at hp;obtain ⟨p1,p2,_⟩:=yaI.mp hp;unfold putR;refine yaI.mpr ⟨yaI.mpr ⟨p1,ycE _ _,fun a ha b hb=>?_⟩,p2,fun a ha b hb=>?_⟩
 ·rw[yal.mp hb];exact h1 a ha
 ·have:=h3 b hb;rcases yaj.mp ha with z | z
  ·have:=h1 a z;omega
  ·rw[yal.mp z];exact this
theorem zep (row:List Int)(x:Int):(outR row x).Sublist row:=by
 unfold outR;have:(row.take (loN row x)++row.drop (loN row x+1)).Sublist (row.take (loN row x)++row.drop (loN row x)):=by
  refine List.Sublist.append (List.Sublist.refl _) ?_;rw[← ybG];exact yb7 _ _
 rwa[yaS]at this
theorem zjE {row:List Int}{x y:Int}(h:row.Pairwise (· < ·))(hx:x∈row):y∈outR row x↔y∈row∧y≠x:=by
 obtain ⟨h1,h2⟩:=zna (x:=x) h;have hd:∃ r,row.drop (loN row x)=x::r:=by
  have hm:x∈row.drop (loN row x):=by
   have hx':=hx;rw[← yaS (loN row x) row]at hx';rcases yaj.mp hx' with z | z
   ·exact absurd (h1 x z) (by omega)
   ·exact z
  cases e:row.drop (loN row x) with
  | nil=>rw[e]at hm;cases hm
  | cons a r=>
   have ha:=h2 a (by rw[e];exact yaD);rw[e]at hm;rcases yam.mp hm with z | z
   ·exact ⟨r,by rw[z]⟩
   ·have hs:=h.sublist (yb7 (loN row x) row);rw[e]at hs;have:=(yb8.mp hs).1 x z;omega
 obtain ⟨r,hr⟩:=hd;have hr1:row.drop (loN row x+1)=r:=by
  rw[← ybG,hr];rfl
 have hs:=h.sublist (yb7 (loN row x) row);rw[hr]at hs;have hlt:=(yb8.mp hs).1;unfold outR;rw[yaj,hr1];constructor
 ·rintro (z | z)
  ·exact ⟨ybH z,fun e=>absurd (h1 y z) (by omega)⟩
  ·refine ⟨ybI (by rw[hr];exact yaF _ z),fun e=>?_⟩;have:=hlt y z;omega
 ·rintro ⟨z,n⟩;rw[← yaS (loN row x) row,hr]at z;rcases yaj.mp z with z | z
  ·exact .inl z
  ·rcases yam.mp z with z | z
   ·exact absurd z n
   ·exact .inr z
section
variable {rows:List (List Int)}{kn:Nat}{x:Int}{r:List Int}
theorem zeI (h:kn < rows.length):zap (rows.set kn r) kn=r:=by
 unfold zap;rw[yae,ybt,if_pos rfl,if_pos h];rfl
theorem zih:zfJ kn rows (rows.set kn r):=fun j n=>by
 unfold zap;rw[yae,ybt,if_neg (fun z=>n z.symm),yae]
theorem zcW {rows:List (List Int)}{k:Nat}{e:En}:e∈ownE rows k↔e.1∈zap rows k∧e.2=(k:Int):=by
 unfold ownE;rw[yaG];constructor
 ·rintro ⟨y,hy,rfl⟩;exact ⟨hy,rfl⟩
 ·rintro ⟨h1,h2⟩;exact ⟨e.1,h1,by rw[← h2]⟩
theorem zod (h:kn < rows.length):zaL (ownE rows kn) (ownE (rows.set kn (putR (zap rows kn) x)) kn)=[]:=by
 refine ybP.mpr fun e he z=>?_;have z:=yaH z;obtain ⟨h1,h2⟩:=zcW.mp he;exact z (zcW.mpr ⟨by rw[zeI h];exact zhO.mpr (.inl h1),h2⟩)
theorem zoq (h:kn < rows.length):zaL (ownE (rows.set kn (outR (zap rows kn) x)) kn) (ownE rows kn)=[]:=by
 refine ybP.mpr fun e he z=>?_;have z:=yaH z;obtain ⟨h1,h2⟩:=zcW.mp he;rw[zeI h]at h1;exact z (zcW.mpr ⟨(zep _ _).mem h1,h2⟩)
theorem zkI {l:List En}{e:En}(h:Rise l)(m:∀ f,f∈l↔f=e):l=[e]:=zfl h (ycE _ _) fun f=>by rw[m f,yal]
theorem zoe (h:kn < rows.length)(hup:(zap rows kn).Pairwise (· < ·))(hr:Rise (ownE (rows.set kn (putR (zap rows kn) x)) kn))(n:x∉zap rows kn):zaL (ownE (rows.set kn (putR (zap rows kn) x)) kn) (ownE rows kn)=[(x,(kn:Int))]:=by
 refine zkI (hr.filter _) fun e=>?_;rw[zbm,zcW,zcW,zeI h,zhO];constructor
 ·rintro ⟨⟨h1 | h1,h2⟩,h3⟩
  ·exact absurd ⟨h1,h2⟩ h3
  ·exact Prod.ext h1 h2
 ·rintro rfl;exact ⟨⟨.inr rfl,rfl⟩,fun z=>n z.1⟩
theorem zop (h:kn < rows.length)(hup:(zap rows kn).Pairwise (· < ·))(hr:Rise (ownE rows kn))(hx:x∈zap rows kn):zaL (ownE rows kn) (ownE (rows.set kn (outR (zap rows kn) x)) kn)=[(x,(kn:Int))]:=by
 refine zkI (hr.filter _) fun e=>?_;rw[zbm,zcW,zcW,zeI h,zjE hup hx];constructor
 ·rintro ⟨⟨h1,h2⟩,h3⟩;exact Prod.ext (Classical.byContradiction fun z=>h3 ⟨⟨h1,z⟩,h2⟩) h2
 ·rintro rfl;exact ⟨⟨hx,rfl⟩,fun z=>z.1.2 rfl⟩
theorem zhL (R:zaC rows)(hup:r.Pairwise (· < ·))(hk:∀ y∈r,-(10 ^ 60) < y∧y < 10 ^ 60):zaC (rows.set kn r):=by
 refine ⟨fun row hrow=>?_,fun row hrow=>?_⟩
 ·rcases ybu hrow with z | z
  ·exact R.1 row z
  ·rw[z]
   first | exact hup | exact hk
 ·rcases ybu hrow with z | z
  ·exact R.2 row z
  ·rw[z]
   first | exact hup | exact hk
end
theorem znG (xs:List V)(a:Nat):cutV xs none (some (a:Int))=xs.take a:=by
 unfold cutV;rw[zcY,show HT.sIx xs.length 0 none=0 from rfl,ycd,Nat.sub_zero];by_cases h:a≤xs.length
 ·rw[ybz h]
 ·rw[ycq (by omega),yas (yaa _),yas (by omega)]
theorem zgB (xs:List V)(a:Nat):cutV xs (some (a:Int)) none=xs.drop a:=by
 unfold cutV;rw[zcY,show HT.sIx xs.length xs.length none=xs.length from rfl];by_cases h:a≤xs.length
 ·rw[ybz h,yas (by rw[yaR];exact yaa _)]
 ·rw[ycq (by omega),yaZ (yaa _),yaZ (show xs.length≤a by omega),List.take_nil]
theorem zmw {zs:List V}{k:Nat}{x:V}(h:k < zs.length):zs.set k x=zs.take k++[x]++zs.drop (k+1):=by
 rw[List.set_eq_take_append_cons_drop,if_pos h,yaM];rfl
def zmk (K:Frag):Sp:=fun vs H Q _=>∃(st t rs:Addr) (zs:List V) (k:Nat) (x:V),vs=[.ref st,.int k,x]∧H st=some (.tup [.ref t,.ref rs])∧H rs=some (.tup zs)∧k < zs.length∧zs.length≤60∧
 ∀(st' rs':Addr) (H':Hp),Same H H'→H' st'=some (.tup [.ref t,.ref rs'])→H' rs'=some (.tup (zs.set k x))→Q (.ref st') H'
theorem zql (T:Txt K mg)(D_with_row:DF K mg "with_row" zdW zcE):FC P w K mg base 1 "with_row" zcE (zmk K):=by
 refine D_with_row.ok sc_with_row (fun vs H Q E h=>?_) (fun f cdv A outer s H vs Q E hr h=>?_)
 ·obtain ⟨st,t,rs,zs,k,x,rfl,_⟩:=h;rfl
 obtain ⟨st,t,rs,zs,k,x,rfl,hst,hrs,hk,hz,q⟩:=h;refine ⟨_,(zah (zas (i:=3) sc_with_row.nd rfl (Or.inl rfl) (zaD zaO (pv 0) zaf (fun _ _=>rfl)))
   (zae (zau (za6 (zaa (zaD zaO (pv 0) zaf (fun _ _=>rfl)) (zaa (zaw zhW (zaw zjG (zbR zfj (pv 3) zfp (zbv (pv 1))) (za6 (zaa (pv 2) zad))) (zbR zfj (pv 3) (zbv (zaw za7 (pv 1) zaf)) zfp)) zad)))))),?_⟩
 refine ⟨_,rfl,_,_,_,_,rfl,rfl,SqT.of hst,rfl,?_⟩;refine ⟨_,rfl,_,_,_,_,rfl,rfl,SqT.of hst,rfl,?_⟩;refine ⟨_,rfl,_,rfl,_,rfl,rs,zs,rfl,SqT.of hrs,(fun z=>?_),fun _ p hp=>?_⟩
 ·have:=z.2;rw[zcY]at this;omega
 rw[znG];have g1:=zai hp (.tup (zs.take k));have w1:upd H p (.tup (zs.take k)) p=some (.tup (zs.take k)):=zab;generalize upd H p (.tup (zs.take k))=H1 at g1 w1 ⊢;refine ⟨_,rfl,(by show 1≤sizeLine;decide),fun m hm=>?_⟩;have g2:=zai hm (.tup [x]);have w2:upd H1 m (.tup [x]) m=some (.tup [x]):=zab;have w12:=g2 _ _ w1;generalize upd H1 m (.tup [x])=H2 at g2 w2 w12 ⊢;have hl1:(zs.take k).length=k:=by rw[yaq];omega
 have rest:∀(u:Addr) (H3:Hp),Same H2 H3→H3 u=some (.tup (zs.take k++[x]))→∀{Q':VK},(∀(v:Addr) (H':Hp),Same H3 H'→H' v=some (.tup (zs.set k x))→Q' (.ref v) H')→∀(p2:Addr) (H4:Hp),Same H3 H4→H4 p2=some (.tup (zs.drop (k+1)))→zp6 K (.ref u) (.ref p2) H4 Q':=fun u H3 _ hu Q' q' p2 H4 s4 hp2=>by
  refine ⟨u,p2,_,_,rfl,rfl,SqT.of (s4 _ _ hu),SqT.of hp2,by simp,?_,fun z=>?_,fun z v hv=>?_⟩
  ·refine ya4 (zao ?_);rw[yap,hl1,yaR,ybg];omega
  ·refine q' u H4 s4 ?_;rw[zmw hk,z,yaz];exact s4 _ _ hu
  ·refine q' v _ (s4.trans (zai hv _)) ?_;rw[zab,zmw hk]
 have fin:∀(u:Addr) (H3:Hp),Same H2 H3→H3 u=some (.tup (zs.take k++[x]))→∀(v:Addr) (H':Hp),Same H3 H'→H' v=some (.tup (zs.set k x))→∀ p,H' p=none→Q (.ref p) (upd H' p (.tup [.ref t,.ref v])):=fun u H3 s3 _ v H' s' hv p hp=>by
  have gp:=zai hp (.tup [.ref t,.ref v]);exact q p v _ (g1.trans (g2.trans (s3.trans (s'.trans gp)))) zab (gp _ _ hv)
 have e1k:(k:Int)+1=((k+1:Nat):Int):=by omega
 refine ⟨p,m,_,_,rfl,rfl,SqT.of w12,SqT.of w2,by simp,ya4 (zao (by rw[hl1];show k+1≤1000;omega)),fun z=>?_,fun z u hu=>?_⟩
 ·have e0:zs.take k++[x]=[x]:=by rw[z];rfl
  refine ⟨_,rfl,_,rfl,_,_,rfl,rfl,_,rfl,rs,zs,rfl,SqT.of (g2 _ _ (g1 _ _ hrs)),(fun z=>?_),fun _ p2 hp2=>?_⟩
  ·have:=z.1;rw[e1k,zcY]at this;omega
  rw[e1k,zgB];exact rest m H2 (fun _ _ e=>e) (by rw[e0];exact w2) (fun v H' s' hv=>⟨(by show 2≤sizeLine;decide),fin m H2 (fun _ _ e=>e) (by rw[e0];exact w2) v H' s' hv⟩) p2 _ (zai hp2 _) zab
 ·have gu:=zai hu (.tup (zs.take k++[x]));have wu:upd H2 u (.tup (zs.take k++[x])) u=some (.tup (zs.take k++[x])):=zab;generalize upd H2 u (.tup (zs.take k++[x]))=H3 at gu wu ⊢;refine ⟨_,rfl,_,rfl,_,_,rfl,rfl,_,rfl,rs,zs,rfl,SqT.of (gu _ _ (g2 _ _ (g1 _ _ hrs))),(fun z=>?_),fun _ p2 hp2=>?_⟩
  ·have:=z.1;rw[e1k,zcY]at this;omega
  rw[e1k,zgB];exact rest u H3 gu wu (fun v H' s' hv=>⟨(by show 2≤sizeLine;decide),fin u H3 gu wu v H' s' hv⟩) p2 _ (zai hp2 _) zab
def zrr (P:Program)(w:World)(K:Frag)(mg:Str→Option Value)(base:Heap):Sp:=fun vs H Q _=>∃(n:Nat) (f:Addr) (ps:List Str) (sp:Sp) (b:Nat→Bool) (R:Hp→Prop),vs=[.int n,.ref f]∧FV P w K mg base 1 f ps sp∧R H∧
 (∀(i:Nat) (H1:Hp) (Q1:VK),i < n→R H1→(∀ H2,R H2→Q1 (.bl (b i)) H2)→sp [.int i] H1 Q1 E0)∧(∀ i j,i≤j→j < n→b j=true→b i=true)∧
 ∀(m:Nat) (H':Hp),m≤n→(∀ i,i < m→b i=true)→(∀ i,m≤i→i < n→b i=false)→R H'→Q (.int m) H'
def zrg:L2.St→Hp→Nat:=fun σ _=>match σ with
 | [_,_,some (.int lo),some (.int hi),_]=>(hi - lo).toNat
 | _=>0
theorem zrS (T:Txt K mg)(D_how_many_below:DF K mg "how_many_below" zbA zbr):FC P w K mg base 2 "how_many_below" zbr (zrr P w K mg base):=by
 refine D_how_many_below.ok sc_how_many_below (fun vs H Q E h=>?_) (fun f cdv A outer s H vs Q E hr h=>?_)
 ·obtain ⟨n,f,ps,sp,b,R,rfl,_⟩:=h;rfl
 obtain ⟨n,f,ps,sp,b,R,rfl,hF,hR,hask,hmono,q⟩:=h;refine ⟨_,(zah (zas (i:=2) sc_how_many_below.nd rfl (Or.inl rfl) zaf)
   (zah (zas (i:=3) sc_how_many_below.nd rfl (Or.inl rfl) (pv 0))
   (zah (zf1 PassesOwn.never (zav zhV (pv 2) (pv 3) (zaH _)) (zah (zas (i:=4) sc_how_many_below.nd rfl (Or.inl rfl) (zaw zgk (zaw za7 (pv 2) (pv 3)) zaf))
   (zae (zaW (zbe (zom (kr:=1) hr (pv 1) (zaa (pv 4) zad))) (zae (zas (i:=2) sc_how_many_below.nd rfl (Or.inl rfl) (zaw za7 (pv 4) zaf))) (zae (zas (i:=3) sc_how_many_below.nd rfl (Or.inl rfl) (pv 4)))))))
   (zae (zau (pv 2)))))),?_⟩
 refine ⟨_,rfl,?_⟩;refine zga (fun σ H2=>∃(lo hi:Nat) (x4:Option V),σ=[some (.int n),some (.ref f),some (.int lo),some (.int hi),x4]∧lo≤hi∧hi≤n∧(∀ i,i < lo→b i=true)∧(∀ i,hi≤i→i < n→b i=false)∧R H2) (fun σ H2=>∃(lo:Nat) (x4:Option V),σ=[some (.int n),some (.ref f),some (.int lo),some (.int lo),x4]∧lo≤n∧(∀ i,i < lo→b i=true)∧(∀ i,lo≤i→i < n→b i=false)∧R H2) zrg ?_ ?_ ?_ ?_
 ·exact ⟨0,n,_,rfl,yaC _,yaa _,fun i h=>absurd h (ybO _),fun i h1 h2=>absurd h2 (ybB.mpr h1),hR⟩
 ·rintro σ H2 ⟨lo,hi,x4,rfl,h1,h2,hb1,hb2,hR2⟩;refine ⟨_,rfl,_,rfl,_,_,rfl,rfl,_,rfl,?_⟩;refine ite2 (fun c=>?_) (fun c=>?_)
  ·have c1:(lo:Int) < (hi:Int):=yaH c;have em:((lo:Int)+(hi:Int)) / 2=(((lo+hi) / 2:Nat):Int):=by omega
   have m1:lo≤(lo+hi) / 2:=by omega
   have m2:(lo+hi) / 2 < hi:=by omega
   refine ⟨_,rfl,_,rfl,_,_,rfl,rfl,_,_,rfl,rfl,⟨by decide,by decide⟩,?_⟩;refine ⟨_,rfl,f,1,ps,sp,rfl,hF,yaa _,_,rfl,?_⟩;show sp [V.int (((lo:Int)+(hi:Int)) / 2)] H2 _ E0;rw[em];refine hask ((lo+hi) / 2) H2 _ (by omega) hR2 fun H3 hR3=>⟨_,rfl,?_⟩;cases hbm:b ((lo+hi) / 2) with
   | true=>
    refine iteT ?_;refine ⟨_,rfl,_,_,rfl,rfl,⟨(lo+hi) / 2+1,hi,some (V.int (((lo:Int)+(hi:Int)) / 2)),?_,by omega,h2,fun i hi'=>hmono i ((lo+hi) / 2) (by omega) (by omega) hbm,hb2,hR3⟩,?_⟩
    ·show [some (V.int n),some (V.ref f),some (V.int (((lo:Int)+(hi:Int)) / 2+1)),some (V.int hi),some (V.int (((lo:Int)+(hi:Int)) / 2))]=_;rw[em,ycp];rfl
    ·show ((hi:Int) - (((lo:Int)+(hi:Int)) / 2+1)).toNat < ((hi:Int) - (lo:Int)).toNat;omega
   | false=>
    refine iteF ?_;refine ⟨_,rfl,⟨lo,(lo+hi) / 2,some (V.int (((lo:Int)+(hi:Int)) / 2)),?_,m1,by omega,hb1,fun i hi' hin=>?_,hR3⟩,?_⟩
    ·show [some (V.int n),some (V.ref f),some (V.int lo),some (V.int (((lo:Int)+(hi:Int)) / 2)),some (V.int (((lo:Int)+(hi:Int)) / 2))]=_;rw[em]
    ·cases hbi:b i with
     | false=>rfl
     | true=>
      have:=hmono ((lo+hi) / 2) i hi' hin hbi;rw[hbm]at this;cases this
    ·show ((((lo:Int)+(hi:Int)) / 2) - (lo:Int)).toNat < ((hi:Int) - (lo:Int)).toNat;omega
  ·have c1:¬ (lo:Int) < (hi:Int):=yb3 (Bool.eq_false_iff.mpr c);have e:hi=lo:=by omega
   subst e;exact ⟨hi,_,rfl,h2,hb1,hb2,hR2⟩
 ·intro σ H Q Q' m h;obtain ⟨y1,e3,y2,e4,i2,j2,f2,g2,b2,e5,q⟩:=h;exact ⟨y1,e3,y2,e4,i2,j2,f2,g2,b2,e5,m _ _ q⟩
 rintro σ H2 ⟨lo,x4,rfl,h2,hb1,hb2,hR2⟩;refine ⟨_,rfl,?_⟩;exact q lo H2 h2 hb1 hb2 hR2
def zfc (row:List Int)(key:Int):Nat:=(row.filter fun x=>decide (x < key)).length
theorem zpf {row:List Int}{key:Int}{m:Nat}(hm:m≤row.length)(h1:∀ i,i < m→decide (row.getD i 0 < key)=true)(h2:∀ i,m≤i→i < row.length→decide (row.getD i 0 < key)=false):zfc row key=m:=by
 unfold zfc
 conv=>lhs;rw[← yaS m row]
 rw[ybh,yap];have e1:(row.take m).filter (fun x=>decide (x < key))=row.take m:=by
  rw[List.filter_eq_self];intro x hx;obtain ⟨i,hi,rfl⟩:=yaO hx;rw[yaq]at hi;have:=h1 i (by omega);rw[yae,yac (by omega)]at this;rw[List.getElem_take];exact this
 have e2:(row.drop m).filter (fun x=>decide (x < key))=[]:=by
  rw[ybP];intro x hx;obtain ⟨i,hi,rfl⟩:=yaO hx;rw[yaR]at hi;have:=h2 (m+i) (by omega) (by omega);rw[yae,yac (by omega)]at this;rw[List.getElem_drop];intro z;rw[show decide (row[m+i] < key)=false from this]at z;cases z
 rw[e1,e2,yaq,yby];omega
abbrev lamQ:Str:=(envOfC ("place" : Str) (zaj zfk) 0 0 .none).qual ++ "<lambda>"
abbrev zdL:Pos:=⟨45,36,45,60⟩
def zjv (K:Frag)(mp:Addr):Sp:=fun vs H Q _=>∃(r:Addr) (row:List Int) (key:Int),vs=[.ref r,.int key]∧H r=some (.tup (row.map V.int))∧row.Pairwise (· < ·)∧zbo H mp zdL lamQ∧
 ∀ H':Hp,Gro mp H H'→zbo H' mp zdL lamQ→Q (.int (zfc row key:Nat)) H'
theorem zou (T:Txt K mg){mc mp:Addr}(D_place:DFT K mg "place" zfk zeN mc mp)(hBM:BMAt mg base)(F_how_many_below:∀ base,FC P w K mg base 2 "how_many_below" zbr (zrr P w K mg base)):FC P w K mg base 3 "place" zeN (zjv K mp):=by
 refine D_place.ok sc_place (fun vs H Q E h=>?_) (fun f A outer s H vs Q E hr h=>?_)
 ·obtain ⟨r,row,key,rfl,_⟩:=h;rfl
 obtain ⟨r,row,key,rfl,h0,hup,hT,q⟩:=h;refine ⟨_,(zae (zau (zlp (kf:=0) F_how_many_below hr (zam zan rfl T.m_len boot_len (zaa (pv 0) zad)) (zr6 (osc:=zaj zfk) (N:=["row","key"]) (ps:=["at"]) (caps:=["key","row"]) (cap:=[1,0]) ⟨rfl,rfl,rfl,by decide +kernel,by decide +kernel,by decide +kernel,by decide +kernel⟩ (by decide +kernel) (by decide +kernel) rfl rfl rfl rfl (fun _ _ _ _ us hl=>match us,hl with | [_],_=>rfl) (fun _=>rfl)) rfl D_place.hd hBM (fun _ _ _ _ _ _ _ _ _=>(zhR zhV (zaD (zjU (K:=K)) (pv 2) (pv 0) (fun _ _=>rfl)) (pv 1) (zaH _)))))),?_⟩
 refine ⟨_,rfl,_,_,rfl,.inr (SqT.of h0),hT,[.int key,.ref r],rfl,?_,fun base f c' H2 hg hT2 hC hV=>?_⟩
 ·intro j i v h1 h2;rcases j with _ | _ | j
  ·cases h1;cases h2;rfl
  ·cases h1;cases h2;rfl
  ·cases h1
 have nmp:r≠mp:=fun z=>by
  obtain ⟨tab,e,_⟩:=hT.ex;rw[← z,h0]at e;cases e
 have h2r:=hg _ _ nmp h0;rw[yab];refine ⟨row.length,f,_,_,fun i=>decide (row.getD i 0 < key),fun H'=>H'=H2,rfl,hV,rfl,fun i H1 Q1 hi hR hQ=>?_,fun i j hij hj hb=>?_,fun m H' hm hb1 hb2 hR=>?_⟩
 ·subst hR;refine ⟨rfl,hC,?_⟩;have hat:atI (row.map V.int) ((i:Nat):Int)=some (.int (row.getD i 0)):=zeu (by rw[yar,yac hi,yae,yac hi];rfl);refine ⟨_,rfl,_,rfl,_,_,_,_,rfl,rfl,SqT.of h2r,hat,_,rfl,_,_,rfl,rfl,?_⟩;exact hQ _ rfl
 ·refine yag ?_;have hb:=yaH hb;by_cases e:i=j
  ·subst e;exact hb
  ·have:=yaY.mp hup i j (by omega) hj (by omega);rw[yae,yac (by omega)]at hb ⊢;exact Int.lt_trans this hb
 ·subst hR;have e:=zpf hm hb1 hb2;have q2:=q _ hg hT2;rw[e]at q2;exact q2
theorem zf5 {r:List Int}:∀{rows:List (List Int)} {kn:Nat},kn < rows.length→zbT (rows.set kn r)+(zap rows kn).length=zbT rows+r.length
 | [],_,h=>absurd h (ybO _)
 | a::rows,0,_=>by
  unfold zbT;rw[List.set_cons_zero,yau,yaJ,yau,yaJ];show r.length+_+a.length=_;omega
 | a::rows,kn+1,h=>by
  have ih:=zf5 (r:=r) (rows:=rows) (kn:=kn) (Nat.lt_of_succ_lt_succ h);unfold zbT at ih ⊢;rw[List.set_cons_succ,yau,yaJ,yau,yaJ];have e:zap (a::rows) (kn+1)=zap rows kn:=rfl;rw[e];omega
theorem zjV (n:Int)(xs:List Int):inV (.int n) (xs.map V.int)=decide (n∈xs):=by
 unfold inV
 induction xs with
 | nil=>rfl
 | cons x xs ih=>
  rw[yau,ybf,ih];show (x == n || decide (n∈xs))=decide (n∈x::xs);by_cases h:x=n
  ·subst h;simp
  ·have h2:¬ n=x:=fun z=>h z.symm;simp[h,h2]
theorem ziI {H:Hp}:∀{as:List Addr} {rows:List (List Int)},zaN H as rows→Paired (zlT H) as (rows.map List.length)
 | _,_,.nil=>.nil
 | _,_,.cons h t=>.cons ⟨_,.inr h,by rw[yab]⟩ (ziI t)
section
variable {K:Frag}{H:Hp}{a b:Addr}{xs ys:List V}{n:Nat}{Q:VK}
theorem zpy (h:H a=some (.tup xs))(q:∀ v H',Same H H'→H' v=some (.tup (xs.take n))→Q (.ref v) H'):rSlX K (.ref a) none (some (n:Int)) H Q:=
 ⟨a,xs,rfl,SqT.of h,fun z=>q a H (fun _ _ e=>e) (by
  have:=z.2;rw[zcY]at this;rw[yas (by omega)];exact h),fun _ p hp=>q p _ (zai hp _) (by rw[zab,znG])⟩
theorem zky (h:H a=some (.tup xs))(q:∀ v H',Same H H'→H' v=some (.tup (xs.drop n))→Q (.ref v) H'):rSlX K (.ref a) (some (n:Int)) none H Q:=
 ⟨a,xs,rfl,SqT.of h,fun z=>q a H (fun _ _ e=>e) (by
  have:=z.1;rw[zcY]at this;have e:xs.drop n=xs:=by
   rcases Nat.eq_zero_or_pos n with y | y
   ·rw[y];rfl
   ·have:xs=[]:=ycF.mp (by omega);rw[this];exact List.drop_nil
  rw[e];exact h),fun _ p hp=>q p _ (zai hp _) (by rw[zab,zgB])⟩
theorem zk7 (ha:H a=some (.tup xs))(hb:H b=some (.tup ys))(hy:ys≠[])(hl:xs.length+ys.length≤sizeLine)(q:∀ v H',Same H H'→H' v=some (.tup (xs++ys))→Q (.ref v) H'):zrA K (.ref a) (.ref b) H Q:=
 ⟨a,b,xs,ys,rfl,rfl,SqT.of ha,SqT.of hb,hy,hl,fun z=>q b H (fun _ _ e=>e) (by rw[z];exact hb),fun _ p hp=>q p _ (zai hp _) zab⟩
theorem zpb (ha:H a=some (.tup xs))(hb:H b=some (.tup ys))(hx:xs≠[])(hl:xs.length+ys.length≤sizeLine)(q:∀ v H',Same H H'→H' v=some (.tup (xs++ys))→Q (.ref v) H'):zp6 K (.ref a) (.ref b) H Q:=
 ⟨a,b,xs,ys,rfl,rfl,SqT.of ha,SqT.of hb,hx,hl,fun z=>q a H (fun _ _ e=>e) (by rw[z,yaz];exact ha),fun _ p hp=>q p _ (zai hp _) zab⟩
end
theorem zel {H:Hp}{v:Addr}{r:List Int}(hv:H v=some (.tup (r.map V.int))):∀{as:List Addr} {rows:List (List Int)} (kn:Nat),zaN H as rows→zaN H (as.set kn v) (rows.set kn r)
 | _,_,_,.nil=>.nil
 | _,_,0,.cons _ t=>.cons hv t
 | _,_,kn+1,.cons h t=>.cons h (zel hv kn t)
theorem zmC {row:List Int}{x:Int}:(putR row x).length=row.length+1:=by
 unfold putR;rw[yap,yap,yaq,yaR];have:loN row x≤row.length:=ya3 _ _;show _+1+_=_;omega
theorem zjr {H H':Hp}{Pt b:Addr}{pos:Pos}{q:Str}(x:zbo H Pt pos q)(k:But b H H')(h1:∀ tab,H b≠some (.tbl tab))(h2:∀ f,H b≠some (.ext f)):zbo H' Pt pos q:=by
 obtain ⟨tab,e1,e2,e3⟩:=x.ex;refine ⟨tab,k _ _ (fun z=>h1 tab (z ▸ e1)) e1,e2,?_⟩;rcases e3 with e3 | ⟨c,e3,e4⟩
 ·exact .inl e3
 ·exact .inr ⟨c,e3,k _ _ (fun z=>h2 _ (z ▸ (show H c=_ from e4))) e4⟩
theorem ziL {r:List (List Int)}(Q:zaC r)(k:Nat):Rise (ownE r k):=by
 unfold ownE;exact List.Pairwise.map _ (R:=fun a b:Int=>a < b) (fun a b (h:a < b)=>zc0.mpr (.inl h)) (Q.at_up k)
def Kd (sh p mp:Addr)(H H':Hp):Prop:=∀ b o,b≠sh→b≠p→b≠mp→H b=some o→H' b=some o
def zku (K:Frag)(CS mp:Addr)(f:List Int→Int→List Int)(ok:List (List Int)→Nat→Int→Prop):Sp:=fun vs H Q _=>∃(sh dx st p:Addr) (kn:Nat) (x:Int) (qs:List Addr) (ps:List Nat) (rows:List (List Int)) (t rs:Addr) (as:List Addr),vs=[.ref sh,.int kn,.int x]∧zaS K CS H sh dx st p qs ps rows t rs as∧kn < ps.length+1∧znT x∧ok rows kn x∧zbo H mp zdL lamQ∧
 ∀(D:Addr) (us:List V) (m:Nat) (qs':List Addr) (st' rs':Addr) (as':List Addr) (H':Hp),zik ps rows (rows.set kn (f (zap rows kn) x)) kn m→H D=none→(∀ q∈qs',q∈qs∨H q=none)→Kd sh p mp H H'→zaS K CS H' sh dx st' p qs' ps (rows.set kn (f (zap rows kn) x)) t rs' as'→zbo H' mp zdL lamQ→H' D=some (.lst us)→
  za8 K H' D (fun b=>H b=none∧b∉qs') (zbZ ps rows (rows.set kn (f (zap rows kn) x)) kn m) us→Q (.ref D) H'
def zqs (rows:List (List Int))(kn:Nat)(x:Int):Prop:=x∉zap rows kn∧zbT rows < 300
def zqt (rows:List (List Int))(kn:Nat)(x:Int):Prop:=x∈zap rows kn
theorem zi9 {K:Frag}{mp CS:Addr}{H H2 H8:Hp}{sh dx st p st' rs' v7 t rs:Addr}{qs as:List Addr}{ps:List Nat}{rows:List (List Int)}{kn:Nat}{r:List Int}(S:zaS K CS H sh dx st p qs ps rows t rs as)(S2:zaS K CS H2 sh dx st p qs ps rows t rs as)(hT2:zbo H2 mp zdL lamQ)
  (g:∀ b o,b≠mp→H b=some o→H2 b=some o) (s28:Same H2 H8) (h7:H8 v7=some (.tup (r.map V.int))) (h8:H8 st'=some (.tup [.ref t,.ref rs'])) (r8:H8 rs'=some (.tup ((as.map V.ref).set kn (.ref v7)))) (R':zaC (rows.set kn r)) (hk:zbT (rows.set kn r)≤400) :
  zcI K CS (upd H8 sh (.ins CS dx (putF "kept" (.ref st') [("kept",.ref st),("fulls",.ref p)]))) sh dx st' p qs ps rows (rows.set kn r) t rs' (as.set kn v7) kn 0∧zbo (upd H8 sh (.ins CS dx (putF "kept" (.ref st') [("kept",.ref st),("fulls",.ref p)]))) mp zdL lamQ∧(∀ b o,b≠sh→b≠mp→H b=some o→upd H8 sh (.ins CS dx (putF "kept" (.ref st') [("kept",.ref st),("fulls",.ref p)])) b=some o)∧
  (∀{b},upd H8 sh (.ins CS dx (putF "kept" (.ref st') [("kept",.ref st),("fulls",.ref p)])) b=none→H b=none)∧∀{b},upd H8 sh (.ins CS dx (putF "kept" (.ref st') [("kept",.ref st),("fulls",.ref p)])) b=none→b∉qs:=by
 have i8:=s28 _ _ S2.ins;have i9:upd H8 sh (.ins CS dx (putF "kept" (.ref st') [("kept",.ref st),("fulls",.ref p)])) sh=some (.ins CS dx [("kept",.ref st'),("fulls",.ref p)]):=zab;have k9:But sh H8 (upd H8 sh (.ins CS dx (putF "kept" (.ref st') [("kept",.ref st),("fulls",.ref p)]))):=fun b o n e=>by rw[zag n];exact e
 generalize upd H8 sh (.ins CS dx (putF "kept" (.ref st') [("kept",.ref st),("fulls",.ref p)]))=H9 at i9 k9 ⊢;have tp9:Tp H8 H9:=k9.tp fun us' z=>by rw[i8]at z;cases z
 have l9:∀ b us,H8 b=some (.lst us)→H9 b=some (.lst us):=fun b us e=>k9 b _ (fun z=>by rw[z,i8]at e;cases e) e
 have o9:=k9 _ _ (fun z=>by have:=S.own;rw[z,S.ins]at this;cases this) (s28 _ _ S2.own)
 have S9:zcI K CS H9 sh dx st' p qs ps rows (rows.set kn r) t rs' (as.set kn v7) kn 0:=by
  refine ⟨o9,i9,⟨tp9 _ _ h8,tp9 _ _ (s28 _ _ S2.stand.tr),?_,zel (tp9 _ _ h7) kn (zjA (fun b us e=>tp9 _ _ (s28 _ _ e)) S2.stand.at_),by rw[ybT];exact S.stand.len,S.stand.T,R',S.stand.few,hk⟩,(S2.full.ext s28.ext).tp tp9 l9⟩;rw[ybD];exact tp9 _ _ r8
 have T9:=zjr (hT2.ext s28.ext) k9 (fun tab z=>by rw[i8]at z;cases z) (fun f z=>by rw[i8]at z;cases z)
 refine ⟨S9,T9,fun b o n1 n2 e=>k9 b o n1 (s28 _ _ (g b o n2 e)),fun {b} e=>?_,fun {b} e z=>?_⟩
 ·cases eb:H b with
  | none=>rfl
  | some o=>
   by_cases z1:b=sh
   ·rw[z1,S9.ins]at e;cases e
   ·by_cases z2:b=mp
    ·obtain ⟨tab,e1,_⟩:=T9.ex;rw[z2,e1]at e;cases e
    ·rw[k9 b o z1 (s28 _ _ (g b o z2 eb))]at e;cases e
 ·obtain ⟨i,hi,ei⟩:=yaO z;obtain ⟨ws,w1,_⟩:=S9.full.get i b (by rw[yac hi,ei]);rw[e]at w1;cases w1
theorem zrM (T:Txt K mg){mp:Addr}{CS:Addr}(O:OwnC K mg CS)(D_Shelf_put:DM K CS "put" "Shelf.put" zdf zcU)(F_Shelf_row_for:FM P w K mg base CS 4 "row_for" zbg (zhC K CS))(F_long_together:FC P w K mg base 1 "long_together" zbf (zmp K))(F_place:FC P w K mg base 3 "place" zeN (zjv K mp))(F_with_row:FC P w K mg base 1 "with_row" zcE (zmk K))(F_Shelf_carry_up:FM P w K mg base CS 7 "carry_up" za4 (zjz K CS)):FM P w K mg base CS 8 "put" zcU (zku K CS mp putR zqs):=by
 refine D_Shelf_put.ok sc_Shelf_put (fun vs H Q E h=>?_) (fun f cdv A outer s H vs Q E hr h=>?_)
 ·obtain ⟨sh,dx,st,p,kn,x,qs,ps,rows,t,rs,as,rfl,_⟩:=h;rfl
 obtain ⟨sh,dx,st,p,kn,x,qs,ps,rows,t,rs,as,rfl,S,hk,hx,⟨hnx,hroom⟩,hT,q⟩:=h;refine ⟨_,(zah (zas (i:=3) sc_Shelf_put.nd rfl (Or.inl rfl) (ziK F_Shelf_row_for O.cl hr (pv 0) (zaa (pv 1) (zaa (pv 2) zad))))
   (zaB (zaW (zav ziO (pv 2) (pv 3) (by with_unfolding_all rfl)) (zae zbb) zax)
   (zaB (zaW (zav zqj (zaA F_long_together hr (zaa (zaD zaO (zc5 (pv 0) rfl) zaf (fun _ _=>rfl)) zad)) (zeV rfl T.g_MOST_KEYS) (zaH _)) (zae zbb) zax)
   (zah (zas (i:=4) sc_Shelf_put.nd rfl (Or.inl rfl) (zaA F_place hr (zaa (pv 3) (zaa (pv 2) zad))))
   (zah (zkF (pv 0) (zaA F_with_row hr (zaa (zc5 (pv 0) rfl) (zaa (pv 1) (zaa (zaw zhW (zaw zjG (zbR zfj (pv 3) zfp (zbv (pv 4))) (za6 (zaa (pv 2) zad))) (zbR zfj (pv 3) (zbv (pv 4)) zfp)) zad)))) rfl)
   (zae (zau (ziK F_Shelf_carry_up O.cl hr (pv 0) (zaa (pv 1) (zaa (zca zad) (zaa (zca (zaa (za6 (zaa (pv 2) (zaa (pv 1) zad))) zad)) zad))))))))))),?_⟩
 refine ⟨_,rfl,sh,dx,_,rfl,S.ins,rfl,_,rfl,_,rfl,sh,dx,st,p,kn,x,qs,ps,rows,t,rs,as,rfl,S,hk,hx,fun a ha hrow=>?_⟩;have hfl:((zap rows kn).map V.int).all zfu=true:=yaU.mpr fun y hy=>by
  obtain ⟨z,_,rfl⟩:=yaG.mp hy;rfl
 refine ⟨fun σ' H'=>σ'=[some (.ref sh),some (.int kn),some (.int x),some (.ref a),none]∧H=H',?_,?_⟩
 ·refine ⟨_,rfl,_,rfl,a,_,rfl,.inr (SqT.of hrow),rfl,hfl,_,rfl,?_⟩;show if inV (.int x) ((zap rows kn).map V.int)=true then _ else _
  rw[zjV,yah hnx];exact iteF ⟨rfl,rfl⟩
 rintro _ _ ⟨rfl,rfl⟩;have hfew:=S.stand.few;refine ⟨fun σ' H1=>σ'=[some (.ref sh),some (.int kn),some (.int x),some (.ref a),none]∧Same H H1,?_,?_⟩
 ·refine ⟨_,rfl,sh,CS,dx,_,_,rfl,S.ins,O.cl,O.n_kept,rfl,_,_,_,_,rfl,rfl,SqT.of S.stand.st,rfl,rs,as,_,rfl,.inr S.stand.rs,ziI S.stand.at_,by rw[yab,S.stand.len];omega,fun H1 s1=>?_⟩;refine ⟨_,_,rfl,rfl,_,rfl,?_⟩;exact zqE (show ¬ (300:Int)≤((zbT rows:Nat):Int) by omega) ⟨rfl,s1⟩
 rintro _ H1 ⟨rfl,s1⟩;have hrow1:=s1 _ _ hrow;refine ⟨_,rfl,_,rfl,a,zap rows kn,x,rfl,hrow1,S.stand.R.at_up kn,hT.ext s1.ext,fun H2 g2 hT2=>?_⟩;obtain ⟨tab,hmp⟩:∃ tab,H1 mp=some (.tbl tab):=by
  obtain ⟨tab,e,_⟩:=(hT.ext s1.ext).ex;exact ⟨tab,e⟩
 have keep2:∀{b:Addr} {o:HO},H b=some o→(∀ tab,o≠.tbl tab)→H2 b=some o:=fun {b o} e n=>g2 b o (fun z=>by
  rw[z]at e;have:=s1 _ _ e;rw[hmp]at this;exact n _ (yad this).symm) (s1 _ _ e)
 have tp2:Tp H H2:=fun b us e=>keep2 e (fun _ z=>nomatch z);have S2:zaS K CS H2 sh dx st p qs ps rows t rs as:=⟨keep2 S.own (fun _ z=>nomatch z),keep2 S.ins (fun _ z=>nomatch z),zcj tp2 S.stand,S.full.tp tp2 fun b us e=>keep2 e (fun _ z=>nomatch z)⟩;have row2:=tp2 _ _ hrow;refine ⟨_,rfl,sh,CS,dx,_,_,rfl,S2.ins,O.cl,O.n_kept,rfl,_,rfl,?_⟩;refine ⟨_,rfl,_,rfl,_,rfl,zpy row2 fun v3 H3 s3 h3=>?_⟩;refine ⟨_,rfl,(by show 1≤sizeLine;decide),fun v4 hv4=>?_⟩;have s4:=zai hv4 (.tup [.int x]);have h4:upd H3 v4 (.tup [.int x]) v4=some (.tup [.int x]):=zab;have h34:=s4 _ _ h3;have row4:=s4 _ _ (s3 _ _ row2);generalize upd H3 v4 (.tup [.int x])=H4 at s4 h4 h34 row4 ⊢;have hrl:(zap rows kn).length≤400:=by
  have:=S.stand.keys;refine yao (ze3 ?_) this;unfold zap;rw[yae,yac (show kn < rows.length by rw[S.stand.len];exact hk)];exact yaN _
 refine zk7 h34 h4 (fun z=>nomatch z) (ya4 (zao (by rw[yaq,yab];show _+1≤1000;omega))) fun v5 H5 s5 h5=>?_;refine ⟨_,rfl,_,rfl,_,rfl,?_⟩;unfold zjs;dsimp only;refine zky (s5 _ _ row4) fun v6 H6 s6 h6=>?_;refine zpb (s6 _ _ h5) h6 (by simp) (ya4 (zao (by rw[yap,yaq,yaR,yab];show _+1+_≤1000;omega))) fun v7 H7 s7 h7=>?_;have s27:Same H2 H7:=s3.trans (s4.trans (s5.trans (s6.trans s7)));have er:((zap rows kn).map V.int).take (zfc (zap rows kn) x)++[V.int x]++((zap rows kn).map V.int).drop (zfc (zap rows kn) x)=(putR (zap rows kn) x).map V.int:=by
  unfold putR;rw[yat,yat,ybC,List.map_drop];rfl
 rw[er]at h7;have hal:=S.stand.at_.length;refine ⟨st,t,rs,as.map V.ref,kn,.ref v7,rfl,s27 _ _ S2.stand.st,s27 _ _ S2.stand.rs,by rw[yab,hal,S.stand.len];exact hk,by rw[yab,hal,S.stand.len];omega,fun st' rs' H8 s8 h8 r8=>?_⟩;have s28:Same H2 H8:=s27.trans s8;have hkr:kn < rows.length:=by rw[S.stand.len];exact hk
 have R':zaC (rows.set kn (putR (zap rows kn) x)):=zhL S.stand.R (zmB (S.stand.R.at_up kn) hnx) fun y hy=>by
  rcases zhO.mp hy with z | z
  ·exact S.stand.R.at_key kn y z
  ·rw[z];exact hx
 have hks:=zf5 (r:=putR (zap rows kn) x) hkr;rw[zmC]at hks;refine ⟨_,rfl,sh,CS,dx,_,rfl,s28 _ _ S2.ins,O.cl,O.n_kept,(by show 2 < 1000;decide),?_⟩;obtain ⟨S9,T9,kd9,al,nq9⟩:=zi9 (r:=putR (zap rows kn) x) S S2 hT2 (fun b o n e=>g2 b o n (s1 _ _ e)) s28 (s8 _ _ h7) h8 r8 R' (by omega);generalize upd H8 sh (.ins CS dx (putF "kept" (.ref st') [("kept",.ref st),("fulls",.ref p)]))=H9 at S9 T9 kd9 al nq9 ⊢;refine ⟨_,rfl,sh,dx,_,rfl,S9.ins,rfl,_,rfl,(by show 0≤sizeLine;decide),fun g hg=>?_⟩;have s10:=zai hg (.lst []);have g10:upd H9 g (.lst []) g=some (.lst []):=zab;generalize upd H9 g (.lst [])=H10 at s10 g10 ⊢;refine ⟨_,rfl,_,rfl,(by show 2≤sizeLine;decide),fun u hu=>?_⟩;have s11:=zai hu (.tup [.int x,.int kn]);have u11:upd H10 u (.tup [.int x,.int kn]) u=some (.tup [.int x,.int kn]):=zab;generalize upd H10 u (.tup [.int x,.int kn])=H11 at s11 u11 ⊢;refine ⟨(by show 1≤sizeLine;decide),fun c hc=>?_⟩;have s12:=zai hc (.lst [.ref u]);have c12:upd H11 c (.lst [.ref u]) c=some (.lst [.ref u]):=zab;generalize upd H11 c (.lst [.ref u])=H12 at s12 c12 ⊢;have s92:Same H9 H12:=s10.trans (s11.trans s12);have S12:zcI K CS H12 sh dx st' p qs ps rows (rows.set kn (putR (zap rows kn) x)) t rs' (as.set kn v7) kn 0:=⟨s92 _ _ S9.own,s92 _ _ S9.ins,S9.stand.same s92,S9.full.ext s92.ext⟩;have L:=zi2 S.stand.T S.stand.R R' hk (zih (rows:=rows) (r:=putR (zap rows kn) x));refine ⟨sh,dx,st',p,g,c,[],[.ref u],kn,qs,ps,rows,rows.set kn (putR (zap rows kn) x),t,rs',as.set kn v7,(fun b=>H b=none),rfl,S12,hk,zih,S.stand.R,S.stand.len,S.stand.keys,s12 _ _ (s11 _ _ g10),?_,c12,?_,al hg,al (s10.free (s11.free hc)),(nq9 hg),(nq9 (s10.free (s11.free hc))),(fun z=>by have z:H p=none:=z;rw[S.full.at_]at z;cases z),(fun b z=>al (s92.free z)),fun D us m qs' H' st hD hq bb sh' hDl told=>?_⟩
 ·rw[← L.gone,zod hkr];exact .nil
 ·rw[← L.come,zoe hkr (S.stand.R.at_up kn) (ziL R' kn) hnx];exact .cons ⟨u,.int x,.int kn,rfl,s12 _ _ u11,rfl,rfl⟩ .nil
 ·refine q D us m qs' st' rs' (as.set kn v7) H' st (al (s92.free hD)) (fun y hy=>(hq y hy).imp id fun z=>al (s92.free z)) (fun b o n1 n2 n3 e=>bb b o n2 (s92 _ _ (kd9 b o n1 n3 e))) sh' ?_ hDl told;have:=S12.full.at_;exact zjr (T9.ext s92.ext) bb (fun tab z=>by rw[this]at z;cases z) (fun f z=>by rw[this]at z;cases z)
section
variable {K:Frag}{H:Hp}{a b:Addr}{xs ys:List V}{Q:VK}
theorem zpc (ha:H a=some (.tup xs))(hb:H b=some (.tup ys))(hl:xs.length+ys.length≤sizeLine)(q:∀ v H',Same H H'→H' v=some (.tup (xs++ys))→Q (.ref v) H'):zrB K (.ref a) (.ref b) H Q:=
 ⟨a,b,xs,ys,rfl,rfl,SqT.of ha,SqT.of hb,hl,fun z=>q b H (fun _ _ e=>e) (by rw[z];exact hb),fun _=>⟨fun z=>q a H (fun _ _ e=>e) (by rw[z,yaz];exact ha),fun _ p hp=>q p _ (zai hp _) zab⟩⟩
end
theorem zrO (T:Txt K mg){mp:Addr}{CS:Addr}(O:OwnC K mg CS)(D_Shelf_out:DM K CS "out" "Shelf.out" zdg zcV)(F_Shelf_row_for:FM P w K mg base CS 4 "row_for" zbg (zhC K CS))(F_place:FC P w K mg base 3 "place" zeN (zjv K mp))(F_with_row:FC P w K mg base 1 "with_row" zcE (zmk K))(F_Shelf_carry_up:FM P w K mg base CS 7 "carry_up" za4 (zjz K CS)):FM P w K mg base CS 8 "out" zcV (zku K CS mp outR zqt):=by
 refine D_Shelf_out.ok sc_Shelf_out (fun vs H Q E h=>?_) (fun f cdv A outer s H vs Q E hr h=>?_)
 ·obtain ⟨sh,dx,st,p,kn,x,qs,ps,rows,t,rs,as,rfl,_⟩:=h;rfl
 obtain ⟨sh,dx,st,p,kn,x,qs,ps,rows,t,rs,as,rfl,S,hk,hx,hin,hT,q⟩:=h;refine ⟨_,(zah (zas (i:=3) sc_Shelf_out.nd rfl (Or.inl rfl) (ziK F_Shelf_row_for O.cl hr (pv 0) (zaa (pv 1) (zaa (pv 2) zad))))
   (zaB (zaW (zav zcc (pv 2) (pv 3) (by with_unfolding_all rfl)) (zae zbb) zax)
   (zah (zas (i:=4) sc_Shelf_out.nd rfl (Or.inl rfl) (zaA F_place hr (zaa (pv 3) (zaa (pv 2) zad))))
   (zah (zkF (pv 0) (zaA F_with_row hr (zaa (zc5 (pv 0) rfl) (zaa (pv 1) (zaa (zaw zqk (zbR zfj (pv 3) zfp (zbv (pv 4))) (zbR zfj (pv 3) (zbv (zaw za7 (pv 4) zaf)) zfp)) zad)))) rfl)
   (zae (zau (ziK F_Shelf_carry_up O.cl hr (pv 0) (zaa (pv 1) (zaa (zca (zaa (za6 (zaa (pv 2) (zaa (pv 1) zad))) zad)) (zaa (zca zad) zad)))))))))),?_⟩
 refine ⟨_,rfl,sh,dx,_,rfl,S.ins,rfl,_,rfl,_,rfl,sh,dx,st,p,kn,x,qs,ps,rows,t,rs,as,rfl,S,hk,hx,fun a ha hrow=>?_⟩;have hfl:((zap rows kn).map V.int).all zfu=true:=yaU.mpr fun y hy=>by
  obtain ⟨z,_,rfl⟩:=yaG.mp hy;rfl
 refine ⟨fun σ' H'=>σ'=[some (.ref sh),some (.int kn),some (.int x),some (.ref a),none]∧H=H',?_,?_⟩
 ·refine ⟨_,rfl,_,rfl,a,_,rfl,.inr (SqT.of hrow),rfl,hfl,_,rfl,?_⟩;show if (!inV (.int x) ((zap rows kn).map V.int))=true then _ else _
  rw[zjV,yag (show x∈zap rows kn from hin)];exact iteF ⟨rfl,rfl⟩
 rintro _ _ ⟨rfl,rfl⟩;have hfew:=S.stand.few;have s1:Same H H:=fun _ _ e=>e;have hrow1:=s1 _ _ hrow;refine ⟨_,rfl,_,rfl,a,zap rows kn,x,rfl,hrow1,S.stand.R.at_up kn,hT.ext s1.ext,fun H2 g2 hT2=>?_⟩;obtain ⟨tab,hmp⟩:∃ tab,H mp=some (.tbl tab):=by
  obtain ⟨tab,e,_⟩:=(hT.ext s1.ext).ex;exact ⟨tab,e⟩
 have keep2:∀{b:Addr} {o:HO},H b=some o→(∀ tab,o≠.tbl tab)→H2 b=some o:=fun {b o} e n=>g2 b o (fun z=>by
  rw[z]at e;have:=s1 _ _ e;rw[hmp]at this;exact n _ (yad this).symm) (s1 _ _ e)
 have tp2:Tp H H2:=fun b us e=>keep2 e (fun _ z=>nomatch z);have S2:zaS K CS H2 sh dx st p qs ps rows t rs as:=⟨keep2 S.own (fun _ z=>nomatch z),keep2 S.ins (fun _ z=>nomatch z),zcj tp2 S.stand,S.full.tp tp2 fun b us e=>keep2 e (fun _ z=>nomatch z)⟩;have row2:=tp2 _ _ hrow;refine ⟨_,rfl,sh,CS,dx,_,_,rfl,S2.ins,O.cl,O.n_kept,rfl,_,rfl,?_⟩;refine ⟨_,rfl,_,rfl,_,rfl,zpy row2 fun v3 H3 s3 h3=>?_⟩;have hrl:(zap rows kn).length≤400:=by
  have:=S.stand.keys;refine yao (ze3 ?_) this;unfold zap;rw[yae,yac (show kn < rows.length by rw[S.stand.len];exact hk)];exact yaN _
 refine ⟨_,rfl,_,rfl,_,_,rfl,rfl,_,rfl,?_⟩;unfold zjs;dsimp only;rw[show ((zfc (zap rows kn) x:Nat):Int)+1=((zfc (zap rows kn) x+1:Nat):Int) from rfl];refine zky (s3 _ _ row2) fun v6 H6 s6 h6=>?_;refine zpc (s6 _ _ h3) h6 (ya4 (zao (by rw[yaq,yaR,yab];omega))) fun v7 H7 s7 h7=>?_;have s27:Same H2 H7:=s3.trans (s6.trans s7);have er:((zap rows kn).map V.int).take (zfc (zap rows kn) x)++((zap rows kn).map V.int).drop (zfc (zap rows kn) x+1)=(outR (zap rows kn) x).map V.int:=by
  unfold outR;rw[yat,ybC,List.map_drop];rfl
 rw[er]at h7;have hal:=S.stand.at_.length;refine ⟨st,t,rs,as.map V.ref,kn,.ref v7,rfl,s27 _ _ S2.stand.st,s27 _ _ S2.stand.rs,by rw[yab,hal,S.stand.len];exact hk,by rw[yab,hal,S.stand.len];omega,fun st' rs' H8 s8 h8 r8=>?_⟩;have s28:Same H2 H8:=s27.trans s8;have hkr:kn < rows.length:=by rw[S.stand.len];exact hk
 have R':zaC (rows.set kn (outR (zap rows kn) x)):=zhL S.stand.R ((S.stand.R.at_up kn).sublist (zep _ _)) fun y hy=>S.stand.R.at_key kn y ((zep _ _).mem hy);have hks:=zf5 (r:=outR (zap rows kn) x) hkr;have hol:=(zep (zap rows kn) x).length_le;have hkk:=S.stand.keys;refine ⟨_,rfl,sh,CS,dx,_,rfl,s28 _ _ S2.ins,O.cl,O.n_kept,(by show 2 < 1000;decide),?_⟩;obtain ⟨S9,T9,kd9,al,nq9⟩:=zi9 (r:=outR (zap rows kn) x) S S2 hT2 (fun b o n e=>g2 b o n (s1 _ _ e)) s28 (s8 _ _ h7) h8 r8 R' (by omega);generalize upd H8 sh (.ins CS dx (putF "kept" (.ref st') [("kept",.ref st),("fulls",.ref p)]))=H9 at S9 T9 kd9 al nq9 ⊢;refine ⟨_,rfl,sh,dx,_,rfl,S9.ins,rfl,_,rfl,_,rfl,_,rfl,(by show 2≤sizeLine;decide),fun u hu=>?_⟩;have s10:=zai hu (.tup [.int x,.int kn]);have u10:upd H9 u (.tup [.int x,.int kn]) u=some (.tup [.int x,.int kn]):=zab;generalize upd H9 u (.tup [.int x,.int kn])=H10 at s10 u10 ⊢;refine ⟨(by show 1≤sizeLine;decide),fun g hg=>?_⟩;have s11:=zai hg (.lst [.ref u]);have g11:upd H10 g (.lst [.ref u]) g=some (.lst [.ref u]):=zab;generalize upd H10 g (.lst [.ref u])=H11 at s11 g11 ⊢;refine ⟨(by show 0≤sizeLine;decide),fun c hc=>?_⟩;have s12:=zai hc (.lst []);have c12:upd H11 c (.lst []) c=some (.lst []):=zab;generalize upd H11 c (.lst [])=H12 at s12 c12 ⊢;have s92:Same H9 H12:=s10.trans (s11.trans s12);have S12:zcI K CS H12 sh dx st' p qs ps rows (rows.set kn (outR (zap rows kn) x)) t rs' (as.set kn v7) kn 0:=⟨s92 _ _ S9.own,s92 _ _ S9.ins,S9.stand.same s92,S9.full.ext s92.ext⟩;have L:=zi2 S.stand.T S.stand.R R' hk (zih (rows:=rows) (r:=outR (zap rows kn) x));refine ⟨sh,dx,st',p,g,c,[.ref u],[],kn,qs,ps,rows,rows.set kn (outR (zap rows kn) x),t,rs',as.set kn v7,(fun b=>H b=none),rfl,S12,hk,zih,S.stand.R,S.stand.len,S.stand.keys,s12 _ _ g11,?_,c12,?_,al (s10.free hg),al (s10.free (s11.free hc)),(nq9 (s10.free hg)),(nq9 (s10.free (s11.free hc))),(fun z=>by have z:H p=none:=z;rw[S.full.at_]at z;cases z),(fun b z=>al (s92.free z)),fun D us m qs' H' st hD hq bb sh' hDl told=>?_⟩
 ·rw[← L.gone,zop hkr (S.stand.R.at_up kn) (ziL S.stand.R kn) hin];exact .cons ⟨u,.int x,.int kn,rfl,s12 _ _ (s11 _ _ u10),rfl,rfl⟩ .nil
 ·rw[← L.come,zoq hkr];exact .nil
 ·refine q D us m qs' st' rs' (as.set kn v7) H' st (al (s92.free hD)) (fun y hy=>(hq y hy).imp id fun z=>al (s92.free z)) (fun b o n1 n2 n3 e=>bb b o n2 (s92 _ _ (kd9 b o n1 n3 e))) sh' ?_ hDl told;have:=S12.full.at_;exact zjr (T9.ext s92.ext) bb (fun tab z=>by rw[this]at z;cases z) (fun f z=>by rw[this]at z;cases z)
def dl (Av:List Addr)(H:Hp):Hp:=fun b=>if b∈Av then none else H b
def KpV (Av:List Addr)(H H':Hp):Prop:=∀ b o,b∉Av→H b=some o→H' b=some o
section
variable {Av:List Addr}{H H':Hp}
theorem zsT {b:Addr}(h:b∉Av):dl Av H b=H b:=if_neg h
theorem zgy:Same (dl Av H) H:=fun b o e=>by
 unfold dl at e;split at e
 ·cases e
 ·exact e
theorem ze8 (k:KpV Av H H'):Same (dl Av H) (dl Av H'):=fun b o e=>by
 unfold dl at e ⊢;split at e
 ·cases e
 ·rename_i n;rw[if_neg n];exact k b o n e
theorem zj0 {b:Addr}{o:HO}(e:H b=some o)(h:b∉Av):dl Av H b=some o:=by rw[zsT h];exact e
def zil (Av:List Addr)(H:Hp):Prop:=∀ a∈Av,∀ us,H a≠some (.tup us)
theorem zil.out (n:zil Av H){b:Addr}{us:List V}(e:H b=some (.tup us)):b∉Av:=fun z=>n b z us e
theorem zil.dl (n:zil Av H){b:Addr}{us:List V}(e:H b=some (.tup us)):dl Av H b=some (.tup us):=zj0 e (n.out e)
theorem zil.tp (n:zil Av H):Tp H (My.dl Av H):=fun _ _ e=>n.dl e
theorem KpV.of (s:Same H H'):KpV Av H H':=fun c o _ e=>s c o e
theorem KpV.tp (k:KpV Av H H')(n:zil Av H):Tp H H':=fun b us e=>k b _ (n.out e) e
end
theorem zse {c A B:Prop}[Decidable c](hc:¬ c)(h:A):if (!decide c)=true then A else B:=by
 rw[yah hc];exact h
def zid (b:Bool)(row:List Int)(x:Int):List Int:=if b then putR row x else outR row x
def zc8 (rows:List (List Int))(kn:Nat)(x:Int)(b:Bool):List (List Int):=rows.set kn (zid b (zap rows kn) x)
structure zdS (H:Hp)(r:Addr)(as:List Addr)(rows:List (List Int)):Prop where
 at_:H r=some (.tup (as.map V.ref))
 rows:zaN H as rows
theorem zdS.tp {H H':Hp}{r:Addr}{as:List Addr}{rows:List (List Int)}(h:zdS H r as rows)(e:Tp H H'):zdS H' r as rows:=⟨e _ _ h.at_,zjA e h.rows⟩
theorem zdS.get {H:Hp}{r:Addr}{as:List Addr}{rows:List (List Int)}(h:zdS H r as rows){k:Nat}(hk:k < rows.length):∃ a,atI (as.map V.ref) (k:Int)=some (.ref a)∧H a=some (.tup ((zap rows k).map V.int)):=by
 obtain ⟨a,h1,h2⟩:=h.rows.get hk;exact ⟨a,zbI h1,h2⟩
theorem zrZ {L d:Addr}{H':Hp}{p:Addr}{o:List V}(s:LS K L d H')(hp:H' p=some (.tup o)):p≠d:=fun z=>by
 obtain ⟨_,_,_,e,_⟩:=s.ex;rw[← z,hp]at e;cases e
theorem zr0 {L d:Addr}{H':Hp}{p:Addr}(s:LS K L d H')(hp:H' p=none):p≠d:=fun z=>by
 obtain ⟨_,_,_,e,_⟩:=s.ex;rw[← z,hp]at e;cases e
theorem zh4 {L d:Addr}{H H':Hp}(s:LS K L d H)(k:Keep d H H'):Tp H H':=fun b us e=>k b _ (zrZ s e) e
def zpu (K:Frag):Sp:=fun vs H Q _=>∃(d L t r:Addr) (ps:List Nat) (rows:List (List Int)) (as:List Addr),vs=[.ref d,.ref t,.ref r]∧H t=some (.tup (zbJ ps))∧ps.length≤40∧zdS H r as rows∧rows.length=ps.length+1∧zaC rows∧(∀ k,(zap rows k).length≤400)∧LS K L d H∧
 ∀(u:Addr) (kn:Nat) (x:Int) (H':Hp),H u=none→kn < ps.length+1→znT x→H' u=some (.tup [.int kn,.int x,.bl (!decide (x∈zap rows kn))])→Keep d H H'→LS K L d H'→Q (.ref u) H'
theorem zqn (T:Txt K mg)(D_l_step:DF K mg "_law_step" zfU zeQ)(F_l_take:FC P w K mg base 2 "_law_take" zbO (zgf K))(F_l_key:FC P w K mg base 3 "_law_key" zeS (zp3 K)):FC P w K mg base 4 "_law_step" zeQ (zpu K):=by
 refine D_l_step.ok sc_l_step (fun vs H Q E h=>?_) (fun f cdv A outer s H vs Q E hr h=>?_)
 ·obtain ⟨d,L,t,r,ps,rows,as,rfl,_⟩:=h;rfl
 obtain ⟨d,L,t,r,ps,rows,as,rfl,ht,hps,hR,hlen,R,hz,hs,q⟩:=h;refine ⟨_,(zah (zas (i:=3) sc_l_step.nd rfl (Or.inl rfl) (zaA F_l_take hr (zaa (pv 0) (zaa (zam zan rfl T.m_len boot_len (zaa (pv 1) zad)) zad))))
   (zah (zas (i:=4) sc_l_step.nd rfl (Or.inl rfl) (zaA F_l_key hr (zaa (pv 0) zad)))
   (zaB (zaW (PW.pt (zg1 (zav zlt (zam zan rfl T.m_len boot_len (zaa (zaD zaO (pv 2) (pv 3) (fun _ _=>rfl)) zad)) zaf (zaH _)) (zfn (zav zfr (zaA F_l_take hr (zaa (pv 0) (zaa zaf zad))) zaf (zaH _))))) (zae (zas (i:=4) sc_l_step.nd rfl (Or.inl rfl) (zaD zaO (zaD zaO (pv 2) (pv 3) (fun _ _=>rfl)) (zaA F_l_take hr (zaa (pv 0) (zaa (zam zan rfl T.m_len boot_len (zaa (zaD zaO (pv 2) (pv 3) (fun _ _=>rfl)) zad)) zad))) (fun _ _=>rfl)))) zax)
   (zae (zau (za6 (zaa (pv 3) (zaa (pv 4) (zaa (zhR zcc (pv 4) (zaD zaO (pv 2) (pv 3) (fun _ _=>rfl)) (by with_unfolding_all rfl)) zad))))))))),?_⟩
 have el:=zat ps;refine ⟨_,rfl,_,rfl,_,_,rfl,.inr (SqT.of ht),?_⟩;rw[el];refine ⟨d,L,((ps.length+1:Nat):Int),rfl,⟨by omega,by omega⟩,hs,fun n H1 n0 n1 k1 s1=>?_⟩;obtain ⟨kn,rfl⟩:∃ kn:Nat,n=kn:=⟨n.toNat,by omega⟩;have hkn:kn < ps.length+1:=by omega
 refine ⟨_,rfl,d,L,rfl,s1,fun x H2 x0 x1 k2 s2=>?_⟩;have k02:=k1.trans k2;have R2:=hR.tp (zh4 hs k02);obtain ⟨a,ha,hrow⟩:=R2.get (k:=kn) (by omega);have hl:=hz kn;refine ⟨fun σ' H'=>∃ x:Int,σ'=[some (.ref d),some (.ref t),some (.ref r),some (.int kn),some (.int x)]∧znT x∧Keep d H H'∧LS K L d H',?_,?_⟩
 ·refine ⟨_,rfl,_,rfl,_,_,_,_,rfl,rfl,SqT.of R2.at_,ha,_,_,rfl,.inr (SqT.of hrow),_,_,rfl,rfl,_,rfl,?_⟩;refine ite2 (fun c=>?_) (fun c=>?_)
  ·have c':(0:Int) < (((zap rows kn).map V.int).length:Int):=yaH c;rw[yab]at c';refine ⟨_,rfl,d,L,2,rfl,by decide,s2,fun v H3 _ _ k3 s3=>⟨rfl,_,rfl,?_⟩⟩;have R3:=R2.tp (zh4 s2 k3);have hrow3:=zh4 s2 k3 _ _ hrow;refine ite2 (fun _=>?_) (fun _=>?_)
   ·refine ⟨_,rfl,_,rfl,_,_,_,_,rfl,rfl,SqT.of R3.at_,ha,_,rfl,_,rfl,_,rfl,_,_,_,_,rfl,rfl,SqT.of R3.at_,ha,_,_,rfl,.inr (SqT.of hrow3),?_⟩;rw[yab];refine ⟨d,L,(((zap rows kn).length:Nat):Int),rfl,⟨by omega,by omega⟩,s3,fun n H4 n0 n1 k4 s4=>?_⟩;obtain ⟨i,rfl⟩:∃ i:Nat,n=i:=⟨n.toNat,by omega⟩;have hi:i < (zap rows kn).length:=by omega
    have hrow4:=zh4 s3 k4 _ _ hrow3;refine ⟨_,_,_,_,rfl,rfl,SqT.of hrow4,zeu (v:=.int ((zap rows kn)[i])) (by rw[yar,yac hi];rfl),?_⟩;exact ⟨_,rfl,R.at_key kn _ (yaN hi),k02.trans (k3.trans k4),s4⟩
   ·exact ⟨x,rfl,⟨x0,x1⟩,k02.trans k3,s3⟩
  ·refine iteF ?_;exact ⟨x,rfl,⟨x0,x1⟩,k02,s2⟩
 rintro _ H3 ⟨x,rfl,hx,k3,s3⟩;have R3:=hR.tp (zh4 hs k3);obtain ⟨a,ha,hrow⟩:=R3.get (k:=kn) (by omega);have hfl:((zap rows kn).map V.int).all zfu=true:=yaU.mpr fun y hy=>by
  obtain ⟨z,_,rfl⟩:=yaG.mp hy;rfl
 refine ⟨_,rfl,_,rfl,_,rfl,_,rfl,_,rfl,_,_,_,_,rfl,rfl,SqT.of R3.at_,ha,a,_,rfl,.inr (SqT.of hrow),rfl,hfl,(by show 3≤sizeLine;decide),fun u hu=>?_⟩;rw[zjV];have su:=zai hu (.tup [.int kn,.int x,.bl (!decide (x∈zap rows kn))]);have hu0:H u=none:=by
  cases e:H u with
  | none=>rfl
  | some o=>
   have:=k3 u o (zr0 s3 hu) e;rw[hu]at this;cases this
 exact q u kn x _ hu0 hkn hx zab (fun b o n e=>su _ _ (k3 b o n e)) (s3.same su)
theorem zl4 {l:List Int}(h:l.Pairwise (· < ·)):l.Pairwise fun a b=>Srt.blt b a=false:=List.Pairwise.imp (fun {a b} (h:a < b)=>yah (by omega)) h
theorem zki {l:List Int}(h:l.Pairwise (· < ·)):l.Nodup:=List.Pairwise.imp (fun {a b} (q:a < b)=>by omega) h
theorem zsw {l m:List Int}(h1:l.Pairwise (· < ·))(h2:m.Pairwise (· < ·))(e:∀ x,x∈l↔x∈m):l=m:=by
 have p:=(ycD (zki h1) (zki h2)).mpr e;rw[zez p (zl4 h1),ziE (zl4 h2)]
theorem zoc {row:List Int}{x:Int}(h:row.Pairwise (· < ·))(n:x∉row):zcJ (row++[x])=putR row x:=by
 refine (zez ?_ (zl4 (zmB h n))).symm;unfold putR;have:=(ybX (l₁:=[x]) (l₂:=row.drop (loN row x))).append_left (row.take (loN row x));rwa[← yaM,← yaM,yaS]at this
theorem zlr {row:List Int}{x:Int}(h:row.Pairwise (· < ·))(hx:x∈row):row.filter (fun y=>!decide (y=x))=outR row x:=by
 refine zsw (h.sublist List.filter_sublist) (h.sublist (zep _ _)) fun y=>?_;rw[zjE h hx,ya7];simp
def zkw (K:Frag):Sp:=fun vs H Q _=>∃(r:Addr) (kn:Nat) (x:Int) (b:Bool) (rows:List (List Int)) (as:List Addr),vs=[.ref r,.int kn,.int x,.bl b]∧zdS H r as rows∧kn < rows.length∧rows.length≤60∧zaC rows∧(∀ k,(zap rows k).length≤400)∧(b=!decide (x∈zap rows kn))∧
 ∀(r':Addr) (as':List Addr) (H':Hp),H r'=none→Same H H'→zdS H' r' as' (zc8 rows kn x b)→Q (.ref r') H'
theorem zm0 (T:Txt K mg)(D_l_behind:DF K mg "_law_behind" zd2 zdm):FC P w K mg base 1 "_law_behind" zdm (zkw K):=by
 refine D_l_behind.ok sc_l_behind (fun vs H Q E h=>?_) (fun f cdv A outer s H vs Q E hr h=>?_)
 ·obtain ⟨r,kn,x,b,rows,as,rfl,_⟩:=h;rfl
 obtain ⟨r,kn,x,b,rows,as,rfl,hR,hkn,hz0,R,hz,hb,q⟩:=h;refine ⟨_,(zah (zas (i:=4) sc_l_behind.nd rfl (Or.inl rfl) (zaT zcX rfl T.m_list boot_list (zaa (pv 0) zad)))
   (zaB (zaW (zbe (pv 3)) (zae (zdx (zaT zaR rfl T.m_tuple boot_tuple (zaa (zam (zhp Int) rfl T.m_sorted boot_sorted (zaa (zaw zjG (zaD zaI (pv 4) (pv 1) (fun _ _=>rfl)) (za6 (zaa (pv 2) zad))) zad)) zad)) (zeU (pv 4) (pv 1) zck))) (zae (zdx (zaT zaR rfl T.m_tuple boot_tuple (zaa (zbS (N:=["_law_other","_law_key_here"]) (own:=1) (cap:=[2]) rfl (zdF (zaD zaI (pv 4) (pv 1) (fun _ _=>rfl))) ⟨rfl,rfl,rfl,rfl,rfl,rfl⟩ (fun _ _ _ _ _=>(zar (i:=0) (show List.Nodup (["_law_other","_law_key_here"]:List Str) by decide +kernel) rfl (Or.inl rfl))) (fun _ _ _ _ _=>(zcC (zav zrK (pv 0) (pv 1) (zaH _)))) (fun _ _ _ _ _=>(pv 0))) zad)) (zeU (pv 4) (pv 1) zck))))
   (zae (zau (zaT zaR rfl T.m_tuple boot_tuple (zaa (pv 4) zad)))))),?_⟩
 obtain ⟨a,ha,hrow⟩:=hR.get hkn;have hl:=hz kn;have hal:=hR.rows.length;refine ⟨_,rfl,r,_,rfl,.inr (SqT.of hR.at_),fun l hl0=>?_⟩;have s1:=zai hl0 (.lst (as.map V.ref));have h1:upd H l (.lst (as.map V.ref)) l=some (.lst (as.map V.ref)):=zab;generalize upd H l (.lst (as.map V.ref))=H1 at s1 h1 ⊢;refine ⟨fun σ' H'=>∃ v:Addr,σ'=[some (.ref r),some (.int kn),some (.int x),some (.bl b),some (.ref l)]∧H' l=some (.lst ((as.map V.ref).set kn (.ref v)))∧H' v=some (.tup ((zid b (zap rows kn) x).map V.int))∧Same H H',?_,?_⟩
 ·have ha1:=s1 _ _ hrow;have nal:∀{c:Addr} {us:List V} {H':Hp},H' l=some (.lst (as.map V.ref))→H' c=some (.tup us)→c≠l:=fun e1 e2 z=>by rw[z,e1]at e2;cases e2
  have fin:∀(v:Addr) (H':Hp),Same H1 H'→H' v=some (.tup ((zid b (zap rows kn) x).map V.int))→∃ v':Addr,[some (V.ref r),some (.int kn),some (.int x),some (.bl b),some (.ref l)]=[some (.ref r),some (.int kn),some (.int x),some (.bl b),some (.ref l)]∧upd H' l (.lst ((as.map V.ref).set kn (.ref v))) l=some (.lst ((as.map V.ref).set kn (.ref v')))∧upd H' l (.lst ((as.map V.ref).set kn (.ref v))) v'=some (.tup ((zid b (zap rows kn) x).map V.int))∧Same H (upd H' l (.lst ((as.map V.ref).set kn (.ref v)))):=fun v H' s' hv=>
   ⟨v,rfl,zab,by rw[zag (nal (s' _ _ h1) hv)];exact hv,fun c o e=>by rw[zag (zac e hl0)];exact s' _ _ (s1 _ _ e)⟩
  refine ⟨_,rfl,_,rfl,?_⟩;cases b with
  | true=>
   refine iteT ?_;have hx:x∉zap rows kn:=fun z=>by rw[yag z]at hb;cases hb
   refine ⟨_,rfl,_,rfl,_,_,_,_,rfl,rfl,SqL.of h1,ha,_,rfl,(by show 1≤sizeLine;decide),fun u hu=>?_⟩;have s2:=zai hu (.tup [.int x]);have h2:upd H1 u (.tup [.int x]) u=some (.tup [.int x]):=zab;generalize upd H1 u (.tup [.int x])=H2 at s2 h2 ⊢;refine zk7 (s2 _ _ ha1) h2 (fun z=>nomatch z) (ya4 (zao (by rw[yab];show _+1≤1000;omega))) fun v3 H3 s3 h3=>?_;rw[show (zap rows kn).map V.int++[V.int x]=(zap rows kn++[x]).map V.int by rw[yat];rfl]at h3;refine ⟨v3,_,zap rows kn++[x],rfl,SqT.of h3,zal.ints,fun l4 ws hl4 hw=>?_⟩;rw[hw.toInts,zoc (R.at_up kn) hx];have s4:=zai hl4 (.lst ((putR (zap rows kn) x).map V.int));refine ⟨l4,_,rfl,.inl ⟨SqL.of zab,fun v5 hv5=>?_⟩⟩;have s5:=zai hv5 (.tup ((putR (zap rows kn) x).map V.int));have s15:Same H1 _:=s2.trans (s3.trans (s4.trans s5));refine ⟨_,rfl,_,rfl,l,_,_,kn,rfl,rfl,s15 _ _ h1,zds (by rw[yab,hal];exact hkn),?_⟩;exact fin v5 _ s15 zab
  | false=>
   refine iteF ?_;have hx:x∈zap rows kn:=Classical.byContradiction fun z=>by rw[yah z]at hb;cases hb
   refine ⟨_,rfl,_,rfl,_,_,_,_,rfl,rfl,SqL.of h1,ha,a,rfl,⟨_,SqT.of ha1⟩,fun D hD=>?_⟩;refine zdv (xs:=(zap rows kn).map V.int) (fun i σ H2=>∃ x0:Option V,σ=[x0,some (.int x)]∧H2 D=some (.lst ((((zap rows kn).take i).filter (fun y=>!decide (y=x))).map V.int))∧But D H1 H2) ?_ ?_ ?_ ?_
   ·exact ⟨_,rfl,zab,fun b o n e=>by rw[zag n];exact e⟩
   ·rintro i σ H2 _ ⟨x0,rfl,_,k2⟩;exact SqT.of (k2 _ _ (zac ha1 hD) ha1)
   ·rintro i m v σ H2 hv hm ⟨x0,rfl,h2,k2⟩;rw[yab]at hm;rw[yar]at hv;obtain ⟨y,hy,rfl⟩:=ybq.mp hv;obtain ⟨hi,rfl⟩:=yak.mp hy;have hfl:=ya3 (fun y=>!decide (y=x)) ((zap rows kn).take i);rw[yaq]at hfl;rw[yaQ hi,ybh];refine ⟨_,rfl,_,rfl,rfl,_,rfl,?_⟩;by_cases c:(zap rows kn)[i]=x
    ·refine ziZ (show V.int _=V.int _ by rw[c]) ?_;refine ⟨m - 1,by omega,by rw[yab];omega,_,rfl,?_,k2⟩;rw[ybn (by rw[yag c];decide),List.filter_nil,yaz];exact h2
    ·refine zse (fun z=>c (V.int.inj z)) ?_;refine ⟨_,rfl,_,h2,zao (by rw[yab];omega),m - 1,by omega,by rw[yab];omega,_,rfl,?_,fun b o n e=>by rw[zag n];exact k2 b o n e⟩;rw[zab,ybd (by rw[yah c];rfl),List.filter_nil,yat];rfl
   ·rintro σ H2 ⟨x0,rfl,h2,k2⟩;rw[yab,yas (yaa _),zlr (R.at_up kn) hx]at h2;have s2:Same H1 H2:=fun b o e=>k2 b o (zac e hD) e;refine ⟨D,_,rfl,.inl ⟨SqL.of h2,fun v5 hv5=>?_⟩⟩;have s15:Same H1 _:=s2.trans (zai hv5 (.tup ((outR (zap rows kn) x).map V.int)));refine ⟨_,rfl,_,rfl,l,_,_,kn,rfl,rfl,s15 _ _ h1,zds (by rw[yab,hal];exact hkn),?_⟩;exact fin v5 _ s15 zab
 rintro _ H2 ⟨v,rfl,h2,hv,s2⟩;refine ⟨_,rfl,l,_,rfl,.inl ⟨SqL.of h2,fun r' hr'=>?_⟩⟩;have s3:=zai hr' (.tup ((as.map V.ref).set kn (.ref v)));have s03:=s2.trans s3;refine q r' (as.set kn v) _ (s2.free hr') s03 ⟨?_,zel (s3 _ _ hv) kn (hR.rows.ext s03)⟩;rw[zab,ybD]
def optL (ps:List Nat):List (Option Int):=none::ps.map fun (p:Nat)=>some (Int.ofNat p)
theorem zhz {K:Frag}{H:Hp}(ps:List Nat):zal K H (optL ps) (zbJ ps):=by
 refine .cons rfl ?_
 induction ps with
 | nil=>exact .nil
 | cons p ps ih=>exact .cons rfl ih
theorem zfZ {K:Frag}{H:Hp}:∀{as:List Addr} {rows:List (List Int)},zaN H as rows→zal K H (rows.map Tup.mk) (as.map V.ref)
 | _,_,.nil=>.nil
 | _,_,.cons h t=>.cons ⟨_,_,rfl,SqT.of h,zal.ints⟩ (zfZ t)
abbrev StD:Type:=Tup (Option Int)×Tup (Tup Int)
def zge (ps:List Nat)(rows:List (List Int)):StD:=(⟨optL ps⟩,⟨rows.map Tup.mk⟩)
theorem ziz {K:Frag}{H:Hp}{st t rs:Addr}{ps:List Nat}{rows:List (List Int)}{as:List Addr}(S:zbx H st ps rows t rs as):Rep.has K H (zge ps rows) (.ref st):=
 ⟨st,_,_,rfl,S.st,⟨_,_,rfl,SqT.of S.tr,zhz ps⟩,⟨_,_,rfl,SqT.of S.rs,zfZ S.at_⟩⟩
structure zpl (Av:List Addr)(H:Hp):Prop where
 some:∀ a∈Av,H a≠none
 tup:zil Av H
theorem zpl.fresh {Av:List Addr}{H:Hp}(A:zpl Av H){b:Addr}(h:H b=none):b∉Av:=fun z=>A.some b z h
theorem zsq {D:Addr}{Av:List Addr}{H H':Hp}(k:But D H H'):Same (dl (D::Av) H) (dl (D::Av) H'):=ze8 fun b o n e=>k b o (fun z=>n (z ▸ yaD)) e
abbrev ToT:Type:=Tri Int (List En) (List En)
section
variable {ps:List Nat}{rows rows':List (List Int)}{k:Nat}
theorem zl2 {m:Nat}(h:upN ps k m=none):∀ d,upN ps k (m+d)=none
 | 0=>h
 | d+1=>by
  show (upN ps k (m+d)).bind (par ps)=none;rw[zl2 h d];rfl
theorem ziu {m:Nat}(h:upN ps k m=none):∀ d,zbZ ps rows rows' k (m+d)=zbZ ps rows rows' k m
 | 0=>rfl
 | d+1=>by
  show zbZ ps rows rows' k (m+d)++((upN ps k (m+d)).map (zlh ps rows rows')).toList=_;rw[ziu h d,zl2 h d];exact yaz _
theorem zmd {m n:Nat}(h1:zik ps rows rows' k m)(h2:zik ps rows rows' k n)(h:m≤n):zbZ ps rows rows' k n=zbZ ps rows rows' k m:=by
 rcases ybK m n with z | z
 ·rcases h1.2 with y | ⟨j,y1,y2,y3⟩
  ·have:=ziu (rows:=rows) (rows':=rows') y (n - m);rwa[show m+(n - m)=n by omega]at this
  ·exact absurd ⟨y2,y3⟩ (h2.1 m j z y1)
 ·rw[show m=n by omega]
theorem zn2 {m n:Nat}(h1:zik ps rows rows' k m)(h2:zik ps rows rows' k n):zbZ ps rows rows' k m=zbZ ps rows rows' k n:=by
 rcases Nat.le_total m n with z | z
 ·exact (zmd h1 h2 z).symm
 ·exact zmd h2 h1 z
theorem zhA (T:zay ps):∀ m:Nat,(zbZ ps rows rows' k m).length≤m∧(zbZ ps rows rows' k m).length≤k+1
 | 0=>⟨yaa _,yaC _⟩
 | m+1=>by
  obtain ⟨h1,h2⟩:=zhA T m;unfold zbZ;rw[yap];cases e:upN ps k m with
  | none=>exact ⟨Nat.le_succ_of_le h1,h2⟩
  | some j=>
   have:=zkj T e;show _+1≤_∧_+1≤_;omega
end
section
variable {rows:List (List Int)}{kn:Nat}{x:Int}{b:Bool}
theorem zo7 {row:List Int}(h:row.Pairwise (· < ·))(hb:b=!decide (x∈row)):(zid b row x).Pairwise (· < ·):=by
 cases b with
 | true=>exact zmB h fun z=>by rw[yag z]at hb;cases hb
 | false=>exact h.sublist (zep _ _)
theorem zny {row:List Int}(h:row.Pairwise (· < ·))(hb:b=!decide (x∈row)){y:Int}:y∈zid b row x↔(y=x∧b=true)∨(y≠x∧y∈row):=by
 cases b with
 | true=>
  have hx:x∉row:=fun z=>by rw[yag z]at hb;cases hb
  show y∈putR row x↔_;rw[zhO];constructor
  ·rintro (z | z)
   ·exact .inr ⟨fun e=>hx (e ▸ z),z⟩
   ·exact .inl ⟨z,rfl⟩
  ·rintro (⟨z,_⟩ | ⟨_,z⟩)
   ·exact .inr z
   ·exact .inl z
 | false=>
  have hx:x∈row:=Classical.byContradiction fun z=>by rw[yah z]at hb;cases hb
  show y∈outR row x↔_;rw[zjE h hx];constructor
  ·rintro ⟨z1,z2⟩;exact .inr ⟨z2,z1⟩
  ·rintro (⟨_,z⟩ | ⟨z1,z2⟩)
   ·cases z
   ·exact ⟨z2,z1⟩
theorem znz:(zc8 rows kn x b).length=rows.length:=ybT
theorem zlM (hk:kn < rows.length):zbT (zc8 rows kn x b)≤zbT rows+1:=by
 have:=zf5 (r:=zid b (zap rows kn) x) hk;unfold zc8;cases b with
 | true=>
  have e:(zid true (zap rows kn) x).length=(zap rows kn).length+1:=zmC;omega
 | false=>
  have e:(zid false (zap rows kn) x).length≤(zap rows kn).length:=(zep _ _).length_le;omega
end
structure znU (K:Frag)(CS mp:Addr)(H H':Hp)(sh dx p D:Addr)(us:List V)(m:Nat)(qs qs':List Addr)(st' t rs':Addr)(as':List Addr)(ps:List Nat)(rows rows':List (List Int))(kn:Nat):Prop where
 stops:zik ps rows rows' kn m
 new:H D=none
 qn:∀ q∈qs',q∈qs∨H q=none
 kd:Kd sh p mp H H'
 shelf:zaS K CS H' sh dx st' p qs' ps rows' t rs' as'
 tab:zbo H' mp zdL lamQ
 at_:H' D=some (.lst us)
 told:za8 K H' D (fun b=>H b=none∧b∉qs') (zbZ ps rows rows' kn m) us
theorem zqG {K:Frag}{H:Hp}{R:ToT→V→Prop}(h:∀ e v,R e v→Rep.has K H e v){es:List ToT}{us:List V}(p:Paired R es us):zal K H es us:=by
 induction p with
 | nil=>exact .nil
 | cons a _ ih=>exact .cons (h _ _ a) ih
section
variable {K:Frag}{CS mp:Addr}{H H':Hp}{sh dx p D:Addr}{us:List V}{m:Nat}{qs qs':List Addr}{st' t rs':Addr}{as':List Addr}{ps:List Nat}{rows rows':List (List Int)}{kn:Nat}{Av:List Addr}
theorem znU.kp (X:znU K CS mp H H' sh dx p D us m qs qs' st' t rs' as' ps rows rows' kn)(h1:sh∈Av)(h2:p∈Av)(h3:mp∈Av):KpV Av H H':=fun b o n e=>X.kd b o (fun z=>n (z ▸ h1)) (fun z=>n (z ▸ h2)) (fun z=>n (z ▸ h3)) e
theorem zaS.same (S:zaS K CS H sh dx st' p qs ps rows t rs' as')(s:Same H H'):zaS K CS H' sh dx st' p qs ps rows t rs' as':=⟨s _ _ S.own,s _ _ S.ins,S.stand.same s,S.full.ext s.ext⟩
theorem zaS.ext (S:zaS K CS H sh dx st' p qs ps rows t rs' as')(e:Ext H H'):zaS K CS H' sh dx st' p qs ps rows t rs' as':=⟨e _ _ S.own (fun _ z=>nomatch z),e _ _ S.ins (fun _ z=>nomatch z),zcj (fun b us h=>e _ _ h (fun _ z=>nomatch z)) S.stand,S.full.ext e⟩
end
def Kp0 (H H':Hp):Prop:=∀ b o,(∀ tab,o≠.tbl tab)→H b=some o→H' b=some o
theorem zr1 {L d:Addr}{H H':Hp}(s:LS K L d H)(g:Kp0 H H'):LS K L d H':=by
 obtain ⟨ns,a,l,e,q⟩:=s.ex;refine ⟨ns,a,l,g _ _ (fun _ z=>nomatch z) e,?_⟩;rcases q with (q | ⟨o,q⟩) | q
 ·exact .inl (.inl (g _ _ (fun _ z=>nomatch z) q))
 ·exact .inl (.inr ⟨o,g _ _ (fun _ z=>nomatch z) q⟩)
 ·exact .inr q
theorem zqy {L d:Addr}{Bv:List Addr}{H H':Hp}(s:LS K L d (dl Bv H))(k:Keep d H H')(s':LS K L d H'):LS K L d (dl Bv H'):=by
 obtain ⟨ns,a,l,e,q⟩:=s.ex;obtain ⟨ns',a',l',e',_⟩:=s'.ex;have nd:d∉Bv:=fun z=>by
  unfold dl at e;rw[if_pos z]at e;cases e
 have k':Keep d (dl Bv H) (dl Bv H'):=fun b o n h=>by
  unfold dl at h ⊢;split at h
  ·cases h
  ·rename_i nb;rw[if_neg nb];exact k b o n h
 exact ⟨ns,a',l',zj0 e' nd,zfO e k' q⟩
theorem zlG {K:Frag}{CS:Addr}{H:Hp}{sh dx st:Addr}{ps:List Nat}{rows:List (List Int)}{t rs:Addr}{as:List Addr}{Q:VK}{E:XK}(S:zbx H st ps rows t rs as)(hsh:H sh=none)(hdx:H dx=none)(hne:dx≠sh)
  (q:∀(p:Addr) (qs:List Addr) (H':Hp),H p=none→(∀ q∈qs,H q=none)→Same H H'→zaS K CS H' sh dx st p qs ps rows t rs as→Q .non H'):zmr K CS [.ref sh,.ref st] (upd (upd H dx (.own sh)) sh (.ins CS dx [])) Q E:=by
 have s1:=zai hdx (.own sh);have hsh1:upd H dx (.own sh) sh=none:=by rw[zag (Ne.symm hne)];exact hsh
 have s2:=zai hsh1 (.ins CS dx []);have s12:=s1.trans s2;refine ⟨sh,dx,st,ps,rows,t,rs,as,rfl,s2 _ _ zab,zab,S.same s12,fun p qs H' hp hq hb S'=>?_⟩;exact q p qs H' (s12.free hp) (fun x hx=>s12.free (hq x hx)) (fun b o e=>hb b o (zac e hsh) (s12 _ _ e)) S'
theorem zg5 {X:Cx}{K:Frag}{A:Around}(α:Type)[Rep α](hu:A.units+Rep.depth (List α) < cLine)(hK:X.K=K:=by rfl)(hA:X.A=A:=by rfl):OpR X (compareOp .NotIn) (rInD α K true):=by
 subst hK hA;exact zmO α hu
def zkt (K:Frag):Sp:=fun vs H Q _=>∃(a b:Addr) (wa wb:List V) (es fs:List En),vs=[.ref a,.ref b]∧H a=some (.lst wa)∧zal K H es wa∧es.length≤900∧H b=some (.lst wb)∧zal K H fs wb∧fs.length≤900∧
 ∀(u g c:Addr) (gw cw:List V) (H':Hp),H u=none→H g=none→H c=none→Same H H'→H' u=some (.tup [.ref g,.ref c])→H' g=some (.lst gw)→zal K H' (zaL es fs) gw→H' c=some (.lst cw)→zal K H' (zaL fs es) cw→Q (.ref u) H'
theorem zi8 {K:Frag}{H:Hp}{a b D:Addr}{wa wb:List V}{es fs:List En}{x1:Option V}{Q:Hp→Prop}(hD:H D=none)(ha:H a=some (.lst wa))(hes:zal K H es wa)(hz:es.length≤900)(hb:H b=some (.lst wb))(hfs:zal K H fs wb)
  (q:∀(gw:List V) (H':Hp),Same H H'→H' D=some (.lst gw)→zal K H' (zaL es fs) gw→Q H') :
  ∃ W:Nat→Nat→L2.St→Hp→Prop,(∃ m,W 0 m [x1,some (.ref b)] (upd H D (.lst [])))∧∀ i m σ H,W i m σ H→((Itl K a).stop i H∧Q H)∨((Itl K a).go i H∧∀ x H',(Itl K a).yld i H x H'→zib 0 x σ H' fun σ2 H2=>zpV (tOp (rInD (Int×Int) K true) (tVar 0) (tVar 1)) σ2 H2 fun b H3=>if b=true then tVar 0 σ2 H3 fun y H4=>∃ xs,H4 D=some (.lst xs)∧xs.length < sizeLine∧∃ m',m' < m∧W (i+1) m' σ2 (upd H4 D (.lst (xs++[y]))) else ∃ m',m' < m∧W (i+1) m' σ2 H3):=by
 have hl:=hes.length;have e1:∀(l:List En) (c:En),zaL (l++[c]) fs=zaL l fs++zaL [c] fs:=fun l c=>ybh _ _;refine zbX (xs:=wa) (fun i σ H2=>∃(x0:Option V) (us:List V),σ=[x0,some (.ref b)]∧H2 D=some (.lst us)∧zal K H2 (zaL (es.take i) fs) us∧us.length≤i∧But D H H2) ?_ ?_ ?_ ?_
 ·exact ⟨_,[],rfl,zab,.nil,yaa _,fun b o n e=>by rw[zag n];exact e⟩
 ·rintro i σ H2 _ ⟨x0,us,rfl,_,_,_,k2⟩;exact SqL.of (k2 _ _ (zac ha hD) ha)
 ·rintro i m v σ H2 hv hm ⟨x0,us,rfl,h2,hu,hul,k2⟩;obtain ⟨e,he,hev⟩:=hes.get hv;obtain ⟨hi,rfl⟩:=yak.mp he;have s2:Same H H2:=fun b o e=>k2 b o (zac e hD) e;have htk:=yaQ hi;obtain ⟨pa,y1,y2,rfl,w1,w2,w3⟩:=(show hasP K H _ _ from hev);refine ⟨_,rfl,_,rfl,b,wb,es[i],fs,rfl,.inl (SqL.of (s2 _ _ hb)),Rep.mono s2.ext hev,hfs.mono s2.ext,fun c hc=>⟨_,rfl,?_⟩⟩;cases c with
  | true=>
   refine iteF ⟨m - 1,by omega,by omega,_,us,rfl,h2,?_,by omega,k2⟩;rw[htk,e1,show zaL [es[i]] fs=[] from ybn (p:=fun e=>decide (e∉fs)) (by simpa using hc.mp rfl),yaz];exact hu
  | false=>
   have hn:es[i]∉fs:=fun z=>by cases hc.mpr z
   refine iteT ⟨_,rfl,us,h2,zao (by omega),m - 1,by omega,by omega,_,_,rfl,zab,?_,by rw[yap,ybg];omega,fun b o n e=>by rw[zag n];exact k2 b o n e⟩;rw[htk,e1,show zaL [es[i]] fs=[es[i]] from ybd (p:=fun e=>decide (e∉fs)) (yag hn)];exact (zaQ h2 hu).append (zaQ h2 (.cons ⟨pa,y1,y2,rfl,s2 _ _ w1,w2,w3⟩ .nil))
 ·rintro σ H2 ⟨x0,us,rfl,h2,hu,_,k2⟩;rw[← hl,yas (yaa _)]at hu;exact q us H2 (fun b o e=>k2 b o (zac e hD) e) h2 hu
theorem zmZ (T:Txt K mg)(D_l_differ:DF K mg "_law_differ" zd1 zdl):FC P w K mg base 1 "_law_differ" zdl (zkt K):=by
 refine D_l_differ.ok sc_l_differ (fun vs H Q E h=>?_) (fun f cdv A outer s H vs Q E hr h=>?_)
 ·obtain ⟨a,b,wa,wb,es,fs,rfl,_⟩:=h;rfl
 obtain ⟨a,b,wa,wb,es,fs,rfl,ha,hes,hez,hb,hfs,hfz,q⟩:=h;refine ⟨_,(zah (zen (i:=2) (N:=["_law_entry","_law_behind_here"]) (own:=1) (cap:=[1]) sc_l_differ.nd rfl rfl rfl (zbQ (pv 0)) ⟨rfl,rfl,rfl,rfl,rfl,rfl⟩ (fun _ _ _ _ _=>(zar (i:=0) (show List.Nodup (["_law_entry","_law_behind_here"]:List Str) by decide +kernel) rfl (Or.inl rfl))) (fun _ _ _ _ _=>(zcC (zav (zg5 (Int×Int) (huD hr)) (pv 0) (pv 1) (by with_unfolding_all rfl)))) (fun _ _ _ _ _=>(pv 0)))
   (zae (zau (za6 (zaa (pv 2) (zaa (zbS (N:=["_law_entry","_law_before"]) (own:=1) (cap:=[0]) rfl (zbQ (pv 1)) ⟨rfl,rfl,rfl,rfl,rfl,rfl⟩ (fun _ _ _ _ _=>(zar (i:=0) (show List.Nodup (["_law_entry","_law_before"]:List Str) by decide +kernel) rfl (Or.inl rfl))) (fun _ _ _ _ _=>(zcC (zav (zg5 (Int×Int) (huD hr)) (pv 0) (pv 1) (by with_unfolding_all rfl)))) (fun _ _ _ _ _=>(pv 0))) zad)))))),?_⟩
 refine ⟨_,rfl,a,rfl,⟨_,SqL.of ha⟩,fun g hg=>?_⟩;refine zi8 hg ha hes hez hb hfs fun gw H1 s1 h1 hw1=>?_;refine ⟨_,rfl,_,rfl,b,rfl,⟨_,SqL.of (s1 _ _ hb)⟩,fun c hc=>?_⟩;refine zi8 hc (s1 _ _ hb) (hfs.mono s1.ext) hfz (s1 _ _ ha) (hes.mono s1.ext) fun cw H2 s2 h2 hw2=>?_;refine ⟨(by show 2≤sizeLine;decide),fun u hu=>?_⟩;have s3:=zai hu (.tup [.ref g,.ref c]);exact q u g c gw cw _ (s1.free (s2.free hu)) hg (s1.free hc) (s1.trans (s2.trans s3)) zab (s3 _ _ (s2 _ _ h1)) (hw1.mono (s2.trans s3).ext) (s3 _ _ h2) (hw2.mono s3.ext)
def zrt (K:Frag):Sp:=fun vs H Q _=>∃(t pa pf:Addr) (kn:Nat) (qa qf:List Addr) (ps:List Nat) (rows rows':List (List Int)),vs=[.ref t,.ref pa,.ref pf,.int kn]∧H t=some (.tup (zbJ ps))∧zay ps∧zaC rows∧zaC rows'∧ps.length≤60∧(∀ j,j < ps.length+1→(zak ps rows j).length≤900)∧(∀ j,j < ps.length+1→(zak ps rows' j).length≤900)∧kn < ps.length+1∧FA K H pa qa (ps.length+1) (zak ps rows)∧FA K H pf qf (ps.length+1) (zak ps rows')∧
 ∀(D:Addr) (m:Nat) (H':Hp),H D=none→Same H H'→zik ps rows rows' kn m→Rep.has K H' (zbZ ps rows rows' kn m) (.ref D)→Q (.ref D) H'
theorem zi7 {ps:List Nat}{rows rows':List (List Int)}(T:zay ps)(R:zaC rows)(R':zaC rows'){j:Nat}(hj:j < ps.length+1):zak ps rows j=zak ps rows' j↔zaL (zak ps rows j) (zak ps rows' j)=[]∧zaL (zak ps rows' j) (zak ps rows j)=[]:=by
 constructor
 ·intro z;rw[z,zi6];exact ⟨rfl,rfl⟩
 ·rintro ⟨z1,z2⟩;exact (zh5 (zaF T R hj) (zaF T R' hj) z1 z2).symm
theorem zrU (T:Txt K mg)(D_l_told_due:DF K mg "_law_told_due" zcQ zco)(F_l_differ:FC P w K mg base 1 "_law_differ" zdl (zkt K)):FC P w K mg base 2 "_law_told_due" zco (zrt K):=by
 refine D_l_told_due.ok sc_l_told_due (fun vs H Q E h=>?_) (fun f cdv A outer s H vs Q E hr h=>?_)
 ·obtain ⟨t,pa,pf,kn,qa,qf,ps,rows,rows',rfl,_⟩:=h;rfl
 obtain ⟨t,pa,pf,kn,qa,qf,ps,rows,rows',rfl,ht,T',R,R',hps,hz,hz',hk,FA1,FA2,q⟩:=h;refine ⟨_,(zah (zas (i:=4) sc_l_told_due.nd rfl (Or.inl rfl) (zca zad))
   (zah (zf1 PassesOwn.never (PW.pt (zg1 (zav zjF (pv 3) zkG (zaH _)) (zfn (zav (zg6 (List (Int×Int)) (huD hr)) (zaD zaI (pv 1) (pv 3) (fun _ _=>rfl)) (zaD zaI (pv 2) (pv 3) (fun _ _=>rfl)) (zaH _))))) (zah (zdx (zaA F_l_differ hr (zaa (zaD zaI (pv 1) (pv 3) (fun _ _=>rfl)) (zaa (zaD zaI (pv 2) (pv 3) (fun _ _=>rfl)) zad))) (zg3 rfl (zbt (zar (i:=5) sc_l_told_due.nd rfl (Or.inl rfl)) (zbt (zar (i:=6) sc_l_told_due.nd rfl (Or.inl rfl)) zfq))))
   (zah (zbi (zeW F.plainAttrs_list F.slot_list_append F.type_list_append zaU (pv 4) (zaa (za6 (zaa (pv 3) (zaa (pv 5) (zaa (pv 6) zad)))) zad)))
   (zae (zas (i:=3) sc_l_told_due.nd rfl (Or.inl rfl) (zaD zaO (pv 0) (pv 3) (fun _ _=>rfl)))))))
   (zae (zau (pv 4))))),?_⟩
 refine ⟨(by show 0≤sizeLine;decide),fun D hD=>?_⟩;refine zga (fun σ H2=>∃(us:List V) (m:Nat) (x5 x6:Option V),σ=[some (.ref t),some (.ref pa),some (.ref pf),some (upV (upN ps kn m)),some (.ref D),x5,x6]∧Goes ps rows rows' kn m∧But D H H2∧H2 D=some (.lst us)∧zal K (dl [D] H2) (zbZ ps rows rows' kn m) us)
  (fun σ H2=>∃(us:List V) (m:Nat) (x5 x6:Option V),σ=[some (.ref t),some (.ref pa),some (.ref pf),some (upV (upN ps kn m)),some (.ref D),x5,x6]∧zik ps rows rows' kn m∧But D H H2∧H2 D=some (.lst us)∧zal K (dl [D] H2) (zbZ ps rows rows' kn m) us)
  (fun σ _=>match σ with | _::_::_::some (.int j)::_=>j.toNat+1 | _=>0) ?_ ?_ ?_ ?_
 ·exact ⟨[],0,_,_,rfl,fun m' j h=>absurd h (ybO _),fun b o n e=>(by rw[zag n];exact e),zab,.nil⟩
 ·rintro σ H2 ⟨us,m,x5,x6,rfl,hg,k2,h2,hu⟩;cases eu:upN ps kn m with
  | none=>
   refine ⟨_,rfl,rfl,_,rfl,?_⟩;refine iteF ?_;refine iteF ?_;exact ⟨us,m,x5,x6,by rw[eu],⟨hg,.inl eu⟩,k2,h2,hu⟩
  | some j=>
   have hj:=zgc T' hk eu;have s2:Same H H2:=fun b o e=>k2 b o (zac e hD) e;obtain ⟨q1,w1,a1,b1,c1⟩:=(FA1.ext s2.ext).at hj;obtain ⟨q2,w2,a2,b2,c2⟩:=(FA2.ext s2.ext).at hj;refine ⟨_,rfl,rfl,_,rfl,?_⟩;refine iteT ?_;refine ⟨_,rfl,_,rfl,_,_,_,_,rfl,rfl,SqL.of (s2 _ _ FA1.at_),zbI a1,_,rfl,_,rfl,_,_,_,_,rfl,rfl,SqL.of (s2 _ _ FA2.at_),zbI a2,zak ps rows j,zak ps rows' j,⟨q1,w1,rfl,SqL.of b1,c1⟩,⟨q2,w2,rfl,SqL.of b2,c2⟩,_,rfl,?_⟩;by_cases c:zak ps rows j=zak ps rows' j
   ·refine ziZ c ?_;exact ⟨us,m,x5,x6,by rw[eu],⟨hg,.inr ⟨j,eu,(zi7 T' R R' hj).mp c⟩⟩,k2,h2,hu⟩
   refine zse c ?_;refine ⟨_,rfl,_,rfl,_,_,_,_,rfl,rfl,SqL.of (s2 _ _ FA1.at_),zbI a1,_,rfl,_,rfl,_,_,_,_,rfl,rfl,SqL.of (s2 _ _ FA2.at_),zbI a2,q1,q2,w1,w2,_,_,rfl,b1,c1,hz j hj,b2,c2,hz' j hj,fun u g c' gw cw H3 hu3 hg3 hc3 s3 h3u h3g hgw h3c hcw=>?_⟩;refine ⟨u,_,rfl,SqT.of h3u,rfl,_,_,rfl,_,_,rfl,rfl,?_⟩;have D3:=s3 _ _ h2;refine ⟨_,rfl,.inl ⟨rfl,_,SqL.of D3⟩,_,rfl,_,rfl,_,rfl,(by show 3≤sizeLine;decide),fun v hv=>?_⟩;have s4:=zai hv (.tup [upV (some j),.ref g,.ref c']);have v4:upd H3 v (.tup [upV (some j),.ref g,.ref c']) v=some (.tup [upV (some j),.ref g,.ref c']):=zab;have D4:=s4 _ _ D3;have nvD:v≠D:=fun z=>by rw[z,D3]at hv;cases hv
   have ul:=hu.length;have tl:=(zhA (rows:=rows) (rows':=rows') (k:=kn) T' m).2;change upd H3 v (.tup [upV (some j),.ref g,.ref c']) D=_ at D4;refine ⟨_,_,_,rfl,rfl,D4,zao (by omega),?_⟩;generalize upd H3 v (.tup [upV (some j),.ref g,.ref c'])=H4 at s4 v4 D4 ⊢;have k5:But D H4 (upd H4 D (.lst (us++[.ref v]))):=fun b o n e=>by rw[zag n];exact e
   have nl:∀{b:Addr} {o:HO},b≠D→H3 b=some o→dl [D] (upd H4 D (.lst (us++[.ref v]))) b=some o:=fun {b o} n e=>zj0 (k5 _ _ n (s4 _ _ e)) (fun z=>n (yal.mp z));have tp:Tp H3 (dl [D] (upd H4 D (.lst (us++[.ref v])))):=fun b ws e=>nl (fun z=>by rw[z,D3]at e;cases e) e
   refine ⟨_,rfl,_,rfl,_,_,_,_,rfl,rfl,SqT.of (k5 _ _ (fun z=>by rw[z,hD]at ht;cases ht) (s4 _ _ (s3 _ _ (s2 _ _ ht)))),zet hj,?_⟩
   refine ⟨⟨us++[.ref v],m+1,some (.ref g),some (.ref c'),?_,fun m' i hm' hi=>?_,fun b o n e=>k5 b o n (s4 _ _ (s3 _ _ (k2 b o n e))),zab,?_⟩,?_⟩
   ·rw[zhx eu,zhS];rfl
   ·rcases ybK m' m with y | y
    ·exact hg m' i y hi
    ·have:m'=m:=by omega
     subst this;rw[eu]at hi;have:=yad hi;subst this;exact fun z=>c ((zi7 T' R R' hj).mpr z)
   ·show zal K _ (zbZ ps rows rows' kn m++((upN ps kn m).map (zlh ps rows rows')).toList) _;rw[eu];refine zal.append (hu.mono (Same.ext ?_)) (.one ⟨v,_,_,_,rfl,zj0 (k5 _ _ nvD v4) (fun z=>nvD (yal.mp z)),rfl,⟨g,gw,rfl,SqL.of (nl (fun z=>by rw[z,h2]at hg3;cases hg3) h3g),zbl tp hgw⟩,⟨c',cw,rfl,SqL.of (nl (fun z=>by rw[z,h2]at hc3;cases hc3) h3c),zbl tp hcw⟩⟩)
    exact (ze8 (KpV.of (s3.trans s4))).trans (zsq k5)
   ·rw[zhS];cases ep:par ps j with
    | none=>exact Nat.succ_pos _
    | some i=>
     have:=(zaM T' ep).1;show ((i:Int)).toNat+1 < ((j:Int)).toNat+1;omega
 ·refine ziy (fun σ H Q Q' m h=>?_) (fun σ H Q Q' m h=>?_)
  ·obtain ⟨y1,e1,e3,b,e4,q⟩:=h;exact ⟨y1,e1,e3,b,e4,m _ _ q⟩
  ·obtain ⟨y1,e1,y2,e2,a1,i1,xs1,z1,f1,f2,f3,f4,y3,e3,y4,e4,a2,i2,xs2,z2,g1,g2,g3,g4,l1,l2,ha,hb,b,eb,q⟩:=h;exact ⟨y1,e1,y2,e2,a1,i1,xs1,z1,f1,f2,f3,f4,y3,e3,y4,e4,a2,i2,xs2,z2,g1,g2,g3,g4,l1,l2,ha,hb,b,eb,m _ _ q⟩
 ·rintro σ H2 ⟨us,m,x5,x6,rfl,hst,k2,h2,hu⟩;refine ⟨_,rfl,?_⟩;exact q D m H2 hD (fun b o e=>k2 b o (zac e hD) e) hst ⟨D,us,rfl,SqL.of h2,hu.mono zgy.ext⟩
theorem zjq {K:Frag}{H:Hp}{D:Addr}{Fr:Addr→Prop}{es:List ToT}{us:List V}{i:Nat}{v:V}(h:za8 K H D Fr es us)(e:us[i]?=some v):∃(e:ToT) (u g c:Addr) (gw cw:List V),es[i]?=some e∧v=.ref u∧H u=some (.tup [.int e.a,.ref g,.ref c])∧H g=some (.lst gw)∧zal K H e.b gw∧H c=some (.lst cw)∧zal K H e.c cw∧g≠D∧c≠D∧Fr g∧Fr c:=by
 induction h generalizing i with
 | nil=>simp at e
 | cons a _ ih=>
  cases i with
  | zero=>
   cases e
   obtain ⟨u,g,c,gw,cw,h⟩:=a.ex;exact ⟨_,u,g,c,gw,cw,rfl,h⟩
  | succ i=>exact ih e
theorem za8.has {K:Frag}{H:Hp}{D:Addr}{Fr:Addr→Prop}{es:List ToT}{us:List V}(h:za8 K H D Fr es us):zal K H es us:=zqG (fun e v z=>by
 obtain ⟨u,g,c,gw,cw,e1,e2,e3,e4,e5,e6,_⟩:=z.ex;exact ⟨u,_,_,_,e1,e2,rfl,⟨g,gw,rfl,SqL.of e3,e4⟩,⟨c,cw,rfl,SqL.of e5,e6⟩⟩) h
theorem zoo {K:Frag}{H:Hp}{es:List En}{ws:List V}{i:Nat}{x:V}(h:zal K H es ws)(hx:ws[i]?=some x):∃(b:Addr) (zs:List V),x=.ref b∧H b=some (.tup zs):=by
 obtain ⟨e,h1,b,y1,y2,rfl,hb,f1,f2⟩:=h.get hx;exact ⟨b,_,rfl,hb⟩
def zmv (K:Frag):Sp:=fun vs H Q _=>∃(D U:Addr) (us:List V) (es:List ToT) (Fr:Addr→Prop),vs=[.ref D,.ref U]∧H D=some (.lst us)∧za8 K H D Fr es us∧(∀ e∈es,e.b.length+e.c.length≤900)∧Rep.has K H es (.ref U)∧∀ H',Same H H'→Q (.bl true) H'
theorem zoI (T:Txt K mg)(D_l_deed_alike:DF K mg "_law_deed_alike" zb1 zbP):FC P w K mg base 1 "_law_deed_alike" zbP (zmv K):=by
 refine D_l_deed_alike.ok sc_l_deed_alike (fun vs H Q E h=>?_) (fun f cdv A outer s H vs Q E hr h=>?_)
 ·obtain ⟨D,U,us,es,Fr,rfl,_⟩:=h;rfl
 obtain ⟨D,U,us,es,Fr,rfl,hD,hT,hz,hU,q⟩:=h;refine ⟨_,(zaB (zaW (PW.pt (zjB (zbG (zbe (zam zbY rfl T.m_isinstance boot_isinstance (zaa (pv 0) (zaa (zbj (v:=.ty "list") rfl T.m_list boot_list rfl) zad))))) (zgi (zav (zg6 (List (Tri Int (List (Int×Int)) (List (Int×Int)))) (huD hr)) (pv 0) (pv 1) (zaH _))))) (zae (zau zcZ)) zax)
   (zah (za2 PassesOwn.never rfl (zbQ (pv 0)) (zar (i:=2) sc_l_deed_alike.nd rfl (Or.inl rfl)) (zaB (zaW (PW.pt (zjB (zbG (zbe (zam zbY rfl T.m_isinstance boot_isinstance (zaa (pv 2) (zaa (zbj (v:=.ty "tuple") rfl T.m_tuple boot_tuple rfl) zad))))) (zgi (zbe (zam zbY rfl T.m_isinstance boot_isinstance (zaa (zaD zaO (pv 2) zaf (fun _ _=>rfl)) (zaa (zbj (v:=.ty "bool") rfl T.m_bool boot_bool rfl) zad))))))) (zae (zau zcZ)) zax)
   (zaB (zaW (PW.pt (zjB (zbG (zbe (zam zbY rfl T.m_isinstance boot_isinstance (zaa (zaD zaO (pv 2) zaf (fun _ _=>rfl)) (zaa (zbj (v:=.ty "list") rfl T.m_list boot_list rfl) zad))))) (zgi (zbG (zbe (zam zbY rfl T.m_isinstance boot_isinstance (zaa (zaD zaO (pv 2) zaf (fun _ _=>rfl)) (zaa (zbj (v:=.ty "list") rfl T.m_list boot_list rfl) zad)))))))) (zae (zau zcZ)) zax)
   (zae (zaW (zav (zg6 (List Int) (huD hr)) (zbS (N:=["_law_entry"]) (own:=1) (cap:=[]) rfl (zbQ (zaw zmP (zaD zaO (pv 2) zaf (fun _ _=>rfl)) (zaD zaO (pv 2) zaf (fun _ _=>rfl)))) ⟨rfl,rfl,rfl,rfl,rfl,rfl⟩ (fun _ _ _ _ _=>(zar (i:=0) (show List.Nodup (["_law_entry"]:List Str) by decide +kernel) rfl (Or.inl rfl))) (fun _ _ _ _ _=>(zcC (zbG (zbe (zam (zjd (K:=K)) rfl T.m_isinstance boot_isinstance (zaa (pv 0) (zaa (zbj (v:=.ty "tuple") rfl T.m_tuple boot_tuple rfl) zad))))))) (fun _ _ _ _ _=>(pv 0))) (zca zad) (zaH _)) (zae (zau zcZ)) zax)))))
   (zae (zau zcZ)))),?_⟩
 refine ⟨fun σ' H'=>σ'=[some (.ref D),some (.ref U),none]∧H=H',?_,?_⟩
 ·refine ⟨_,rfl,_,_,_,_,rfl,.lst hD,zkV,_,rfl,?_⟩;refine iteF ?_;refine ⟨_,rfl,_,rfl,es,es,⟨D,us,rfl,SqL.of hD,hT.has⟩,hU,_,rfl,?_⟩;refine ziZ (Eq.refl es) ?_;exact ⟨rfl,rfl⟩
 rintro _ _ ⟨rfl,rfl⟩;refine ⟨_,rfl,D,rfl,⟨_,SqL.of hD⟩,?_⟩;refine ze6 (xs:=us) (fun i σ H2=>∃ x2:Option V,σ=[some (.ref D),some (.ref U),x2]∧Same H H2) ?_ ?_ ?_ ?_
 ·exact ⟨_,rfl,fun _ _ e=>e⟩
 ·rintro i σ H2 _ ⟨x2,rfl,s2⟩;exact SqL.of (s2 _ _ hD)
 ·rintro i v σ H2 hv ⟨x2,rfl,s2⟩;obtain ⟨e,u,g,c,gw,cw,he,rfl,hu,hg,hgw,hc,hcw,_⟩:=zjq hT hv;have u2:=s2 _ _ hu;have g2:=s2 _ _ hg;have c2:=s2 _ _ hc;have hbz:=hz e (yaE he);have gl:=hgw.length;have cl:=hcw.length;refine ⟨fun σ' H'=>σ'=[some (.ref D),some (.ref U),some (.ref u)]∧H2=H',?_,?_⟩
  ·refine ⟨_,rfl,_,_,_,_,rfl,.tup u2,ziX,_,rfl,?_⟩;refine iteF ?_;refine ⟨_,rfl,_,_,_,_,rfl,rfl,SqT.of u2,rfl,_,_,_,_,rfl,.int _,zpG,_,rfl,?_⟩;exact iteF ⟨rfl,rfl⟩
  rintro _ _ ⟨rfl,rfl⟩;refine ⟨fun σ' H'=>σ'=[some (.ref D),some (.ref U),some (.ref u)]∧H2=H',?_,?_⟩
  ·refine ⟨_,rfl,_,_,_,_,rfl,rfl,SqT.of u2,rfl,_,_,_,_,rfl,.lst g2,zkV,_,rfl,?_⟩;refine iteF ?_;refine ⟨_,rfl,_,_,_,_,rfl,rfl,SqT.of u2,rfl,_,_,_,_,rfl,.lst c2,zkV,_,rfl,?_⟩;exact iteF ⟨rfl,rfl⟩
  rintro _ _ ⟨rfl,rfl⟩;refine ⟨_,rfl,_,_,_,_,rfl,rfl,SqT.of u2,rfl,_,rfl,_,_,_,_,rfl,rfl,SqT.of u2,rfl,?_⟩;refine ⟨g,c,gw,cw,rfl,rfl,g2,c2,by have:=zao (show gw.length+cw.length≤1000 by omega);omega,fun l hl=>?_⟩;have s3:=zai hl (.lst (gw++cw));have h3:upd H2 l (.lst (gw++cw)) l=some (.lst (gw++cw)):=zab;generalize upd H2 l (.lst (gw++cw))=H3 at s3 h3 ⊢;have hA:=(hgw.append hcw).mono (s2.trans s3).ext;refine ⟨l,rfl,⟨_,SqL.of h3⟩,fun B hB=>?_⟩;refine zbX (xs:=gw++cw) (fun i σ H4=>∃ x0:Option V,σ=[x0]∧H4 B=some (.lst [])∧But B H3 H4) ?_ ?_ ?_ ?_
  ·exact ⟨_,rfl,zab,fun b o n e=>by rw[zag n];exact e⟩
  ·rintro i σ H4 _ ⟨x0,rfl,_,k4⟩;exact SqL.of (k4 _ _ (zac h3 hB) h3)
  ·rintro i m v σ H4 hv hm ⟨x0,rfl,h4,k4⟩;obtain ⟨b,zs,rfl,hb⟩:=zoo hA hv;refine ⟨_,rfl,_,_,_,_,rfl,.tup (k4 _ _ (zac hb hB) hb),ziX,_,rfl,?_⟩;refine iteF ?_;have hi:=(yak.mp hv).1;exact ⟨m - 1,by omega,by omega,_,rfl,h4,k4⟩
  ·rintro σ H4 ⟨x0,rfl,h4,k4⟩;have s4:Same H3 H4:=fun b o e=>k4 b o (zac e hB) e;refine ⟨(by show 0≤sizeLine;decide),fun l2 hl2=>?_⟩;have s5:=zai hl2 (.lst []);refine ⟨([]:List Int),[],⟨B,[],rfl,SqL.of (s5 _ _ h4),.nil⟩,⟨l2,[],rfl,SqL.of zab,.nil⟩,_,rfl,?_⟩;refine ziZ rfl ?_;exact ⟨_,rfl,s2.trans (s3.trans (s4.trans s5))⟩
 ·rintro σ H2 ⟨x2,rfl,s2⟩;exact q _ s2
def zkq (K:Frag)(CS:Addr):Sp:=fun vs H Q _=>∃(sh dx st p t0 r pf:Addr) (la:Nat) (qs qf:List Addr) (ps:List Nat) (rows:List (List Int)) (t rs:Addr) (as asr:List Addr),vs=[.ref sh,.ref t0,.ref r,.ref pf,.int la]∧zaS K CS H sh dx st p qs ps rows t rs as∧H t0=some (.tup (zbJ ps))∧zdS H r asr rows∧FA K H pf qf (ps.length+1) (zak ps rows)∧la < ps.length+1∧
 ∀ H',Same H H'→Q (.bl true) H'
theorem zmS (T:Txt K mg){CS:Addr}(O:OwnC K mg CS)(D_l_stands:DF K mg "_law_stands" zd0 zdk)(F_Shelf_full:FM P w K mg base CS 4 "full" zcp (zmt K CS))(F_Shelf_stand:FM P w K mg base CS 1 "stand" zb3 (zml CS)):FC P w K mg base 5 "_law_stands" zdk (zkq K CS):=by
 refine D_l_stands.ok sc_l_stands (fun vs H Q E h=>?_) (fun f cdv A outer s H vs Q E hr h=>?_)
 ·obtain ⟨sh,dx,st,p,t0,r,pf,la,qs,qf,ps,rows,t,rs,as,asr,rfl,_⟩:=h;rfl
 obtain ⟨sh,dx,st,p,t0,r,pf,la,qs,qf,ps,rows,t,rs,as,asr,rfl,S,ht,R,F2,hla,q⟩:=h;refine ⟨_,(zaB (zaW (zav (zg6 (List (Int×Int)) (huD hr)) (ziK F_Shelf_full O.cl hr (pv 0) (zaa (pv 4) zad)) (zaD zaI (pv 3) (pv 4) (fun _ _=>rfl)) (zaH _)) (zae (zau zcZ)) zax)
   (zah (zas (i:=5) sc_l_stands.nd rfl (Or.inl rfl) (zrG F_Shelf_stand O.cl hr (pv 0)))
   (zaB (zaW (PW.pt (zjB (zbG (zbe (zam zbY rfl T.m_isinstance boot_isinstance (zaa (pv 5) (zaa (zbj (v:=.ty "tuple") rfl T.m_tuple boot_tuple rfl) zad))))) (zgi (zav (zg6 ((Tup (Option Int)×Tup (Tup Int))) (huD hr)) (pv 5) (za6 (zaa (pv 1) (zaa (pv 2) zad))) (zaH _))))) (zae (zau zcZ)) zax)
   (zaB (zaW (PW.pt (zjB (zbG (zbe (zam zbY rfl T.m_isinstance boot_isinstance (zaa (zaD zaO (pv 5) zaf (fun _ _=>rfl)) (zaa (zbj (v:=.ty "tuple") rfl T.m_tuple boot_tuple rfl) zad))))) (zgi (zav zlt (zam zan rfl T.m_len boot_len (zaa (zbS (N:=["_law_row_here"]) (own:=1) (cap:=[]) rfl (zdF (zaD zaO (pv 5) zaf (fun _ _=>rfl))) ⟨rfl,rfl,rfl,rfl,rfl,rfl⟩ (fun _ _ _ _ _=>(zar (i:=0) (show List.Nodup (["_law_row_here"]:List Str) by decide +kernel) rfl (Or.inl rfl))) (fun _ _ _ _ _=>(zcC (zbG (zbe (zam (zjd (K:=K)) rfl T.m_isinstance boot_isinstance (zaa (pv 0) (zaa (zbj (v:=.ty "tuple") rfl T.m_tuple boot_tuple rfl) zad))))))) (fun _ _ _ _ _=>(pv 0))) zad)) zaf (zaH _))))) (zae (zau zcZ)) zax)
   (zah (za2 PassesOwn.never rfl (zaY rfl T.m_range (zaa (zam zan rfl T.m_len boot_len (zaa (pv 1) zad)) zad)) (zar (i:=6) sc_l_stands.nd rfl (Or.inl rfl)) (zae (za2 PassesOwn.never rfl (zaY rfl T.m_range (zaa zaf zad)) (zar (i:=7) sc_l_stands.nd rfl (Or.inl rfl)) (zah (zas (i:=8) sc_l_stands.nd rfl (Or.inl rfl) (ziK F_Shelf_full O.cl hr (pv 0) (zaa (pv 6) zad)))
   (zaB (zaW (PW.pt (zjB (zbG (zbe (zam zbY rfl T.m_isinstance boot_isinstance (zaa (pv 8) (zaa (zbj (v:=.ty "list") rfl T.m_list boot_list rfl) zad))))) (zgi (zav (zg6 (List (Int×Int)) (huD hr)) (pv 8) (zaD zaI (pv 3) (pv 6) (fun _ _=>rfl)) (zaH _))))) (zae (zau zcZ)) zax)
   (zae (zbi (zeW F.plainAttrs_list F.slot_list_append F.type_list_append zaU (pv 8) (zaa (za6 (zaa zaf (zaa zaf zad))) zad)))))))))
   (zae (zau zcZ))))))),?_⟩
 have el:=zat ps;have hfew:=S.stand.few;have hfz:∀ j,j < ps.length+1→(zak ps rows j).length≤900:=fun j hj=>by
  have:=zdt S.stand.T S.stand.len hj;have:=S.stand.keys;omega
 refine ⟨fun σ' H'=>σ'=[some (.ref sh),some (.ref t0),some (.ref r),some (.ref pf),some (.int la),none,none,none,none]∧Same H H',?_,?_⟩
 ·refine ⟨_,rfl,sh,dx,_,rfl,S.ins,rfl,_,rfl,sh,dx,st,p,la,qs,ps,rows,t,rs,as,rfl,S,hla,fun B ws hB hw=>?_⟩;have s1:=zai hB (.lst ws);obtain ⟨q2,w2,a2,b2,c2⟩:=(F2.ext s1.ext).at hla;refine ⟨_,rfl,_,rfl,_,_,_,_,rfl,rfl,SqL.of (s1 _ _ F2.at_),zbI a2,zak ps rows la,zak ps rows la,⟨B,ws,rfl,SqL.of zab,hw.mono s1.ext⟩,⟨q2,w2,rfl,SqL.of b2,c2⟩,_,rfl,?_⟩;refine ziZ (Eq.refl (zak ps rows la)) ?_;exact ⟨rfl,s1⟩
 rintro _ H1 ⟨rfl,s1⟩;have S1:=S.same s1;refine ⟨_,rfl,sh,dx,_,rfl,S1.ins,rfl,sh,dx,st,p,rfl,S1.ins,?_⟩;refine ⟨fun σ' H'=>σ'=[some (.ref sh),some (.ref t0),some (.ref r),some (.ref pf),some (.int la),some (.ref st),none,none,none]∧Same H1 H',?_,?_⟩
 ·refine ⟨_,rfl,_,_,_,_,rfl,.tup S1.stand.st,ziX,_,rfl,?_⟩;refine iteF ?_;refine ⟨_,rfl,_,rfl,_,rfl,(by show 2≤sizeLine;decide),fun u hu=>?_⟩;have su:=zai hu (.tup [.ref t0,.ref r]);have Ru:=R.tp fun b us e=>su _ _ (s1 _ _ e);refine ⟨zge ps rows,zge ps rows,ziz (S1.stand.same su),⟨u,_,_,rfl,zab,⟨_,_,rfl,SqT.of (su _ _ (s1 _ _ ht)),zhz ps⟩,⟨_,_,rfl,SqT.of Ru.at_,zfZ Ru.rows⟩⟩,_,rfl,?_⟩;refine ziZ (Eq.refl (zge ps rows)) ?_;exact ⟨rfl,su⟩
 rintro _ H2 ⟨rfl,s2⟩;have s02:=s1.trans s2;have S2:=S1.same s2;refine ⟨fun σ' H'=>σ'=[some (.ref sh),some (.ref t0),some (.ref r),some (.ref pf),some (.int la),some (.ref st),none,none,none]∧Same H2 H',?_,?_⟩
 ·refine ⟨_,rfl,_,_,_,_,rfl,rfl,SqT.of S2.stand.st,rfl,_,_,_,_,rfl,.tup S2.stand.rs,ziX,_,rfl,?_⟩;refine iteF ?_;refine ⟨_,rfl,_,_,_,_,rfl,rfl,SqT.of S2.stand.st,rfl,rs,rfl,⟨_,SqT.of S2.stand.rs⟩,fun B hB=>?_⟩;refine zdv (xs:=as.map V.ref) (fun i σ H4=>∃ x0:Option V,σ=[x0]∧H4 B=some (.lst [])∧But B H2 H4) ?_ ?_ ?_ ?_
  ·exact ⟨_,rfl,zab,fun b o n e=>by rw[zag n];exact e⟩
  ·rintro i σ H4 _ ⟨x0,rfl,_,k4⟩;exact SqT.of (k4 _ _ (zac S2.stand.rs hB) S2.stand.rs)
  ·rintro i m v σ H4 hv hm ⟨x0,rfl,h4,k4⟩;rw[yar]at hv;obtain ⟨b,hb,rfl⟩:=ybq.mp hv;have hi:=(yak.mp hb).1;rw[yab]at hm;obtain ⟨b',e1,e2⟩:=S2.stand.at_.get (k:=i) (by rw[← S2.stand.at_.length];exact hi);rw[hb]at e1;cases e1
   refine ⟨_,rfl,_,_,_,_,rfl,.tup (k4 _ _ (zac e2 hB) e2),ziX,_,rfl,?_⟩;refine iteF ?_;exact ⟨m - 1,by omega,by rw[yab];omega,_,rfl,h4,k4⟩
  ·rintro σ H4 ⟨x0,rfl,h4,k4⟩;have s4:Same H2 H4:=fun b o e=>k4 b o (zac e hB) e;refine ⟨_,_,rfl,.inl (SqL.of h4),_,_,rfl,rfl,_,rfl,?_⟩;exact iteF ⟨rfl,s4⟩
 rintro _ H3 ⟨rfl,s3⟩;have s03:=s02.trans s3;refine ⟨_,rfl,_,_,rfl,.inr (SqT.of (s03 _ _ ht)),_,rfl,by omega,by omega,?_⟩;rw[el,ya5];refine za0 (n:=ps.length+1) (fun i σ H4=>∃ x6 x7 x8:Option V,σ=[some (.ref sh),some (.ref t0),some (.ref r),some (.ref pf),some (.int la),some (.ref st),x6,x7,x8]∧Same H3 H4) ?_ ?_ ?_
 ·exact ⟨_,_,_,rfl,fun _ _ e=>e⟩
 ·rintro i σ H4 hi ⟨x6,x7,x8,rfl,s4⟩;rw[ybe];refine ⟨2,rfl,by decide,by decide,?_⟩;refine za0 (n:=2) (fun j σ H5=>∃ x7 x8:Option V,σ=[some (.ref sh),some (.ref t0),some (.ref r),some (.ref pf),some (.int la),some (.ref st),some (.int i),x7,x8]∧Same H4 H5) ?_ ?_ ?_
  ·exact ⟨_,_,rfl,fun _ _ e=>e⟩
  ·rintro j σ H5 hj ⟨x7,x8,rfl,s5⟩;have s05:=s03.trans (s4.trans s5);have S5:=S.same s05;refine ⟨_,rfl,sh,dx,_,rfl,S5.ins,rfl,_,rfl,sh,dx,st,p,i,qs,ps,rows,t,rs,as,rfl,S5,hi,fun B ws hB hw=>?_⟩;have s6:=zai hB (.lst ws);have h6:upd H5 B (.lst ws) B=some (.lst ws):=zab;have hw6:=hw.mono s6.ext;generalize upd H5 B (.lst ws)=H6 at s6 h6 hw6 ⊢;obtain ⟨q2,w2,a2,b2,c2⟩:=(F2.ext (s05.trans s6).ext).at hi;have wl:=hw.length;have:=hfz i hi;refine ⟨fun σ' H'=>σ'=[some (.ref sh),some (.ref t0),some (.ref r),some (.ref pf),some (.int la),some (.ref st),some (.int i),some (.int (0+(j:Int))),some (.ref B)]∧H6=H',?_,?_⟩
   ·refine ⟨_,rfl,_,_,_,_,rfl,.lst h6,zkV,_,rfl,?_⟩;refine iteF ?_;refine ⟨_,rfl,_,rfl,_,rfl,_,_,_,_,rfl,rfl,SqL.of (s6 _ _ (s05 _ _ F2.at_)),zbI a2,zak ps rows i,zak ps rows i,⟨B,ws,rfl,SqL.of h6,hw6⟩,⟨q2,w2,rfl,SqL.of b2,c2⟩,_,rfl,?_⟩;refine ziZ (Eq.refl (zak ps rows i)) ?_;exact ⟨rfl,rfl⟩
   rintro _ _ ⟨rfl,rfl⟩;refine ⟨_,rfl,.inl ⟨rfl,_,SqL.of h6⟩,(by show 2≤sizeLine;decide),fun v hv=>?_⟩;have s7:=zai hv (.tup [.int 0,.int 0]);refine ⟨_,_,_,rfl,rfl,s7 _ _ h6,zao (by omega),_,_,rfl,fun b o e=>?_⟩;have e5:=s5 _ _ e;rw[zag (zac e5 hB)];exact s7 _ _ (s6 _ _ e5)
  ·rintro σ H5 ⟨x7,x8,rfl,s5⟩;exact ⟨_,_,_,rfl,s4.trans s5⟩
 ·rintro σ H4 ⟨x6,x7,x8,rfl,s4⟩;exact q _ (s03.trans s4)
theorem zph {Av:List Addr}{H:Hp}(all:∀ b∈Av,∃ o,H b=some o∧∀ us,o≠.tup us):zpl Av H:=by
 refine ⟨fun b hb z=>?_,fun b hb us z=>?_⟩
 ·obtain ⟨o,e,_⟩:=all b hb;rw[e]at z;cases z
 ·obtain ⟨o,e,n⟩:=all b hb;rw[e]at z;exact n us (yad z)
structure SNow (K:Frag)(CS mp a:Addr)(H:Hp)(d sh p:Addr)(qs:List Addr)(ps:List Nat)(rows:List (List Int)):Prop where
 shelf:∃ dx st t rs as,zaS K CS H sh dx st p qs ps rows t rs as
 tab:zbo H mp zdL lamQ
 ls:LS K a d (dl [sh,p,mp] H)
section
variable {K:Frag}{CS mp a d sh p:Addr}{H H':Hp}{qs:List Addr}{ps:List Nat}{rows:List (List Int)}
theorem SNow.lsH (h:SNow K CS mp a H d sh p qs ps rows):LS K a d H:=h.ls.same zgy
theorem SNow.apart (h:SNow K CS mp a H d sh p qs ps rows):zpl [d,sh,p,mp] H:=by
 obtain ⟨dx,st,t,rs,as,S⟩:=h.shelf;obtain ⟨ns,x,l,e,_⟩:=h.lsH.ex;obtain ⟨tab,e2,_⟩:=h.tab.ex;refine zph fun b hb=>?_;simp only[yam,ybm,or_false]at hb;rcases hb with rfl | rfl | rfl | rfl
 ·exact ⟨_,e,fun _ z=>by cases z⟩
 ·exact ⟨_,S.ins,fun _ z=>by cases z⟩
 ·exact ⟨_,S.full.at_,fun _ z=>by cases z⟩
 ·exact ⟨_,e2,fun _ z=>by cases z⟩
theorem SNow.same (h:SNow K CS mp a H d sh p qs ps rows)(s:Same H H'):SNow K CS mp a H' d sh p qs ps rows:=by
 obtain ⟨dx,st,t,rs,as,S⟩:=h.shelf;exact ⟨⟨dx,st,t,rs,as,S.same s⟩,h.tab.ext s.ext,h.ls.same (ze8 (KpV.of s))⟩
theorem SNow.take (h:SNow K CS mp a H d sh p qs ps rows)(k:Keep d H H')(s:LS K a d H'):SNow K CS mp a H' d sh p qs ps rows:=by
 obtain ⟨dx,st,t,rs,as,S⟩:=h.shelf;have e:=h.lsH.ext k;exact ⟨⟨dx,st,t,rs,as,S.ext e⟩,h.tab.ext e,zqy h.ls k s⟩
theorem zjS (k:Keep d H H'):KpV [d,sh,p,mp] H H':=fun b o n e=>k b o (fun z=>n (z ▸ yaD)) e
theorem SNow.new {H0:Hp}{dx st t rs:Addr}{as:List Addr}(s0:LS K a d H0)(hT:zbo H0 mp zdL lamQ)(s:Same H0 H)(hsh:H0 sh=none)(hp:H0 p=none)(S:zaS K CS H sh dx st p qs ps rows t rs as):SNow K CS mp a H d sh p qs ps rows:=by
 refine ⟨⟨dx,st,t,rs,as,S⟩,hT.ext s.ext,zr1 s0 fun b o n e=>zj0 (s _ _ e) fun z=>?_⟩;simp only[yam,ybm,or_false]at z;rcases z with rfl | rfl | rfl
 ·rw[hsh]at e;cases e
 ·rw[hp]at e;cases e
 ·obtain ⟨tab,e2,_⟩:=hT.ex;rw[e2]at e;exact n _ (yad e).symm
end
theorem zso {K:Frag}{H:Hp}{p:Addr}{qs:List Addr}{n:Nat}{f:Nat→List En}{Av:List Addr}(F:FA K H p qs n f)(A:zil Av H)(h1:p∉Av)(h2:∀ q∈qs,q∉Av):FA K (dl Av H) p qs n f:=
 ⟨zj0 F.at_ h1,F.len,F.nd,F.np,fun j q hq=>by
  obtain ⟨ws,g1,g2⟩:=F.get j q hq;exact ⟨ws,zj0 g1 (h2 q (yaE hq)),zbl A.tp g2⟩⟩
theorem zne {m:Nat}:∀{rows:List (List Int)},(∀ row∈rows,row.length≤m)→zbT rows≤rows.length * m
 | [],_=>yaC _
 | r::rows,h=>by
  have h1:=h r yaD;have h2:=zne (m:=m) (rows:=rows) fun x hx=>h x (yaF _ hx);unfold zbT at h2 ⊢;rw[yau,yaJ,yaL,Nat.succ_mul];omega
theorem zkB {rows:List (List Int)}(k:Nat):(zap rows k).length≤zbT rows:=by
 unfold zap;rw[yae];cases e:rows[k]? with
 | none=>exact yaC _
 | some r=>exact ze3 (yaE e)
def zrV (b:Bool)(rows:List (List Int))(kn:Nat)(x:Int):Prop:=(b=true→zqs rows kn x)∧(b=false→zqt rows kn x)
theorem zm1 {b:Bool}{rows:List (List Int)}{kn:Nat}{x:Int}(hb:b=!decide (x∈zap rows kn))(hk:zbT rows < 300):zrV b rows kn x:=
 ⟨fun z=>⟨fun y=>(by rw[z,yag y]at hb;cases hb),hk⟩,fun z=>show x∈zap rows kn from Classical.byContradiction fun y=>by rw[z,yah y]at hb;cases hb⟩
theorem za8.same {K:Frag}{H H':Hp}{D:Addr}{Fr:Addr→Prop}{es:List ToT}{us:List V}(h:za8 K H D Fr es us)(s:Same H H'):za8 K H' D Fr es us:=za8.keep (fun b o _ _ e=>s _ _ e) (fun b us e=>s _ _ e) h
theorem zkl {ps:List Nat}{rows rows':List (List Int)}{k:Nat}{e:ToT}:∀{m:Nat},e∈zbZ ps rows rows' k m→∃ m' j,upN ps k m'=some j∧e=zlh ps rows rows' j
 | 0,h=>by cases h
 | m+1,h=>by
  rcases yaj.mp h with h | h
  ·exact zkl h
  ·cases e':upN ps k m with
   | none=>rw[e']at h;cases h
   | some j=>
    rw[e']at h;exact ⟨m,j,e',yal.mp h⟩
theorem zlg {ps:List Nat}{rows rows':List (List Int)}{k m n:Nat}(T:zay ps)(hk:k < ps.length+1)(h1:∀ j,j < ps.length+1→(zak ps rows j).length≤n)(h2:∀ j,j < ps.length+1→(zak ps rows' j).length≤n):∀ e∈zbZ ps rows rows' k m,e.b.length≤n∧e.c.length≤n:=fun e he=>by
 obtain ⟨m',j,h,rfl⟩:=zkl he;have hj:=zgc T hk h;exact ⟨yao (ya3 _ _) (h1 j hj),yao (ya3 _ _) (h2 j hj)⟩
theorem zaS.mut {K:Frag}{CS:Addr}{H H':Hp}{sh dx st p:Addr}{qs:List Addr}{ps:List Nat}{rows:List (List Int)}{t rs:Addr}{as:List Addr}(S:zaS K CS H sh dx st p qs ps rows t rs as)(k:∀ b o,H b=some o→(b=p∨b∈qs∨∀ us,o≠.lst us)→H' b=some o):zaS K CS H' sh dx st p qs ps rows t rs as:=by
 have tp:Tp H H':=fun b us e=>k _ _ e (.inr (.inr (fun _ z=>nomatch z)));refine ⟨k _ _ S.own (.inr (.inr (fun _ z=>nomatch z))),k _ _ S.ins (.inr (.inr (fun _ z=>nomatch z))),zcj tp S.stand,k _ _ S.full.at_ (.inl rfl),S.full.len,S.full.nd,S.full.np,fun j q hq=>?_⟩;obtain ⟨ws,h1,h2⟩:=S.full.get j q hq;exact ⟨ws,k _ _ h1 (.inr (.inl (yaE hq))),zbl tp h2⟩
theorem zpU {H H':Hp}{Pt:Addr}{pos:Pos}{q:Str}(x:zbo H Pt pos q)(k:∀ b o,H b=some o→(∀ us,o≠.lst us)→H' b=some o):zbo H' Pt pos q:=by
 obtain ⟨tab,e1,e2,e3⟩:=x.ex;refine ⟨tab,k _ _ e1 (fun _ z=>nomatch z),e2,?_⟩;rcases e3 with e3 | ⟨c,e3,e4⟩
 ·exact .inl e3
 ·exact .inr ⟨c,e3,k _ _ e4 (fun _ z=>nomatch z)⟩
structure TupI (H:Hp)(t st t' rs r0 r:Addr)(as as0 asr:List Addr)(ps:List Nat)(rows0 rows:List (List Int)):Prop where
 tree:H t=some (.tup (zbJ ps))
 first:zbx H st ps rows0 t' rs as
 start:zdS H r0 as0 rows0
 now:zdS H r asr rows
theorem TupI.tp {H H':Hp}{t st t' rs r0 r:Addr}{as as0 asr:List Addr}{ps:List Nat}{rows0 rows:List (List Int)}(h:TupI H t st t' rs r0 r as as0 asr ps rows0 rows)(e:Tp H H'):TupI H' t st t' rs r0 r as as0 asr ps rows0 rows:=⟨e _ _ h.tree,zcj e h.first,h.start.tp e,h.now.tp e⟩
def ziC (K:Frag)(mp:Addr):Sp:=fun vs H Q _=>∃(a:Addr) (ns:List Int),vs=[.ref a]∧SqL K H a (ns.map V.int)∧ns.length≤63∧H mp=some (.tbl #[])∧∀ H',Q (.bl true) H'
theorem zrQ (T:Txt K mg){mp:Addr}{CS:Addr}(O:OwnC K mg CS)(D_law:DF K mg "law" zoa zkE)(F_l_begin:FC P w K mg base 1 "_law_begin" zeb (zmu K))(F_l_take:FC P w K mg base 2 "_law_take" zbO (zgf K))(F_l_tree:FC P w K mg base 3 "_law_tree" zeP (zpt K))(F_l_rows:FC P w K mg base 5 "_law_rows" zeR (zpv K))(F_tree_of:FC P w K mg base 3 "tree_of" zd7 (zkp K))(F_stand_of:FC P w K mg base 4 "stand_of" zdh (ziB K))(F_Shelf:FI P w K mg base CS 9 zbs (zmr K CS))(F_l_fulls:FC P w K mg base 3 "_law_fulls" zea (zks K))(F_l_stands:FC P w K mg base 5 "_law_stands" zdk (zkq K CS))(F_l_step:FC P w K mg base 4 "_law_step" zeQ (zpu K))(F_l_behind:FC P w K mg base 1 "_law_behind" zdm (zkw K))(F_l_told_due:FC P w K mg base 2 "_law_told_due" zco (zrt K))(F_l_deed_alike:FC P w K mg base 1 "_law_deed_alike" zbP (zmv K))(F_Shelf_put:FM P w K mg base CS 8 "put" zcU (zku K CS mp putR zqs))(F_Shelf_out:FM P w K mg base CS 8 "out" zcV (zku K CS mp outR zqt)):FC P w K mg base 11 "law" zkE (ziC K mp):=by
 refine D_law.ok sc_law (fun vs H Q E h=>?_) (fun f cdv A outer s H vs Q E hr h=>?_)
 ·obtain ⟨a,ns,rfl,_⟩:=h;rfl
 obtain ⟨a,ns,rfl,hS,_,hmp,q⟩:=h;have hT0:zbo H mp zdL lamQ:=⟨#[],hmp,trivial,.inl rfl⟩;refine ⟨_,(zaz (zas (i:=1) sc_law.nd rfl (Or.inl rfl) (zaA F_l_begin hr (zaa (pv 0) zad)))
   (zaz (zas (i:=2) sc_law.nd rfl (Or.inl rfl) (zaA F_l_tree hr (zaa (pv 1) (zaa zaf zad))))
   (zaz (zas (i:=3) sc_law.nd rfl (Or.inl rfl) (zaA F_l_rows hr (zaa (pv 1) (zaa (zam zan rfl T.m_len boot_len (zaa (pv 2) zad)) (zaa zaf zad)))))
   (zaz (zas (i:=4) sc_law.nd rfl (Or.inl rfl) (zaA F_stand_of hr (zaa (zaA F_tree_of hr (zaa (pv 2) zad)) (zaa (pv 3) zad))))
   (zaz (zas (i:=5) sc_law.nd rfl (Or.inl rfl) (zsJ F_Shelf hr O.mgC (zaa (pv 4) zad)))
   (zaz (zas (i:=6) sc_law.nd rfl (Or.inl rfl) (pv 3))
   (zaz (zas (i:=7) sc_law.nd rfl (Or.inl rfl) (zaA F_l_fulls hr (zaa (pv 2) (zaa (pv 3) zad))))
   (zeK (zaW (zbG (zbe (zaA F_l_stands hr (zaa (pv 5) (zaa (pv 2) (zaa (pv 3) (zaa (pv 7) (zaa zaf zad)))))))) (zae (zau zcZ)) zax)
   (zaz (za2 PassesOwn.never rfl (zaY rfl T.m_range (zaa (zaA F_l_take hr (zaa (pv 1) (zaa zaf zad))) zad)) (zar (i:=8) sc_law.nd rfl (Or.inl rfl)) (zaz (zdx (zaA F_l_step hr (zaa (pv 1) (zaa (pv 2) (zaa (pv 3) zad)))) (zg3 rfl (zbt (zar (i:=9) sc_law.nd rfl (Or.inl rfl)) (zbt (zar (i:=10) sc_law.nd rfl (Or.inl rfl)) (zbt (zar (i:=11) sc_law.nd rfl (Or.inl rfl)) zfq)))))
   (zaz (zas (i:=3) sc_law.nd rfl (Or.inl rfl) (zaA F_l_behind hr (zaa (pv 3) (zaa (pv 9) (zaa (pv 10) (zaa (pv 11) zad))))))
   (zaz (zas (i:=12) sc_law.nd rfl (Or.inl rfl) (zaA F_l_fulls hr (zaa (pv 2) (zaa (pv 3) zad))))
   (zeK (zaW (zbe (pv 11)) (zae (zas (i:=13) sc_law.nd rfl (Or.inl rfl) (ziK F_Shelf_put O.cl hr (pv 5) (zaa (pv 9) (zaa (pv 10) zad))))) (zae (zas (i:=13) sc_law.nd rfl (Or.inl rfl) (ziK F_Shelf_out O.cl hr (pv 5) (zaa (pv 9) (zaa (pv 10) zad))))))
   (zeK (zaW (zbG (zbe (zaA F_l_deed_alike hr (zaa (pv 13) (zaa (zaA F_l_told_due hr (zaa (pv 2) (zaa (pv 7) (zaa (pv 12) (zaa (pv 9) zad))))) zad))))) (zae (zau zcZ)) zax)
   (zaz (za2 PassesOwn.never rfl (zbQ (pv 13)) (zar (i:=14) sc_law.nd rfl (Or.inl rfl)) (zaz (zbi (zeW F.plainAttrs_list F.slot_list_append F.type_list_append zaU (zaD zaO (pv 14) zaf (fun _ _=>rfl)) (zaa (za6 (zaa zaf (zaa zaf zad))) zad)))
   (zae (zbi (zpC F.plainAttrs_list F.slot_list_clear F.type_list_clear zoK (zaD zaO (pv 14) zaf (fun _ _=>rfl)))))))
   (zeK (zaW (zbG (zbe (zaA F_l_stands hr (zaa (pv 5) (zaa (pv 2) (zaa (pv 3) (zaa (pv 12) (zaa (zaA F_l_take hr (zaa (pv 1) (zaa (zam zan rfl T.m_len boot_len (zaa (pv 2) zad)) zad))) zad)))))))) (zae (zau zcZ)) zax)
   (zae (zas (i:=7) sc_law.nd rfl (Or.inl rfl) (pv 12)))))))))))
   (zae (zau (zhR (zrL (Tup (Option Int)×Tup (Tup Int)) (huD hr)) (pv 4) (za6 (zaa (pv 2) (zaa (pv 6) zad))) (zaH _))))))))))))),?_⟩
 intro N1 n1;refine ⟨_,rfl,a,ns,rfl,hS,fun d H1 _ g1 s1=>n1 _ _ ?_⟩;intro N2 n2;refine ⟨_,rfl,d,a,9,rfl,by decide,s1,fun t ps H2 ht hT hl h2 k2 s2=>n2 _ _ ?_⟩;intro N3 n3;refine ⟨_,rfl,_,rfl,_,_,rfl,.inr (SqT.of h2),?_⟩;refine ⟨d,a,(zbJ ps).length,9,rfl,by rw[zat];omega,by omega,s2,fun r0 as0 rows0 H3 hr1 A1 hl1 R1 f1 h3 k3 s3=>n3 _ _ ?_⟩;intro N4 n4;rw[zat]at hl1;have h3t:=zh4 s2 k3 _ _ h2;have w1:=zne f1;have hkeys:zbT rows0≤81:=by omega
 have hps:ps.length≤20:=by omega
 have el:=zat ps;have hT3:zbo H3 mp zdL lamQ:=((hT0.ext g1.ext).ext (s1.ext k2)).ext (s2.ext k3);refine ⟨_,rfl,t,ps,rfl,h3t,hT,by omega,fun H4 s4=>?_⟩;refine ⟨_,rfl,t,r0,ps,rows0,as0,rfl,s4 _ _ h3t,s4 _ _ h3,A1.ext s4,hl1,hT,R1,by omega,by omega,fun st rs bs H5 hst s5 S5=>?_⟩;have s35:=s4.trans s5;refine n4 _ _ ?_;intro N5 n5;refine ⟨_,rfl,?_⟩;intro sh dx hsh hdx hne;refine zlG S5 hsh hdx hne fun p qs H6 hp hqs s6 S6=>⟨rfl,n5 _ _ ?_⟩;intro N6 n6;have s36:=s35.trans s6;have M6:SNow K CS mp a H6 d sh p qs ps rows0:=SNow.new (s3.same s35) (hT3.ext s35.ext) s6 hsh hp S6;have I6:TupI H6 t st t rs r0 r0 bs as0 as0 ps rows0 rows0:=⟨s36 _ _ h3t,S6.stand,⟨s36 _ _ h3,A1.ext s36⟩,⟨s36 _ _ h3,A1.ext s36⟩⟩;refine ⟨_,rfl,n6 _ _ ?_⟩;intro N7 n7;refine ⟨_,rfl,_,rfl,t,r0,ps,rows0,as0,rfl,I6.tree,I6.start.at_,I6.start.rows,hl1,hT,R1,by omega,by omega,fun pa qa H7 hpa s7 F7 hqa=>n7 _ _ ?_⟩;have M7:=M6.same s7;have I7:=I6.tp fun b us e=>s7 _ _ e;have G7:FA K (dl [d,sh,p,mp] H7) pa qa (ps.length+1) (zak ps rows0):=zso F7 M7.apart.tup (M6.apart.fresh hpa) fun q hq=>M6.apart.fresh (hqa q hq);clear M6 I6 s36 s35 S6;refine ⟨fun σ' H'=>σ'=[some (.ref a),some (.ref d),some (.ref t),some (.ref r0),some (.ref st),some (.ref sh),some (.ref r0),some (.ref pa),none,none,none,none,none,none,none]∧Same H7 H',?_,?_⟩
 ·intro N8 n8;obtain ⟨dx,st1,t1,rs1,as1,S⟩:=M7.shelf;refine ⟨_,rfl,_,rfl,_,rfl,_,rfl,sh,dx,st1,p,t,r0,pa,0,qs,qa,ps,rows0,t1,rs1,as1,as0,rfl,S,I7.tree,I7.now,F7,by omega,fun H8 s8=>⟨_,rfl,?_⟩⟩;exact iteF (n8 _ _ ⟨rfl,s8⟩)
 rintro _ H8 ⟨rfl,s8⟩;have M8:=M7.same s8;have I8:=I7.tp fun b us e=>s8 _ _ e;have G8:=G7.ext (ze8 (KpV.of s8)).ext;intro N9 n9;refine ⟨_,rfl,d,a,15,rfl,by decide,M8.lsH,fun n H9 n0 n1 k9 s9=>⟨_,rfl,by omega,by omega,?_⟩⟩;have M9:=M8.take k9 s9;have I9:=I8.tp (zh4 M8.lsH k9);have G9:=G8.ext (ze8 (zjS k9)).ext;clear M7 I7 G7 M8 I8 G8;refine za0 (n:=n.toNat) (fun i σ HA=>∃(r:Addr) (asr:List Addr) (rows:List (List Int)) (qs:List Addr) (pa:Addr) (qa:List Addr) (x8 x9 x10 x11 x12 x13 x14:Option V),σ=[some (.ref a),some (.ref d),some (.ref t),some (.ref r),some (.ref st),some (.ref sh),some (.ref r0),some (.ref pa),x8,x9,x10,x11,x12,x13,x14]∧SNow K CS mp a HA d sh p qs ps rows∧TupI HA t st t rs r0 r bs as0 asr ps rows0 rows∧FA K (dl [d,sh,p,mp] HA) pa qa (ps.length+1) (zak ps rows)∧zbT rows≤81+i) ?_ ?_ ?_
 ·exact ⟨r0,as0,rows0,qs,pa,qa,_,_,_,_,_,_,_,rfl,M9,I9,G9,hkeys⟩
 ·rintro i σ HA hi ⟨r,asr,rows,qs,pa,qa,x8,x9,x10,x11,x12,x13,x14,rfl,NA,IA,GA,hkA⟩;refine zqF fun N B R hN hB hR'=>?_;intro N1 n1;obtain ⟨dx,st1,t1,rs1,as1,SA⟩:=NA.shelf;have hlen:=SA.stand.len;have RA:=SA.stand.R;refine ⟨_,rfl,_,rfl,_,rfl,d,a,t,r,ps,rows,asr,rfl,IA.tree,by omega,IA.now,hlen,RA,fun k=>yao (zkB k) (by omega),NA.lsH,fun u kn x HB hu hkn hx huT kB sB=>?_⟩;refine ⟨u,_,rfl,SqT.of huT,rfl,_,_,rfl,_,_,rfl,_,_,rfl,rfl,n1 _ _ ?_⟩;intro N2 n2;have NB:=NA.take kB sB;have IB:=IA.tp (zh4 NA.lsH kB);have GB:=GA.ext (ze8 (zjS kB)).ext;generalize hb:(!decide (x∈zap rows kn))=b;have hb:=hb.symm;have hkr:kn < rows.length:=by omega
  have hkd:=zlM (x:=x) (b:=b) hkr;have R':zaC (zc8 rows kn x b):=zhL RA (zo7 (RA.at_up kn) hb) fun y hy=>by
   rcases (zny (RA.at_up kn) hb).mp hy with ⟨z,_⟩ | ⟨_,z⟩
   ·rw[z];exact hx
   ·exact RA.at_key kn y z
  clear NA IA GA SA;refine ⟨_,rfl,_,rfl,_,rfl,_,rfl,r,kn,x,b,rows,asr,rfl,IB.now,hkr,by omega,RA,fun k=>yao (zkB k) (by omega),hb,fun r' as' HC hr' sC RC=>n2 _ _ ?_⟩;intro N3 n3;have NC:=NB.same sC;have IC:TupI HC t st t rs r0 r' bs as0 as' ps rows0 (zc8 rows kn x b):=⟨sC _ _ IB.tree,IB.first.same sC,IB.start.tp fun b us e=>sC _ _ e,RC⟩;have GC:=GB.ext (ze8 (KpV.of sC)).ext;have hlen':(zc8 rows kn x b).length=ps.length+1:=by rw[znz];exact hlen
  refine ⟨_,rfl,_,rfl,t,r',ps,zc8 rows kn x b,as',rfl,IC.tree,RC.at_,RC.rows,hlen',hT,R',by omega,by omega,fun pf qf HD hpf sD FD hqf=>n3 _ _ ?_⟩;have ND:=NC.same sD;have ID:=IC.tp fun b us e=>sD _ _ e;have GD:=GC.ext (ze8 (KpV.of sD)).ext;have GF:FA K (dl [d,sh,p,mp] HD) pf qf (ps.length+1) (zak ps (zc8 rows kn x b)):=zso FD ND.apart.tup (NC.apart.fresh hpf) fun q hq=>NC.apart.fresh (hqf q hq);clear NB IB GB NC IC GC;obtain ⟨dx,st1,t1,rs1,as1,SD⟩:=ND.shelf;have hok:=zm1 (rows:=rows) (kn:=kn) (x:=x) hb (by omega);refine ⟨fun σ' HE=>∃ D us m qs' st' rs' as'',σ'=[some (.ref a),some (.ref d),some (.ref t),some (.ref r'),some (.ref st),some (.ref sh),some (.ref r0),some (.ref pa),some (.int (0+(i:Int))),some (.int kn),some (.int x),some (.bl b),some (.ref pf),some (.ref D),x14]∧znU K CS mp HD HE sh dx p D us m qs qs' st' t1 rs' as'' ps rows (zc8 rows kn x b) kn,?_,?_⟩
  ·intro N4 n4;refine ⟨_,rfl,_,rfl,?_⟩;cases b with
   | true=>
    refine iteT ?_;refine ⟨_,rfl,sh,dx,_,rfl,SD.ins,rfl,_,rfl,_,rfl,sh,dx,st1,p,kn,x,qs,ps,rows,t1,rs1,as1,rfl,SD,hkn,hx,hok.1 rfl,ND.tab,fun D us m qs' st' rs' as' H' h1 h2 h3 h4 h5 h6 h7 h8=>?_⟩;exact n4 _ _ ⟨D,us,m,qs',st',rs',as',rfl,⟨h1,h2,h3,h4,h5,h6,h7,h8⟩⟩
   | false=>
    refine iteF ?_;refine ⟨_,rfl,sh,dx,_,rfl,SD.ins,rfl,_,rfl,_,rfl,sh,dx,st1,p,kn,x,qs,ps,rows,t1,rs1,as1,rfl,SD,hkn,hx,hok.2 rfl,ND.tab,fun D us m qs' st' rs' as' H' h1 h2 h3 h4 h5 h6 h7 h8=>?_⟩;exact n4 _ _ ⟨D,us,m,qs',st',rs',as',rfl,⟨h1,h2,h3,h4,h5,h6,h7,h8⟩⟩
  rintro _ HE ⟨D,us,m,qs',st',rs',as'',rfl,X⟩;have kpE:KpV [d,sh,p,mp] HD HE:=X.kp (by simp) (by simp) (by simp);have IE:=ID.tp (kpE.tp ND.apart.tup);have GE:=GD.ext (ze8 kpE).ext;have GFE:=GF.ext (ze8 kpE).ext;have hfz:∀ j,j < ps.length+1→(zak ps rows j).length≤400:=fun j hj=>by
   have:=zdt hT hlen hj;omega
  have hfz':∀ j,j < ps.length+1→(zak ps (zc8 rows kn x b) j).length≤400:=fun j hj=>by
   have:=zdt hT hlen' hj;omega
  have hsm:=zlg (m:=m) hT hkn hfz hfz';refine ⟨fun σ' H'=>σ'=[some (.ref a),some (.ref d),some (.ref t),some (.ref r'),some (.ref st),some (.ref sh),some (.ref r0),some (.ref pa),some (.int (0+(i:Int))),some (.int kn),some (.int x),some (.bl b),some (.ref pf),some (.ref D),x14]∧Same HE H',?_,?_⟩
  ·intro N5 n5;refine ⟨_,rfl,_,rfl,_,rfl,_,rfl,_,rfl,t,pa,pf,kn,qa,qf,ps,rows,zc8 rows kn x b,rfl,IE.tree,hT,RA,R',by omega,fun j hj=>yao (hfz j hj) (by decide),fun j hj=>yao (hfz' j hj) (by decide),hkn,GE.ext zgy.ext,GFE.ext zgy.ext,fun Du m2 HF hDu sF hst2 hasDu=>?_⟩;rw[zn2 hst2 X.stops]at hasDu;refine ⟨D,Du,us,zbZ ps rows (zc8 rows kn x b) kn m,(fun b=>HD b=none∧b∉qs'),rfl,sF _ _ X.at_,X.told.same sF,fun e he=>(by have:=hsm e he;omega),hasDu,fun HG sG=>⟨_,rfl,?_⟩⟩;exact iteF (n5 _ _ ⟨rfl,sF.trans sG⟩)
  rintro _ HF ⟨rfl,sF⟩;intro N6 n6;have toldF:=X.told.same sF;have DF:=sF _ _ X.at_;refine ⟨_,rfl,D,rfl,⟨_,SqL.of DF⟩,?_⟩;refine ze6 (xs:=us) (fun i2 σ H'=>∃ x14:Option V,σ=[some (.ref a),some (.ref d),some (.ref t),some (.ref r'),some (.ref st),some (.ref sh),some (.ref r0),some (.ref pa),some (.int (0+(i:Int))),some (.int kn),some (.int x),some (.bl b),some (.ref pf),some (.ref D),x14]∧(∀ b o,HF b=some o→(HD b≠none∨b∈qs'∨b=D∨∀ zs,o≠.lst zs)→H' b=some o)∧∀(j:Nat) (u g c:Addr) (y:V),us[j]?=some (.ref u)→HF u=some (.tup [y,.ref g,.ref c])→(∃ zs,H' g=some (.lst zs)∧zs.length≤400+i2)∧∃ zs,H' c=some (.lst zs)∧zs.length≤400+i2) ?_ ?_ ?_ ?_
  ·refine ⟨_,rfl,fun b o e _=>e,fun j u g c y hj hu=>?_⟩;obtain ⟨e,u',g',c',gw,cw,he,eu,hu',hg',hgw,hc',hcw,_⟩:=zjq toldF hj;cases eu
   rw[hu']at hu;cases hu
   have:=hsm e (yaE he);have l1:=hgw.length;have l2:=hcw.length;exact ⟨⟨gw,hg',by omega⟩,⟨cw,hc',by omega⟩⟩
  ·rintro i2 σ H' _ ⟨x14,rfl,k',_⟩;exact SqL.of (k' _ _ DF (.inr (.inr (.inl rfl))))
  ·rintro i2 v σ H' hv ⟨x14,rfl,k',l'⟩;refine zqF fun N' B' R' hN' hB' hR''=>?_;intro N7 n7;have hi2:=(yak.mp hv).1;have hul:=toldF.has.length;have htl:=(zhA (rows:=rows) (rows':=zc8 rows kn x b) (k:=kn) hT m).2;obtain ⟨e,u',g,c,gw,cw,he,rfl,hu',hg,_,hc,_,nD1,nD2,⟨f1,f2⟩,⟨f3,f4⟩⟩:=zjq toldF hv;obtain ⟨⟨zs,hz1,hz2⟩,⟨zc,hz3,hz4⟩⟩:=l' i2 u' g c _ hv hu';have u2:=k' _ _ hu' (.inr (.inr (.inr (fun _ z=>nomatch z))));refine ⟨_,rfl,_,_,_,_,rfl,rfl,SqT.of u2,rfl,.inl ⟨rfl,_,SqL.of hz1⟩,(by show 2≤sizeLine;decide),fun w hw=>?_⟩;have sw:=zai hw (.tup [.int 1,.int 1]);refine ⟨_,_,_,rfl,rfl,sw _ _ hz1,zao (by omega),n7 _ _ ?_⟩;have kw:But g H' (upd (upd H' w (.tup [.int 1,.int 1])) g (.lst (zs++[.ref w]))):=fun b o n e=>by rw[zag n];exact sw _ _ e
   have gw2:upd (upd H' w (.tup [.int 1,.int 1])) g (.lst (zs++[.ref w])) g=some (.lst (zs++[.ref w])):=zab;generalize upd (upd H' w (.tup [.int 1,.int 1])) g (.lst (zs++[.ref w]))=H2 at kw gw2 ⊢;have ngu:u'≠g:=fun z=>by rw[z,hz1]at u2;cases u2
   obtain ⟨zc2,hc2⟩:∃ zc2,H2 c=some (.lst zc2):=by
    by_cases z:c=g
    ·exact ⟨_,z ▸ gw2⟩
    ·exact ⟨_,kw _ _ z hz3⟩
   refine ⟨_,rfl,_,_,_,_,rfl,rfl,SqT.of (kw _ _ ngu u2),rfl,.inl ⟨rfl,_,SqL.of hc2⟩,c,zc2,rfl,rfl,hc2,?_⟩;refine hN' _ _ ⟨_,rfl,fun b o e h=>?_,fun j u g' c' y hj hu=>?_⟩
   ·have nb:∀{b':Addr} {ws:List V},HF b'=some (.lst ws)→HD b'=none→b'∉qs'→b'≠D→b≠b':=fun {b' ws} h1 h2 h3 h4 z=>by
     subst z;rcases h with h | h | h | h
     ·exact h h2
     ·exact h3 h
     ·exact h4 h
     ·rw[h1]at e;exact h _ (yad e).symm
    rw[zag (nb hc f3 f4 nD2)];exact kw _ _ (nb hg f1 f2 nD1) (k' b o e h)
   ·obtain ⟨⟨y1,h1,h1'⟩,⟨y2,h2,h2'⟩⟩:=l' j u g' c' y hj hu;have one:∀{b':Addr} {ws:List V},H' b'=some (.lst ws)→ws.length≤400+i2→∃ zs,upd H2 c (.lst []) b'=some (.lst zs)∧zs.length≤400+(i2+1):=fun {b' ws} h1 h1'=>by
     by_cases z:b'=c
     ·rw[z,zab];exact ⟨[],rfl,yaC _⟩
     ·rw[zag z];by_cases z2:b'=g
      ·rw[z2];exact ⟨_,gw2,by rw[yap,ybg];omega⟩
      ·exact ⟨ws,kw _ _ z2 h1,by omega⟩
    exact ⟨one h1 h1',one h2 h2'⟩
  rintro σ HM ⟨x14,rfl,kM,_⟩;refine n6 _ _ ?_;have tpM:Tp HE HM:=fun b us e=>kM _ _ (sF _ _ e) (.inr (.inr (.inr (fun _ z=>nomatch z))));have IM:=IE.tp tpM;have kDM:∀ b o,b≠sh→b≠p→b≠mp→HD b=some o→HM b=some o:=fun b o n1 n2 n3 e=>kM b o (sF _ _ (X.kd b o n1 n2 n3 e)) (.inl (by rw[e];exact fun z=>nomatch z));have NM:SNow K CS mp a HM d sh p qs' ps (zc8 rows kn x b):=by
   refine ⟨⟨dx,st',t1,rs',as'',(X.shelf.same sF).mut fun b o e h=>kM b o e ?_⟩,zpU (X.tab.ext sF.ext) fun b o e h=>kM b o e (.inr (.inr (.inr h))),ND.ls.same (ze8 fun b o n e=>kDM b o (fun z=>n (by simp[z])) (fun z=>n (by simp[z])) (fun z=>n (by simp[z])) e)⟩;rcases h with h | h | h
   ·exact .inl (by rw[h,SD.full.at_];exact fun z=>nomatch z)
   ·exact .inr (.inl h)
   ·exact .inr (.inr (.inr h))
  have GM:=GF.ext (ze8 (Av:=[d,sh,p,mp]) (H':=HM) fun b o n e=>kDM b o (fun z=>n (by simp[z])) (fun z=>n (by simp[z])) (fun z=>n (by simp[z])) e).ext;refine ⟨fun σ' H'=>σ'=[some (.ref a),some (.ref d),some (.ref t),some (.ref r'),some (.ref st),some (.ref sh),some (.ref r0),some (.ref pa),some (.int (0+(i:Int))),some (.int kn),some (.int x),some (.bl b),some (.ref pf),some (.ref D),x14]∧SNow K CS mp a H' d sh p qs' ps (zc8 rows kn x b)∧TupI H' t st t rs r0 r' bs as0 as' ps rows0 (zc8 rows kn x b)∧FA K (dl [d,sh,p,mp] H') pf qf (ps.length+1) (zak ps (zc8 rows kn x b)),?_,?_⟩
  ·intro N8 n8;refine ⟨_,rfl,_,rfl,_,rfl,_,rfl,_,rfl,_,rfl,_,_,rfl,.inr (SqT.of IM.tree),?_⟩;rw[el];refine ⟨d,a,((ps.length+1:Nat):Int),rfl,⟨by omega,by omega⟩,NM.lsH,fun v HN v0 v1 kN sN=>?_⟩;obtain ⟨la,rfl⟩:∃ la:Nat,v=la:=⟨v.toNat,by omega⟩;have NN:=NM.take kN sN;have IN:=IM.tp (zh4 NM.lsH kN);have GN:=GM.ext (ze8 (zjS kN)).ext;obtain ⟨dx2,st2,t2,rs2,as2,SN⟩:=NN.shelf;refine ⟨sh,dx2,st2,p,t,r',pf,la,qs',qf,ps,zc8 rows kn x b,t2,rs2,as2,as',rfl,SN,IN.tree,IN.now,GN.ext zgy.ext,by omega,fun HO sO=>⟨_,rfl,?_⟩⟩;exact iteF (n8 _ _ ⟨rfl,NN.same sO,IN.tp (fun b us e=>sO _ _ e),GN.ext (ze8 (KpV.of sO)).ext⟩)
  rintro _ HN ⟨rfl,NN,IN,GN⟩;exact ⟨_,rfl,hN _ _ ⟨r',as',zc8 rows kn x b,qs',pf,qf,_,_,_,_,_,_,_,rfl,NN,IN,GN,by omega⟩⟩
 ·rintro σ HA ⟨r,asr,rows,qs,pa,qa,x8,x9,x10,x11,x12,x13,x14,rfl,NA,IA,GA,hkA⟩;refine n9 _ _ ?_;refine ⟨_,rfl,_,rfl,_,rfl,(by show 2≤sizeLine;decide),fun u hu=>?_⟩;have su:=zai hu (.tup [.ref t,.ref r0]);have Iu:=IA.tp fun b us e=>su _ _ e;refine ⟨zge ps rows0,zge ps rows0,ziz Iu.first,⟨u,_,_,rfl,zab,⟨_,_,rfl,SqT.of Iu.tree,zhz ps⟩,⟨_,_,rfl,SqT.of Iu.start.at_,zfZ Iu.start.rows⟩⟩,?_⟩;rw[yag (Eq.refl (zge ps rows0))];exact q _
abbrev lawRoom:Nat:=11
theorem all_ok (T:Txt K mg){CS:Addr}(O:OwnC K mg CS){mc mp:Addr}(hBM:BMAt mg base)(D_is_whole:DF K mg "is_whole" zd3 zcF)(D_is_key:DF K mg "is_key" zfX zdD)(D_need_key:DF K mg "need_key" zdY zdi)(D_code:DF K mg "code" zkz zhP)(D_how_many_below:DF K mg "how_many_below" zbA zbr)(D_place:DFT K mg "place" zfk zeN mc mp)(D_joined_up:DF K mg "joined_up" zdd zb9)(D_lowest_unlike:DF K mg "lowest_unlike" zbK zbD)(D_turned:DF K mg "turned" zfP zeL)(D_labels:DF K mg "labels" zfR zeO)(D_neighbours:DF K mg "neighbours" zcO zbN)(D_least_free:DF K mg "least_free" zcP zcn)(D_colours:DF K mg "colours" zeG zec)(D_marks:DF K mg "marks" zhI zf2)(D_handed:DF K mg "handed" zfY zdE)(D_is_one_of_first:DF K mg "is_one_of_first" zbq zaX)(D_tree_of:DF K mg "tree_of" zeB zd7)(D_need_knot:DF K mg "need_knot" zdb zb8)(D_children:DF K mg "children" zd4 zdn)(D_beneath:DF K mg "beneath" zeH zed)(D_row_of:DF K mg "row_of" zfQ zeM)(D_long_together:DF K mg "long_together" zbL zbf)(D_stand_of:DF K mg "stand_of" zdX zdh)(D_with_row:DF K mg "with_row" zdW zcE)(D_own_entries:DF K mg "own_entries" zcl zb2)(D_full_rows_beneath:DF K mg "full_rows_beneath" za9 za3)(D_full_rows:DF K mg "full_rows" zde zcT)(D_without:DF K mg "without" zeA zd6)(D_l_begin:DF K mg "_law_begin" zeF zeb)(D_l_mixed:DF K mg "_law_mixed" zeC zd8)(D_l_take:DF K mg "_law_take" zfT zbO)(D_l_key:DF K mg "_law_key" zhK zeS)(D_l_tree:DF K mg "_law_tree" zfS zeP)(D_l_row:DF K mg "_law_row" zhJ zf3)(D_l_rows:DF K mg "_law_rows" zfV zeR)(D_l_code:DF K mg "_law_code" zfW zeT)(D_l_turned:DF K mg "_law_turned" zdZ zdj)(D_l_colours:DF K mg "_law_colours" zdc zcS)(D_l_marks:DF K mg "_law_marks" zeD zd9)(D_l_fulls:DF K mg "_law_fulls" zeE zea)(D_l_differ:DF K mg "_law_differ" zd1 zdl)(D_l_told_due:DF K mg "_law_told_due" zcQ zco)(D_l_deed_alike:DF K mg "_law_deed_alike" zb1 zbP)(D_l_step:DF K mg "_law_step" zfU zeQ)(D_l_behind:DF K mg "_law_behind" zd2 zdm)(D_l_stands:DF K mg "_law_stands" zd0 zdk)(D_law:DF K mg "law" zoa zkE)(D_Shelf___init__:DI K CS "Shelf.__init__" zbC zbs)(D_Shelf_row_for:DM K CS "row_for" "Shelf.row_for" zbM zbg)(D_Shelf_carry_up:DM K CS "carry_up" "Shelf.carry_up" zbB za4)(D_Shelf_put:DM K CS "put" "Shelf.put" zdf zcU)(D_Shelf_out:DM K CS "out" "Shelf.out" zdg zcV)(D_Shelf_stand:DM K CS "stand" "Shelf.stand" zcm zb3)(D_Shelf_full:DM K CS "full" "Shelf.full" zcR zcp):FC P w K mg base 11 "law" zkE (ziC K mp):=
 have m:=zow (P:=P) (w:=w) (base:=base) T D_l_mixed;have t:=zqm T D_l_take m;have c:=zqr (P:=P) (w:=w) (base:=base) T D_code;have nb:=zhX (P:=P) (w:=w) (base:=base) T D_neighbours;have mk:=zox T D_marks (zmW T D_labels c (zmQ T D_turned (zrP T D_lowest_unlike))) (zlx T D_colours nb (zhY T D_least_free)) nb;have hd:=zmY T D_handed mk;have ch:=zjI (P:=P) (w:=w) (base:=base) T D_children;have jo:=zmX (P:=P) (w:=w) (base:=base) T D_joined_up;have fr:=zrT T D_full_rows_beneath (zly T D_beneath) ch hd (zrN T D_own_entries) jo;have wh:=zor (P:=P) (w:=w) (base:=base) T D_is_whole;have lg:=zqp (P:=P) (w:=w) (base:=base) T D_long_together;have ik:=zoC T D_is_key wh;have so:=zlv T D_stand_of (zot T D_row_of ik) lg;have fi:=zoF T D_is_one_of_first wh;have ky:=zrR T D_l_key t;have kn:=zoB T D_need_knot fi;have rf:=zmT T O D_Shelf_row_for kn (zov T D_need_key ik);have pl:=zou (P:=P) (w:=w) (base:=base) T D_place hBM (fun b=>zrS (base:=b) T D_how_many_below);have wr:=zql (P:=P) (w:=w) (base:=base) T D_with_row;have cu:=zoG T O D_Shelf_carry_up hd jo (zlu T D_without);have pu:=zrM T O D_Shelf_put rf lg pl wr cu;have ou:=zrO T O D_Shelf_out rf pl wr cu;have lm:=zmU T D_l_marks (zoA T D_l_code) (zlw T D_l_turned) (zjH T D_l_colours);have di:=zmZ (P:=P) (w:=w) (base:=base) T D_l_differ
 zrQ T O D_law (zoH T D_l_begin) t (zoy T D_l_tree t) (zoz T D_l_rows t (zqo T D_l_row t ky)) (zmR T D_tree_of fi) so (zqq T O D_Shelf___init__ (zoD T D_full_rows fr)) (zmV T D_l_fulls lm) (zmS T O D_l_stands (zoE T O D_Shelf_full kn) (zos O D_Shelf_stand)) (zqn T D_l_step t ky) (zm0 T D_l_behind) (zrU T D_l_told_due di) (zoI T D_l_deed_alike) pu ou
end
theorem u1 {P:List Value→Prop}(h:∀ a,P [a])(us:List Value)(hl:us.length=1):P us:=by
 rcases us with _ | ⟨a,_ | ⟨z,us⟩⟩
 ·cases hl
 ·exact h a
 ·exact absurd hl (by simp)
theorem u2 {P:List Value→Prop}(h:∀ a b,P [a,b])(us:List Value)(hl:us.length=2):P us:=by
 rcases us with _ | ⟨a,_ | ⟨b,_ | ⟨z,us⟩⟩⟩
 ·cases hl
 ·cases hl
 ·exact h a b
 ·exact absurd hl (by simp)
theorem u3 {P:List Value→Prop}(h:∀ a b c,P [a,b,c])(us:List Value)(hl:us.length=3):P us:=by
 rcases us with _ | ⟨a,_ | ⟨b,_ | ⟨c,_ | ⟨z,us⟩⟩⟩⟩
 ·cases hl
 ·cases hl
 ·cases hl
 ·exact h a b c
 ·exact absurd hl (by simp)
theorem u4 {P:List Value→Prop}(h:∀ a b c d,P [a,b,c,d])(us:List Value)(hl:us.length=4):P us:=by
 rcases us with _ | ⟨a,_ | ⟨b,_ | ⟨c,_ | ⟨d,_ | ⟨z,us⟩⟩⟩⟩⟩
 ·cases hl
 ·cases hl
 ·cases hl
 ·cases hl
 ·exact h a b c d
 ·exact absurd hl (by simp)
theorem u5 {P:List Value→Prop}(h:∀ a b c d e,P [a,b,c,d,e])(us:List Value)(hl:us.length=5):P us:=by
 rcases us with _ | ⟨a,_ | ⟨b,_ | ⟨c,_ | ⟨d,_ | ⟨e,_ | ⟨z,us⟩⟩⟩⟩⟩⟩
 ·cases hl
 ·cases hl
 ·cases hl
 ·cases hl
 ·cases hl
 ·exact h a b c d e
 ·exact absurd hl (by simp)
structure AD (K:Frag)(x:Str)(st:Stmt):Prop where
 ex:∃(f:Addr) (oc:Value) (od:Option Addr) (kV dc pm:Value) (an:Option Addr) (cd ct:Value) (sl:Array (Option Value)),nsIn K mainGlobals x=some (some (.ref f))∧K.lookup f=some ⟨oc,od,.func (fnOf x x (zbV st) (zbd st) (zaj st) .none kV dc pm an cd ct),sl⟩∧codeIn K cd x=true∧keepIn K (.ref f)=true
theorem AD.of {K:Frag}{x:Str}{st:Stmt}{f:Addr}{oc:Value}{od:Option Addr}{kV dc pm:Value}{an:Option Addr}{cd ct:Value}{sl:Array (Option Value)}(a:nsIn K mainGlobals x=some (some (.ref f)))(l:K.lookup f=some ⟨oc,od,.func (fnOf x x (zbV st) (zbd st) (zaj st) .none kV dc pm an cd ct),sl⟩)(c:codeIn K cd x=true)(k:keepIn K (.ref f)=true):AD K x st:=⟨f,oc,od,kV,dc,pm,an,cd,ct,sl,a,l,c,k⟩
theorem AD.df {K:Frag}{h:Heap}{mg:Str→Option Value}{x:Str}{st:Stmt}{ps:List Str}(a:AD K x st)(X:K.In h)(G:h.Ns mainGlobals mg)
  (hb:∀(kV doc pm:Value) (an:Option Addr) (cdv ct:Value) (us:List Value),us.length=ps.length→bindArgs (fnOf x x (zbV st) (zbd st) (zaj st) .none kV doc pm an cdv ct) ⟨us,[]⟩=pure (ps.zip us):=by
   first | exact fun _ _ _ _ _ _=>u1 fun _=>rfl | exact fun _ _ _ _ _ _=>u2 fun _ _=>rfl | exact fun _ _ _ _ _ _=>u3 fun _ _ _=>rfl | exact fun _ _ _ _ _ _=>u4 fun _ _ _ _=>rfl | exact fun _ _ _ _ _ _=>u5 fun _ _ _ _ _=>rfl | exact fun _ _ _ _ _ _=>u6 fun _ _ _ _ _ _=>rfl):DF K mg x st ps:=by
 obtain ⟨f,oc,od,kV,dc,pm,an,cd,ct,sl,a,l,c,k⟩:=a.ex;exact ⟨_,_,zgv l c k,(zgv l c k).binds hb,mg_of X G a⟩
theorem AD.dft {K:Frag}{h:Heap}{mg:Str→Option Value}{x:Str}{st:Stmt}{ps:List Str}{mc mp:Addr}(a:AD K x st)(X:K.In h)(G:h.Ns mainGlobals mg)(t:tabIn K x=some (mc,mp))(hh:codeHdIn K mc mp=true)
  (hb:∀(kV doc pm:Value) (an:Option Addr) (cdv ct:Value) (us:List Value),us.length=ps.length→bindArgs (fnOf x x (zbV st) (zbd st) (zaj st) .none kV doc pm an cdv ct) ⟨us,[]⟩=pure (ps.zip us):=by
   first | exact fun _ _ _ _ _ _=>u1 fun _=>rfl | exact fun _ _ _ _ _ _=>u2 fun _ _=>rfl | exact fun _ _ _ _ _ _=>u3 fun _ _ _=>rfl | exact fun _ _ _ _ _ _=>u4 fun _ _ _ _=>rfl | exact fun _ _ _ _ _ _=>u5 fun _ _ _ _ _=>rfl | exact fun _ _ _ _ _ _=>u6 fun _ _ _ _ _ _=>rfl):DFT K mg x st ps mc mp:=by
 obtain ⟨f,oc,od,kV,dc,pm,an,cd,ct,sl,a,l,c,k⟩:=a.ex;have e:cd=.ref mc:=L2.zn3 a l t;subst e;exact ⟨⟨_,_,_,_,_,_,_,_,_,l,c,k,mg_of X G a,(zgv l c k).binds hb⟩,hh⟩
structure AM (K:Frag)(C:Addr)(m q:Str)(st:Stmt):Prop where
 ex:∃(f:Addr) (oc:Value) (od:Option Addr) (kV dc pm:Value) (an:Option Addr) (cd ct:Value) (sl:Array (Option Value)),findIn K (.ref C) m=some (some (.ref f))∧PySem.W.isFn K (.ref f)=true∧K.lookup f=some ⟨oc,od,.func (fnOf m q (zbV st) (zbd st) (zaj st) .none kV dc pm an cd ct),sl⟩∧codeIn K cd q=true∧keepIn K (.ref f)=true
theorem AM.of {K:Frag}{C:Addr}{m q:Str}{st:Stmt}{f:Addr}{oc:Value}{od:Option Addr}{kV dc pm:Value}{an:Option Addr}{cd ct:Value}{sl:Array (Option Value)}(a:findIn K (.ref C) m=some (some (.ref f)))(i:PySem.W.isFn K (.ref f)=true)(l:K.lookup f=some ⟨oc,od,.func (fnOf m q (zbV st) (zbd st) (zaj st) .none kV dc pm an cd ct),sl⟩)(c:codeIn K cd q=true)(k:keepIn K (.ref f)=true):AM K C m q st:=⟨f,oc,od,kV,dc,pm,an,cd,ct,sl,a,i,l,c,k⟩
theorem AM.dm {K:Frag}{C:Addr}{m q:Str}{st:Stmt}{ps:List Str}(a:AM K C m q st)
  (hb:∀(kV doc pm:Value) (an:Option Addr) (cdv ct:Value) (us:List Value),us.length=ps.length→bindArgs (fnOf m q (zbV st) (zbd st) (zaj st) .none kV doc pm an cdv ct) ⟨us,[]⟩=pure (ps.zip us):=by
   first | exact fun _ _ _ _ _ _=>u1 fun _=>rfl | exact fun _ _ _ _ _ _=>u2 fun _ _=>rfl | exact fun _ _ _ _ _ _=>u3 fun _ _ _=>rfl | exact fun _ _ _ _ _ _=>u4 fun _ _ _ _=>rfl | exact fun _ _ _ _ _ _=>u5 fun _ _ _ _ _=>rfl | exact fun _ _ _ _ _ _=>u6 fun _ _ _ _ _ _=>rfl):DM K C m q st ps:=by
 obtain ⟨f,oc,od,kV,dc,pm,an,cd,ct,sl,a,i,l,c,k⟩:=a.ex;exact ⟨_,_,zgv l c k,(zgv l c k).binds hb,⟨a,i,k⟩⟩
theorem AM.di {K:Frag}{C:Addr}{q:Str}{st:Stmt}{ps:List Str}(a:AM K C "__init__" q st)(mk:PySem.W.makesIn K C=true)(kc:keepIn K (.ref C)=true)
  (hb:∀(kV doc pm:Value) (an:Option Addr) (cdv ct:Value) (us:List Value),us.length=ps.length→bindArgs (fnOf "__init__" q (zbV st) (zbd st) (zaj st) .none kV doc pm an cdv ct) ⟨us,[]⟩=pure (ps.zip us):=by
   first | exact fun _ _ _ _ _ _=>u1 fun _=>rfl | exact fun _ _ _ _ _ _=>u2 fun _ _=>rfl | exact fun _ _ _ _ _ _=>u3 fun _ _ _=>rfl | exact fun _ _ _ _ _ _=>u4 fun _ _ _ _=>rfl | exact fun _ _ _ _ _ _=>u5 fun _ _ _ _ _=>rfl | exact fun _ _ _ _ _ _=>u6 fun _ _ _ _ _ _=>rfl):DI K C q st ps:=by
 obtain ⟨f,oc,od,kV,dc,pm,an,cd,ct,sl,a,i,l,c,k⟩:=a.ex;exact ⟨_,_,zgv l c k,(zgv l c k).binds hb,⟨mk,a,i,kc⟩⟩
theorem zst {l:OpenLaw}{w:World}{K:Frag}{h:Heap}{mg:Str→Option Value}{fa mc6 mp6 CS:Addr}(X:K.In h)(G:h.Ns mainGlobals mg)(hfa:mg "law" = some (.ref fa)){t_KNOT_NUMBERS:Tok}{t_TURNS:Tok}{t_MOST_KNOTS:Tok}{t_MOST_KEYS:Tok}(a1:AD K "is_whole" zd3)(a2:AD K "is_key" zfX)(a3:AD K "need_key" zdY)(a4:AD K "code" zkz)(a5:AD K "how_many_below" zbA)(a6:AD K "place" zfk)(a7:AD K "joined_up" zdd)(a8:AD K "lowest_unlike" zbK)(a9:AD K "turned" zfP)(a10:AD K "labels" zfR)(a11:AD K "neighbours" zcO)(a12:AD K "least_free" zcP)(a13:AD K "colours" zeG)(a14:AD K "marks" zhI)(a15:AD K "handed" zfY)(a16:AD K "is_one_of_first" zbq)(a17:AD K "tree_of" zeB)(a18:AD K "need_knot" zdb)(a19:AD K "children" zd4)(a20:AD K "beneath" zeH)(a21:AD K "row_of" zfQ)(a22:AD K "long_together" zbL)(a23:AD K "stand_of" zdX)(a24:AD K "with_row" zdW)(a25:AD K "own_entries" zcl)(a26:AD K "full_rows_beneath" za9)(a27:AD K "full_rows" zde)(a28:AD K "without" zeA)(a29:AD K "_law_begin" zeF)(a30:AD K "_law_mixed" zeC)(a31:AD K "_law_take" zfT)(a32:AD K "_law_key" zhK)(a33:AD K "_law_tree" zfS)(a34:AD K "_law_row" zhJ)(a35:AD K "_law_rows" zfV)(a36:AD K "_law_code" zfW)(a37:AD K "_law_turned" zdZ)(a38:AD K "_law_colours" zdc)(a39:AD K "_law_marks" zeD)(a40:AD K "_law_fulls" zeE)(a41:AD K "_law_differ" zd1)(a42:AD K "_law_told_due" zcQ)(a43:AD K "_law_deed_alike" zb1)(a44:AD K "_law_step" zfU)(a45:AD K "_law_behind" zd2)(a46:AD K "_law_stands" zd0)(a47:AD K "law" zoa)(t6:tabIn K "place" = some (mc6,mp6))(h6:codeHdIn K mc6 mp6=true)(o_C:nsIn K mainGlobals "Shelf" = some (some (.ref CS)))(o_g:PySem.W.plainGet K CS Str.empty=true)(o_h:PySem.W.hasDictIn K CS=true)(o_p:PySem.W.plainOver K CS=true)(o_s:findIn K (.ref CS) "__setattr__" = some (some (.builtin "object.__setattr__")))(o_m:PySem.W.makesIn K CS=true)(o_k:keepIn K (.ref CS)=true)(o_nkept:findIn K (.ref CS) "kept" = some none)(o_nfulls:findIn K (.ref CS) "fulls" = some none)(o_Shelf___init__:AM K CS "__init__" "Shelf.__init__" zbC)(o_Shelf_row_for:AM K CS "row_for" "Shelf.row_for" zbM)(o_Shelf_carry_up:AM K CS "carry_up" "Shelf.carry_up" zbB)(o_Shelf_put:AM K CS "put" "Shelf.put" zdf)(o_Shelf_out:AM K CS "out" "Shelf.out" zdg)(o_Shelf_stand:AM K CS "stand" "Shelf.stand" zcm)(o_Shelf_full:AM K CS "full" "Shelf.full" zcR)(z_abs:nsIn K mainGlobals "abs" = some none)(z_bool:nsIn K mainGlobals "bool" = some none)(z_enumerate:nsIn K mainGlobals "enumerate" = some none)(z_int:nsIn K mainGlobals "int" = some none)(z_isinstance:nsIn K mainGlobals "isinstance" = some none)(z_len:nsIn K mainGlobals "len" = some none)(z_list:nsIn K mainGlobals "list" = some none)(z_max:nsIn K mainGlobals "max" = some none)(z_min:nsIn K mainGlobals "min" = some none)(z_range:nsIn K mainGlobals "range" = some none)(z_reversed:nsIn K mainGlobals "reversed" = some none)(z_set:nsIn K mainGlobals "set" = some none)(z_sorted:nsIn K mainGlobals "sorted" = some none)(z_sum:nsIn K mainGlobals "sum" = some none)(z_tuple:nsIn K mainGlobals "tuple" = some none)(z_zip:nsIn K mainGlobals "zip" = some none)(y_KNOT_NUMBERS:nsIn K mainGlobals "KNOT_NUMBERS" = some (some (.int 64 t_KNOT_NUMBERS)))(y_TURNS:nsIn K mainGlobals "TURNS" = some (some (.int 5 t_TURNS)))(y_MOST_KNOTS:nsIn K mainGlobals "MOST_KNOTS" = some (some (.int 40 t_MOST_KNOTS)))(y_MOST_KEYS:nsIn K mainGlobals "MOST_KEYS" = some (some (.int 300 t_MOST_KEYS))) :
  ∃ fd:FuncData,(∀(s:Shared) (v:Value),BindsTo s fd ⟨[v],[]⟩ [("_law_script",v)])∧∀ base:Heap,K.In base→base.Ns mainGlobals mg→L2.BMAt mg base→FnOk l.prog w K mg base CX0 lawRoom fa fd ["_law_script"] (ziC K mp6):=by
 obtain ⟨f,oc,od,kV,dc,pm,an,cd,ct,sl,a,l,c,k⟩:=a47.ex;have e:=hfa.symm.trans (mg_of X G a);cases e
 have T:Txt K mg:=⟨mg_none_of X G z_abs,mg_none_of X G z_bool,mg_none_of X G z_enumerate,mg_none_of X G z_int,mg_none_of X G z_isinstance,mg_none_of X G z_len,mg_none_of X G z_list,mg_none_of X G z_max,mg_none_of X G z_min,mg_none_of X G z_range,mg_none_of X G z_reversed,mg_none_of X G z_set,mg_none_of X G z_sorted,mg_none_of X G z_sum,mg_none_of X G z_tuple,mg_none_of X G z_zip,⟨_,mg_of X G y_KNOT_NUMBERS⟩,⟨_,mg_of X G y_TURNS⟩,⟨_,mg_of X G y_MOST_KNOTS⟩,⟨_,mg_of X G y_MOST_KEYS⟩⟩;have O:OwnC K mg CS:=⟨⟨o_g,o_h,o_p,o_s⟩,mg_of X G o_C,o_nkept,o_nfulls⟩;exact ⟨_,fun s v=>.of_eq rfl,fun base _ _ hBM=>(all_ok (P:=_) (w:=w) (base:=base) T O hBM (a1.df X G) (a2.df X G) (a3.df X G) (a4.df X G) (a5.df X G) (a6.dft X G t6 h6) (a7.df X G) (a8.df X G) (a9.df X G) (a10.df X G) (a11.df X G) (a12.df X G) (a13.df X G) (a14.df X G) (a15.df X G) (a16.df X G) (a17.df X G) (a18.df X G) (a19.df X G) (a20.df X G) (a21.df X G) (a22.df X G) (a23.df X G) (a24.df X G) (a25.df X G) (a26.df X G) (a27.df X G) (a28.df X G) (a29.df X G) (a30.df X G) (a31.df X G) (a32.df X G) (a33.df X G) (a34.df X G) (a35.df X G) (a36.df X G) (a37.df X G) (a38.df X G) (a39.df X G) (a40.df X G) (a41.df X G) (a42.df X G) (a43.df X G) (a44.df X G) (a45.df X G) (a46.df X G) (a47.df X G) (o_Shelf___init__.di o_m o_k) (o_Shelf_row_for.dm) (o_Shelf_carry_up.dm) (o_Shelf_put.dm) (o_Shelf_out.dm) (o_Shelf_stand.dm) (o_Shelf_full.dm)).at (mg_of X G a) l⟩
theorem walk {l:OpenLaw}{q:Program}{loose:List Str}{XP:(Str→Option Value)→Heap→Prop}{YP:World→Heap→Prop}{d:DefRec}{K:Params→Frag}{mc mp:Addr}(hn:l.most=some 63)(hdf:d.params.defaults=[])
  (hY:∀(w:World) (h:Heap),YP w h→(K w.params).In h) (hYT:∀(w:World) (h:Heap),YP w h→h.get? mp=some (PySem.W.tabObj #[])) (hC:∀(w:World),codeHdIn (K w.params) mc mp=true) (hC2:∀(w:World),(K w.params).lookup mp=none)
  (F:∀(w:World) (mg:Str→Option Value) (fa:Addr) (h:Heap),(K w.params).In h→h.Ns mainGlobals mg→mg d.name=some (.ref fa)→
   ∃ fd:FuncData,(∀(s:Shared) (u:Value),BindsTo s fd ⟨[u],[]⟩ [("_law_script",u)])∧∀ base:Heap,(K w.params).In base→base.Ns mainGlobals mg→L2.BMAt mg base→FnOk l.prog w (K w.params) mg base CX0 lawRoom fa fd ["_law_script"] (ziC (K w.params) mp)) :
  PySem.W.WalkO q loose XP YP l.row.toRowW d [] (fun f vs=>PySem.call f vs):=
 L2.znW (n:=63) (k:=lawRoom) (x := "_law_script") (tabs:=[(mc,mp)]) (sp:=fun w=>ziC (K w.params) mp) hn (by decide) hdf ⟨rfl,by decide,by decide,rfl⟩ hY (fun w h Y q hq=>by rw[yal.mp hq];exact hYT w h Y) (fun w q hq=>by rw[yal.mp hq];exact ⟨hC w,hC2 w⟩) F (fun _ _ a ns hl hT hS=>⟨a,ns,rfl,hS,hl,hT (mc,mp) (yal.mpr rfl),fun _=>rfl⟩)
end My
open PySem PySem.W PyProof.Rows
namespace PySem.W.Fast
def tw10246843862086696284:=0
def tw18099451186089321848:=0
def tw16289494338790204030:=0
def tw14996701691208316688:=0
def tw14701057305438695773:=0
def tw8087404623094126859:=0
def tw16004429759361746834:=0
def tw12882748280644123421:=0
def tw8952418335119913125:=0
def tw4607172233556204060:=0
def tw15608207673385590219:=0
def tw5068106675030049402:=0
def tw7928856703435583932:=0
def tw15223357316830095763:=0
def tw17239362557258175224:=0
def tw16956420113308706725:=0
def tw5965152207078203450:=0
def tw10798047344567916414:=0
def tw13738608582180987921:=0
def tw1013898244119416062:=0
def tw2921749091800472719:=0
def tw8377472650978590424:=0
def tw9672570693364020813:=0
def tw18200250670142629480:=0
def tw11267773647044181016:=0
def tw7118533483916739397:=0
def tw2926415028502161759:=0
def tw10350413183103758957:=0
def tw15936313173088739561:=0
def tw4250034341595833385:=0
def tw2896732357271913790:=0
def tw13270472988373684880:=0
def tw12518295083604590075:=0
def tw4754568520242204309:=0
def tw5752904189327229815:=0
def tw3066721626669157892:=0
def tw16224939447318998988:=0
def tw12234263384887896924:=0
def tw13496840534925749131:=0
def tw9373530598408115617:=0
def tw6939163695351147869:=0
def tw12546869975605012454:=0
def tw10172012858162430917:=0
def tw18131226790265285775:=0
def tw2891563732428533435:=0
def tw6560627153235569010:=0
def tw1951522408655284921:=0
def tw15360175855787409780:=0
def tw2133244832794075364:=0
def tw5719486572049235018:=0
def tw1685709339057693330:=0
def tw17237438306853628820:=0
def tw5364322333323549379:=0
def tw7031406073013025633:=0
def tw1289396736067794491:=0
def tw13031630071345782984:=0
def tw11792457937446124644:=0
def tw18198818136133647528:=0
def tw13668766487209604127:=0
def tw14955861047924668653:=0
def tw4417352757558928673:=0
def tw9235875833618020875:=0
def tw11419112650829824076:=0
def tw15981223832018976515:=0
def tw13892269617202607762:=0
def tw3114760583325537795:=0
def tw16310991359629179594:=0
def tw12256454588019844469:=0
def tw4238175675370132979:=0
def tw15373844002043552512:=0
def tw18223381443104737591:=0
def tw6272298210691770442:=0
def tw5120069311444050578:=0
def tw185824470619826032:=0
def tw13147880951071846541:=0
def tw5463931368349129327:=0
def tw2668181601818751454:=0
def tw3481825520218836573:=0
def tw3168012000213358612:=0
def tw7945680236375040217:=0
def tw16539656128240712351:=0
def tw2493973796765773680:=0
def tw13458636448306985889:=0
def tw4003348726120977279:=0
def tw11942703051255329166:=0
def tw5941194523875696346:=0
def tw1440745939316299279:=0
def tw15596437262351074509:=0
def tw4262142948639701005:=0
def tw10197919287693708428:=0
def tw6078481888211987265:=0
def tw12968516143083894341:=0
def tw12763933604099027900:=0
def tw7490296911651137672:=0
def tw6154984794317335853:=0
def tw7300708678141393159:=0
def tw11234573565932686861:=0
def tw2502274130380132340:=0
def tw4935845155068905729:=0
def tw12186123466152167900:=0
def tw16750193225546422271:=0
def tw5223508210569024010:=0
def tw14656375444660562866:=0
def tw5928544825913603836:=0
def tw9719394515184725996:=0
def tw5422741953295401516:=0
def tw14989855887162828795:=0
def tw8328871333613086040:=0
def tw6014288630491782723:=0
def tw15140283723500499223:=0
def tw18206190162873342731:=0
def tw14143329556809773839:=0
def tw18432970114408669410:=0
def tw15891151481552995660:=0
def tw7561923059539242241:=0
def tw2057301129042196812:=0
def tw1957551270774982584:=0
def tw13922900945263450807:=0
def tw9856338187896703905:=0
def tw14748672814857310462:=0
def tw524253155446039757:=0
def tw104457694299821941:=0
def tw17246798093970117537:=0
def tw9862729228238392237:=0
def tw117574544825791765:=0
def tw13850491066875777323:=0
def tw16374846385313979047:=0
def tw8888681276778925940:=0
def tw15415001826879438307:=0
def tw8092688292369376495:=0
def tw7377946768624317930:=0
def tw5538885217818328724:=0
def tw2794073754491042604:=0
def tw4514183503492544479:=0
def tw14375730496450688364:=0
def tw17713883229685757352:=0
def tw13186813959319624875:=0
def tw5733979066150198942:=0
def tw1007940784459401853:=0
def tw10407430963967910346:=0
def tw12703245659167151384:=0
def tw8536458048734446038:=0
def tw606572615307679242:=0
def tw4287963871727931029:=0
def tw3316769258542422043:=0
def tw11777295434737228941:=0
def tw10228432452895397793:=0
def tw11163776077119003745:=0
def tw9151272988720136453:=0
def tw4413794551860397501:=0
def tw14912489332646909643:=0
def tw17605064627332116598:=0
def tw4528515950904257508:=0
def tw11685215535726975773:=0
def tw2136225331059782929:=0
def tw17052263034590753773:=0
def tw14747414909964823901:=0
def tw16522306953302089896:=0
def tw1459947256030915501:=0
def tw6185575677012052674:=0
def tw17659772139308876314:=0
def tw3886688359027812395:=0
def tw3020888493651847253:=0
def tw2761410078771576485:=0
def tw2744674586618770339:=0
def tw1112693313351888336:=0
def tw9584759615600728398:=0
def tw1255402264723639225:=0
def tw15040988954654546260:=0
def tw7412050980874067302:=0
def tw11731951779130929108:=0
def tw4445488284564344794:=0
def tw6199969895743927118:=0
def tw17451375297073740632:=0
def tw13209474368926630672:=0
def tw1427600569457106118:=0
def tw11271660338910895251:=0
def tw3793934268473399629:=0
def tw13777224758240609338:=0
def tw11914008402399278124:=0
def tw7357178514017655980:=0
def tw2936342953564201690:=0
def tw5941646213916610598:=0
def tw18233927420237428742:=0
def tw15100411395763986067:=0
def tw12417615259367584204:=0
def tw17275887723342913095:=0
def tw5890036921557227725:=0
def tw12558740343600220448:=0
def tw6498111421496946155:=0
def tw2046569124091313109:=0
def tw2416631980088545526:=0
def tw6749442712138708494:=0
def tw17554670322612673491:=0
def tw13277210368331816790:=0
def tw10173154399821654866:=0
def tw17827203423572143058:=0
def tw16488624430774786783:=0
def tw3309717485904090237:=0
def tw4148530323389950869:=0
def tw554238562369119410:=0
def tw4523060889226218865:=0
def tw11650965119161837827:=0
def tw1218876544805378934:=0
def tw10189683568159197343:=0
def tw1663568405756272036:=0
def tw8766919827426124284:=0
def tw2883182623108131904:=0
def tw12894397756065957116:=0
def tw10100443858812754420:=0
def tw4423235909800269214:=0
def tw15637790883866029372:=0
def tw15317107144313264537:=0
def tw7100548351971507436:=0
def tw10829568852634637747:=0
def tw1042477443182861506:=0
def tw3759961669634311292:=0
def tw5568082538401195095:=0
def tw4670725761554087177:=0
def tw1949801889915827467:=0
def tw17436114909401239525:=0
def tw16420396316845529742:=0
def tw17190774858410426103:=0
def tw15986333740370608214:=0
def tw11258044283193637895:=0
def tw10874945031226250581:=0
def tw10589026457150182497:=0
def tw5647796664549099892:=0
def tw2994553455939996504:=0
def tw17358153946611879966:=0
def tw13770992066431626089:=0
def tw6423994816657594706:=0
def tw8916572516810119185:=0
def tw754750429816362273:=0
def tw11672278215729384019:=0
def tw6347254882230047909:=0
def tw12426208805623015567:=0
def tw8261688540868639575:=0
def tw7219054595187548827:=0
def tw18189388970610753261:=0
def tw13418389052041615224:=0
def tw17086481180975144191:=0
def tw2867912743028406212:=0
def tw11060235948130743234:=0
def tw16906339592076836326:=0
def tw16485990657866841287:=0
def tw6595568849622593729:=0
def tw2161588590570620946:=0
def tw3173150039731547268:=0
def tw8412496468714887709:=0
def tw7939907398765202030:=0
def tw10882061649891794486:=0
def tw11393644758558735340:=0
def tw8932278038679315551:=0
def tw4519901965041794770:=0
def tw16784295998246831480:=0
def tw2498312895512141919:=0
def tw18256311077846621925:=0
def tw13036484649546986342:=0
def tw1286759110459467387:=0
def tw2151976457578258814:=0
def tw16963982099471157781:=0
def tw13824239636580182586:=0
def tw12958364139473698193:=0
def tw2467186746351846362:=0
def tw2343532300440047551:=0
def tw16093721749347648831:=0
def tw15326058567100897091:=0
def tw10345536655622418928:=0
def tw561104805634896144:=0
def tw17006088150870975685:=0
end PySem.W.Fast
set_option maxRecDepth 100000 in
set_option maxHeartbeats 0 in
theorem PySem.Challenge.cw_bridgefind_k45_deeds_told_holds : PySem.Challenge.rw_bridgefind_k45_deeds_told.Holds := by
 w_on; o_law; k_head; (case hw=>w_witness2)
 k_fill
 refine My.walk (l:=PySem.Challenge.rw_bridgefind_k45_deeds_told) (mc:=159) (mp:=155) rfl rfl (fun w h Y=>PySem.W.km_in_of Y) (fun w h Y=>PySem.W.km_tabs_of Y 155 yaD) (fun w=>by kernel_rfl) (fun w=>by kernel_rfl) ?F
 case F=>
  intro w mg fa h KX G hmg
  refine' My.zst (mc6:=159) (mp6:=155) KX G hmg ?_ ?_ ?_ ?_ ?_ ?_ ?_ ?_ ?_ ?_ ?_ ?_ ?_ ?_ ?_ ?_ ?_ ?_ ?_ ?_ ?_ ?_ ?_ ?_ ?_ ?_ ?_ ?_ ?_ ?_ ?_ ?_ ?_ ?_ ?_ ?_ ?_ ?_ ?_ ?_ ?_ ?_ ?_ ?_ ?_ ?_ ?_ ?_ ?_ ?_ ?_ ?_ ?_ ?_ ?_ ?_ ?_ ?_ ?_ ?_ ?_ ?_ ?_ ?_ ?_ ?_ ?_ ?_ ?_ ?_ ?_ ?_ ?_ ?_ ?_ ?_ ?_ ?_ ?_ ?_ ?_ ?_ ?_ ?_ ?_
  any_goals k_is
  all_goals first | refine' My.AD.of ?_ ?_ ?_ ?_ | refine' My.AM.of ?_ ?_ ?_ ?_ ?_ | skip
  any_goals k_is
  all_goals kernel_rfl

