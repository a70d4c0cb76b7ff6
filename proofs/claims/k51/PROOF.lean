import PyProof.Rows.All
import Wide.All
import OpenK.AllK
import Wide.FinOn
import PyProof.EqAt
import PyProof.EqKinds
import PyProof.TupleCall
import PyProof.NeKinds
import Lean
import PyProof.ExcBaseAll.ValueError
import PyProof.NsDelKeeps
import PyProof.ExcArgsOwn
import KE.KIsAll
import PyProof.FString
import PyProof.ReprRoads
import PyProof.CallStr
import PyProof.Rows.SeqMore2
import PySem.Challenge.RW_bridgefind_k51_full_shelves
set_option Elab.async false
set_option linter.all false
set_option maxRecDepth 100000
local macro_rules | `(tactic| omega)=>`(tactic| lia)
open PySem.W (Frag nsIn codeIn keepIn tabIn codeHdIn mg_of mg_none_of fnOf OpenLaw kitOne mroIn findIn)
abbrev yaa:=@Nat.le_refl
abbrev yab:=@List.length_map
abbrev yac:=@List.getElem?_eq_getElem
abbrev yad:=@Option.some.inj
abbrev yae:=@List.getD_eq_getElem?_getD
abbrev yaf:=@PySem.Heap.lt_size
abbrev yag:=@List.mem_singleton
abbrev yah:=@PySem.Heap.get?_push_of_some
abbrev yai:=@decide_eq_false
abbrev yaj:=@List.mem_append
abbrev yak:=@List.getElem?_eq_some_iff
abbrev yal:=@decide_eq_true
abbrev yam:=@List.mem_cons
abbrev yan:=@List.length_take
abbrev yao:=@Nat.ne_of_lt
abbrev yap:=@List.getElem?_map
abbrev yaq:=@List.length_append
abbrev yar:=@List.size_toArray
abbrev yas:=@List.take_of_length_le
abbrev yat:=@List.map_append
abbrev yau:=@List.map_cons
abbrev yav:=@Array.length_toList
abbrev yaw:=@Nat.lt_of_lt_of_le
abbrev yax:=@List.mem_cons_of_mem
abbrev yay:=@List.append_nil
abbrev yaz:=@Bool.false_ne_true
abbrev yaA:=@Nat.le_trans
abbrev yaB:=@PySem.Heap.get?_push_size
abbrev yaC:=@List.mem_append_right
abbrev yaD:=@List.mem_of_getElem?
abbrev yaE:=@List.pairwise_append
abbrev yaF:=@List.mem_cons_self
abbrev yaG:=@List.mem_map
abbrev yaH:=@List.sum_cons
abbrev yaI:=@List.length_cons
abbrev yaJ:=@Nat.zero_le
abbrev yaK:=@Bool.false_eq_true
abbrev yaL:=@List.append_assoc
abbrev yaM:=@List.take_succ_eq_append_getElem
abbrev yaN:=@List.length_drop
abbrev yaO:=@List.take_append_drop
abbrev yaP:=@Array.toList_append
abbrev yaQ:=@of_decide_eq_true
abbrev yaR:=@List.getElem_of_mem
abbrev yaS:=@List.all_eq_true
abbrev yaT:=@List.mem_append_left
abbrev yaU:=@List.getElem?_eq_none
abbrev yaV:=@List.nodup_cons
abbrev yaW:=@Array.getElem?_eq_getElem
abbrev yaX:=@List.drop_eq_nil_of_le
abbrev yaY:=@Array.getElem?_toList
abbrev yaZ:=@List.lookup_cons
abbrev ya0:=@List.getElem_mem
abbrev ya1:=@Nat.le_of_lt
abbrev ya2:=@Nat.lt_of_le_of_lt
abbrev ya3:=@List.getElem?_append_right
abbrev ya4:=@List.ext_getElem?
abbrev ya5:=@List.nodup_append
abbrev ya6:=@List.length_filter_le
abbrev ya7:=@List.mem_filter
abbrev ya8:=@List.mem_range
abbrev ya9:=@Nat.le_succ
abbrev yba:=@List.getElem?_append_left
abbrev ybb:=@List.any_cons
abbrev ybc:=@List.length_singleton
abbrev ybd:=@List.pairwise_iff_getElem
abbrev ybe:=@List.not_mem_nil
abbrev ybf:=@List.length_range
abbrev ybg:=@List.filter_append
abbrev ybh:=@Nat.lt_irrefl
abbrev ybi:=@Nat.ne_of_gt
abbrev ybj:=@List.length_replicate
abbrev ybk:=@Int.toNat_natCast
abbrev ybl:=@Option.map_eq_some_iff
abbrev ybm:=@Int.natCast_nonneg
abbrev ybn:=@Bool.and_eq_true
abbrev ybo:=@PySem.Heap.get?_update_other
abbrev ybp:=@List.length_nil
abbrev ybq:=@List.nodup_nil
abbrev ybr:=@Nat.add_zero
abbrev ybs:=@Nat.min_eq_left
abbrev ybt:=@Nat.add_le_add_right
abbrev ybu:=@List.getElem?_set
abbrev ybv:=@List.filter_cons_of_pos
abbrev ybw:=@List.filterMap_cons
abbrev ybx:=@List.length_set
abbrev yby:=@List.find?_cons
abbrev ybz:=@List.drop_drop
abbrev ybA:=@List.mem_of_mem_take
abbrev ybB:=@List.mem_of_mem_drop
abbrev ybC:=@Bool.not_eq_true'
abbrev ybD:=@Nat.lt_or_ge
abbrev ybE:=@List.map_map
abbrev ybF:=@List.pairwise_map
abbrev ybG:=@Nat.testBit_succ
abbrev ybH:=@Nat.mod_lt
abbrev ybI:=@List.filter_eq_nil_iff
abbrev ybJ:=@List.flatten_cons
abbrev ybK:=@List.mem_or_eq_of_mem_set
abbrev ybL:=@List.of_mem_zip
abbrev ybM:=@List.map_nil
abbrev ybN:=@List.perm_append_comm
abbrev ybO:=@Array.toList_push
abbrev ybP:=@Array.toList_reverse
abbrev ybQ:=@List.getElem?_take
abbrev ybR:=@Bool.not_true
abbrev ybS:=@Bool.eq_false_iff
abbrev ybT:=@List.mem_reverse
abbrev ybU:=@Nat.pow_succ
abbrev ybV:=@Nat.not_lt_zero
abbrev ybW:=@List.filter_cons_of_neg
abbrev ybX:=@Int.zero_add
abbrev ybY:=@List.map_set
abbrev ybZ:=@List.length_reverse
abbrev yb0:=@Bool.eq_iff_iff
abbrev yb1:=@PySem.Heap.size_push
abbrev yb2:=@Nat.lt_succ_self
abbrev yb3:=@Option.isSome_iff_exists
abbrev yb4:=@List.all_cons
abbrev yb5:=@Bool.and_false
abbrev yb6:=@List.drop_sublist
abbrev yb7:=@List.drop_eq_getElem_cons
abbrev yb8:=@List.pairwise_cons
abbrev yb9:=@Array.toList_extract
abbrev yca:=@List.extract_eq_take_drop
abbrev ycb:=@List.drop_take
abbrev ycc:=@List.reverse_append
abbrev ycd:=@List.drop_zero
abbrev yce:=@List.take_zero
abbrev ycf:=@List.getElem?_drop
abbrev ycg:=@List.getElem?_cons_succ
abbrev ych:=@Int.emod_nonneg
abbrev yci:=@Int.emod_lt_of_pos
abbrev ycj:=@List.getElem?_range
abbrev yck:=@List.reverse_cons
abbrev ycl:=@List.length_zip
abbrev ycm:=@List.range_succ
abbrev ycn:=@List.mem_flatten
abbrev yco:=@Nat.min_eq_right
abbrev ycp:=@List.flatten_append
abbrev ycq:=@List.pairwise_singleton
abbrev ycr:=@List.map_take
abbrev ycs:=@List.getElem?_set_ne
abbrev yct:=@List.getElem?_replicate
abbrev ycu:=@Nat.add_le_add_left
abbrev ycv:=@Array.perm_iff_toList_perm
abbrev ycw:=@Bool.not_eq_false'
abbrev ycx:=@List.reverse_reverse
abbrev ycy:=@List.zip_cons_cons
abbrev ycz:=@List.getElem?_reverse
abbrev ycA:=@List.perm_ext_iff_of_nodup
abbrev ycB:=@List.map_congr_left
abbrev ycC:=@List.length_eq_zero_iff
namespace L2
open PySem PySem.Spec PyProof.Rows
abbrev Key:=Sum Int Str
def zkm:Key→Value→Bool
  | .inl k,v=>Value.isInt k v
  | .inr x,v=>Value.isStrOf x v
def keyH (w:World):Key→Int
  | .inl k=>hashInt k
  | .inr x=>hashStr w x
theorem za6:∀{k:Key} {v:Value},zkm k v=true→(∃ i t,k=Sum.inl i∧v=Value.int i t)∨(∃ x t,k=Sum.inr x∧v=Value.str x t)
  | .inl i,v,h=>by
    obtain ⟨t,e⟩:=Value.isInt_shape (k:=i) (v:=v) h;exact .inl ⟨i,t,rfl,e⟩
  | .inr x,v,h=>by
    obtain ⟨t,e⟩:=Value.isStrOf_shape (x:=x) (v:=v) h;exact .inr ⟨x,t,rfl,e⟩
theorem zl4 (i:Int)(t:Tok):zkm (.inl i) (.int i t)=true:=by simp[zkm,Value.isInt]
theorem zl3 (x:Str)(t:Tok):zkm (.inr x) (.str x t)=true:=by simp[zkm,Value.isStrOf]
theorem zrd (a b:Int):decide ((Sum.inl a:Key)=Sum.inl b)=(a == b):=by
  by_cases e:a=b
  · subst e;simp
  · have h:¬ (Sum.inl a:Key)=Sum.inl b:=fun q=>e (Sum.inl.inj q)
    rw[yai h];exact (beq_eq_false_iff_ne.mpr e).symm
theorem zra (a b:Str):decide ((Sum.inr a:Key)=Sum.inr b)=decide (a=b):=by
  by_cases e:a=b
  · subst e;simp
  · have h:¬ (Sum.inr a:Key)=Sum.inr b:=fun q=>e (Sum.inr.inj q)
    rw[yai h,yai e]
theorem zrc (a:Int)(b:Str):decide ((Sum.inl a:Key)=Sum.inr b)=false:=yai (fun q=>nomatch q)
theorem zrb (a:Str)(b:Int):decide ((Sum.inr a:Key)=Sum.inl b)=false:=yai (fun q=>nomatch q)
def zbr (prog:Program)(w:World):PySem.KeyKind prog w Key where
  is:=zkm
  hash:=keyH w
  inj:=fun v a b ha hb=>by
    rcases za6 ha with ⟨i,t,rfl,rfl⟩ | ⟨x,t,rfl,rfl⟩
    · rcases za6 hb with ⟨j,u,rfl,e⟩ | ⟨y,u,rfl,e⟩
      · injection e with e1 _;rw[e1]
      · exact nomatch e
    · rcases za6 hb with ⟨j,u,rfl,e⟩ | ⟨y,u,rfl,e⟩
      · exact nomatch e
      · injection e with e1 _;rw[e1]
  byValue:=fun k v h=>by
    rcases za6 h with ⟨i,t,rfl,rfl⟩ | ⟨x,t,rfl,rfl⟩ <;> rfl
  pyHash:=fun hv h=>by
    rcases za6 hv with ⟨i,t,rfl,rfl⟩ | ⟨x,t,rfl,rfl⟩
    · exact wpAny_pyHash_int h
    · exact wpAny_pyHash_str h
  eqBool:=fun hu hv h=>by
    rcases za6 hu with ⟨i,t,rfl,rfl⟩ | ⟨x,t,rfl,rfl⟩
    · rcases za6 hv with ⟨j,u,rfl,rfl⟩ | ⟨y,u,rfl,rfl⟩
      · rw[zrd]at h;exact wpAny_eqBool_int h
      · rw[zrc]at h;exact SeqAt.EqAt.int_str i t y u _ _ _ _ h
    · rcases za6 hv with ⟨j,u,rfl,rfl⟩ | ⟨y,u,rfl,rfl⟩
      · rw[zrb]at h;exact SeqAt.EqAt.str_int x t j u _ _ _ _ h
      · rw[zra]at h;exact wpAny_eqBool_str h
  «strs»:=fun k x t v h=>by
    rcases za6 h with ⟨i,u,rfl,e⟩ | ⟨y,u,rfl,e⟩
    · exact nomatch e
    · injection e with e1 _
      subst e1;cases v <;> rfl
theorem ziA (prog:Program)(w:World)(i:Int)(t:Tok):(zbr prog w).is (.inl i) (.int i t)=true:=zl4 i t
theorem ziz (prog:Program)(w:World)(x:Str)(t:Tok):(zbr prog w).is (.inr x) (.str x t)=true:=zl3 x t
end L2
namespace L2
open PySem PySem.Spec PyProof.Rows
inductive V where
  | non | bl (b:Bool) | int (i:Int) | str (x:Str) | byt (b:Array UInt8) | flt (b:UInt64) | ref (a:Addr) | ty (n:String)
  deriving DecidableEq
def RelV:V→Value→Prop
  | .non,u=>u=Value.none
  | .bl b,u=>u=Value.bool b
  | .int i,u=>∃ t,u=Value.int i t
  | .str x,u=>∃ t,u=Value.str x t
  | .byt b,u=>∃ t,u=Value.bytes b t
  | .flt b,u=>∃ t,u=Value.float b t
  | .ref a,u=>u=Value.ref a
  | .ty n,u=>u=Value.type n
abbrev Vals:List V→List Value→Prop:=Paired RelV
theorem Vals.length {xs:List V}{us:List Value}(r:Vals xs us):xs.length=us.length:=Paired.length r
theorem Vals.get:∀{xs:List V} {us:List Value} {i:Nat} {x:V},Vals xs us→xs[i]?=some x→∃ u,us[i]?=some u∧RelV x u
  | _,_,_,_,.nil,e=>by simp at e
  | _,_,0,_,.cons r _,e=>by simp at e;subst e;exact ⟨_,rfl,r⟩
  | _,_,i+1,x,.cons _ t,e=>by
    obtain ⟨u,h1,h2⟩:=Vals.get (i:=i) (x:=x) t (by simpa using e);exact ⟨u,by simpa using h1,h2⟩
theorem Vals.set {x:V}{u:Value}(r:RelV x u):∀{xs:List V} {us:List Value} (i:Nat),Vals xs us→Vals (xs.set i x) (us.set i u)
  | _,_,_,.nil=>.nil
  | _,_,0,.cons _ t=>.cons r t
  | _,_,i+1,.cons q t=>.cons q (Vals.set r i t)
theorem Vals.append:∀{xs ys:List V} {us ws:List Value},Vals xs us→Vals ys ws→Vals (xs++ys) (us++ws)
  | _,_,_,_,.nil,s=>s
  | _,_,_,_,.cons r t,s=>.cons r (Vals.append t s)
theorem Vals.take:∀{xs:List V} {us:List Value} (n:Nat),Vals xs us→Vals (xs.take n) (us.take n)
  | _,_,0,_=>.nil
  | _,_,_+1,.nil=>.nil
  | _,_,n+1,.cons r t=>.cons r (Vals.take n t)
theorem Vals.drop:∀{xs:List V} {us:List Value} (n:Nat),Vals xs us→Vals (xs.drop n) (us.drop n)
  | _,_,0,r=>r
  | _,_,_+1,.nil=>.nil
  | _,_,n+1,.cons _ t=>Vals.drop n t
def RelO:Option V→Option Value→Prop
  | some v,some u=>RelV v u
  | none,none=>True
  | _,_=>False
def KV {κ:Type}:List (κ×V)→List (κ×Value)→Prop:=Paired fun (p:κ×V) (q:κ×Value)=>p.1=q.1∧RelV p.2 q.2
def kV:Key→V
  | .inl i=>.int i
  | .inr x=>.str x
inductive HO where
  | lst (xs:List V)
  | tup (xs:List V)
  | dK (kvs:List (Key×V)) | dT (kvs:List (List Key×V))
  | set (S:Int→Bool) (n:Nat)
  | ins (C dx:Addr) (fs:List (Str×V))
  | own (x:Addr)
  | xd (fs:List (Str×V))
  | met (f x:Addr)
  | rng (lo hi:Int)
  | frz (o:Obj) (u:HO)
  | tbl (ps:Array Value)
  | ext (φ:Heap→Prop)
abbrev Hp:=Addr→Option HO
def upd (H:Hp)(a:Addr)(o:HO):Hp:=fun b=>if b=a then some o else H b
theorem zab {H:Hp}{a:Addr}{o:HO}:upd H a o a=some o:=by unfold upd;rw[if_pos rfl]
theorem zag {H:Hp}{a b:Addr}{o:HO}(h:b≠a):upd H a o b=H b:=by unfold upd;rw[if_neg h]
theorem zoP {H:Hp}{a:Addr}{o u:HO}:upd (upd H a o) a u=upd H a u:=by
  funext b;unfold upd;split <;> rfl
theorem zqQ {H:Hp}{a b:Addr}{o u:HO}(h:H a=some o)(h':H b=some u)(d:o≠u):a≠b:=by
  intro e;subst e;rw[h]at h';exact d (yad h')
theorem zac {H:Hp}{a b:Addr}{o:HO}(h:H a=some o)(h':H b=none):a≠b:=by
  intro e;subst e;rw[h]at h';cases h'
section
variable (P:Program)(w:World)
def za9 (H:Hp)(h:Heap)(a:Addr):HO→Prop
  | .lst xs=>xs.length≤sizeLine∧∃(its:List Value) (n:Nat),Vals xs its∧h.get? a=some { cls:=.type "list",data:=.seq its.toArray n }
  | .tup xs=>xs.length≤sizeLine∧∃ its:List Value,Vals xs its∧IsTup h a its.toArray
  | .dK kvs=>kvs.length≤sizeLine∧(a == sysModules)=false∧∃ vs,KV kvs vs∧h.DictOf (zbr P w) a vs
  | .dT kvs=>kvs.length≤sizeLine∧(a == sysModules)=false∧∃ xs:List (List Key×Addr×Value),
      Paired (fun (p:List Key×V) (q:List Key×Addr×Value)=>p.1=q.1∧H q.2.1=some (.tup (p.1.map kV))∧RelV p.2 q.2.2) kvs xs∧
      ∃ o es ep,h.get? a=some o∧o.ExactDict∧o.data=.dict es ep∧es.toList=xs.map (entryOfKey (tupleKind (zbr P w)))∧(xs.map (·.1)).Nodup
  | .set S n=>h.SetOf (intKind P w) a S n
  | .ins C dx fs=>H dx=some (.own a)∧fs.length≤1000∧dx≠a∧h.get? a=some (PySem.W.instObj C dx)∧
      ∃ mA,h.Ns1 dx mA∧(∀ f,RelO (fs.lookup f) (mA f))∧PySem.Within mA (fs.map (·.1))
  | .own _=>∃ o,h.get? a=some o
  | .xd fs=>∃ mA,h.Ns1 a mA∧∀ f,RelO (fs.lookup f) (mA f)
  | .rng lo hi=>∃ t u v,h.get? a=some { cls:=.type "range",data:=.fields #[.int lo t,.int hi u,.int 1 v] }
  | .frz o u=>h.get? a=some o∧za9 H h a u
  | .tbl ps=>h.get? a=some { cls:=.none,data:=.fields ps }
  | .met f x=>h.get? a=some (PySem.W.methodObj (.ref f) (.ref x))
  | .ext φ=>φ h∧(∃ o,h.get? a=some o)∧∀ h1 h2:Heap,φ h1→(∀ o,h1.get? a=some o→h2.get? a=some o)→φ h2
def HOk (H:Hp)(h:Heap):Prop:=∀ a o,H a=some o→za9 P w H h a o
end
section
variable {P:Program}{w:World}{H H':Hp}{h h':Heap}{a:Addr}{o:HO}
theorem za9.lt (x:za9 P w H h a o):a < h.objs.size:=by
  cases o with
  | lst xs=>obtain ⟨_,_,_,_,e⟩:=x;exact yaf e
  | tup xs=>obtain ⟨_,_,_,p⟩:=x;exact p.lt
  | dK kvs=>obtain ⟨_,_,_,_,o,_,_,e,_⟩:=x;exact yaf e
  | dT kvs=>obtain ⟨_,_,_,_,o,_,_,e,_⟩:=x;exact yaf e
  | set S n=>obtain ⟨o,_,_,_,e,_⟩:=x;exact yaf e
  | ins C dx fs=>obtain ⟨_,_,_,e,_⟩:=x;exact yaf e
  | own y=>obtain ⟨_,e⟩:=x;exact yaf e
  | xd fs=>obtain ⟨_,⟨_,_,_,e,_⟩,_⟩:=x;exact yaf e
  | rng lo hi=>obtain ⟨_,_,_,e⟩:=x;exact yaf e
  | frz ob u=>obtain ⟨e,_⟩:=x;exact yaf e
  | tbl ps=>exact yaf (show h.get? a=some _ from x)
  | met f y=>exact yaf (show h.get? a=some _ from x)
  | ext φ=>obtain ⟨_,⟨_,e⟩,_⟩:=x;exact yaf e
theorem Paired.mapP {α β:Type}{F G:α→β→Prop}:∀{l₁:List α} {l₂:List β},Paired F l₁ l₂→(∀ a b,F a b→G a b)→Paired G l₁ l₂
  | _,_,.nil,_=>.nil
  | _,_,.cons r t,f=>.cons (f _ _ r) (Paired.mapP t f)
theorem za9.stay (x:za9 P w H h a o)(k:∀ b u,(b=a∨H b=some (.own a))→h.get? b=some u→h'.get? b=some u)
    (ho:∀ b,H b=some (.own a)→H' b=some (.own a)) (ht:∀ b xs,H b=some (.tup xs)→H' b=some (.tup xs)):za9 P w H' h' a o:=by
  induction o with
  | lst xs=>obtain ⟨z,its,n,r,e⟩:=x;exact ⟨z,its,n,r,k _ _ (.inl rfl) e⟩
  | tup xs=>obtain ⟨z,its,r,ob,e,c⟩:=x;exact ⟨z,its,r,ob,k _ _ (.inl rfl) e,c⟩
  | dK kvs=>obtain ⟨z,y,vs,r,ob,es,ep,e,c⟩:=x;exact ⟨z,y,vs,r,ob,es,ep,k _ _ (.inl rfl) e,c⟩
  | dT kvs=>
    obtain ⟨z,y,xs,r,ob,es,ep,e,c⟩:=x;exact ⟨z,y,xs,Paired.mapP r fun p q z=>⟨z.1,ht _ _ z.2.1,z.2.2⟩,ob,es,ep,k _ _ (.inl rfl) e,c⟩
  | set S n=>obtain ⟨ob,es,ep,t,e,c⟩:=x;exact ⟨ob,es,ep,t,k _ _ (.inl rfl) e,c⟩
  | ins C dx fs=>
    obtain ⟨d,z,ne,e,mA,⟨od,es,ep,e2,c⟩,r⟩:=x;exact ⟨ho _ d,z,ne,k _ _ (.inl rfl) e,mA,⟨od,es,ep,k _ _ (.inr d) e2,c⟩,r⟩
  | own y=>obtain ⟨ob,e⟩:=x;exact ⟨ob,k _ _ (.inl rfl) e⟩
  | xd fs=>obtain ⟨mA,⟨od,es,ep,e,c⟩,r⟩:=x;exact ⟨mA,⟨od,es,ep,k _ _ (.inl rfl) e,c⟩,r⟩
  | rng lo hi=>obtain ⟨t,u,v,e⟩:=x;exact ⟨t,u,v,k _ _ (.inl rfl) e⟩
  | frz ob u ih=>obtain ⟨e,q⟩:=x;exact ⟨k _ _ (.inl rfl) e,ih q⟩
  | tbl ps=>
    have e:h.get? a=some { cls:=.none,data:=.fields ps }:=x;show h'.get? a=some { cls:=.none,data:=.fields ps };exact k a _ (.inl rfl) e
  | met f y=>
    have e:h.get? a=some (PySem.W.methodObj (.ref f) (.ref y)):=x;show h'.get? a=some (PySem.W.methodObj (.ref f) (.ref y));exact k a _ (.inl rfl) e
  | ext φ=>obtain ⟨p,⟨o,e⟩,st⟩:=x;exact ⟨st _ _ p fun o q=>k _ _ (.inl rfl) q,⟨o,k _ _ (.inl rfl) e⟩,st⟩
theorem HOk.lt (x:HOk P w H h)(e:H a=some o):a < h.objs.size:=(x a o e).lt
theorem HOk.fresh (x:HOk P w H h)(e:h.objs.size≤a):H a=none:=by
  cases q:H a with
  | none=>rfl
  | some u=>exact absurd (yaw (x.lt q) e) (ybh _)
theorem HOk.kept (x:HOk P w H h)(k:∀ b u,h.get? b=some u→h'.get? b=some u):HOk P w H h':=fun a o e=>
  (x a o e).stay (fun b u _ q=>k b u q) (fun _ q=>q) fun _ _ q=>q
theorem HOk.laid (x:HOk P w H h)(k:∀ b u,h.get? b=some u→h'.get? b=some u)(hp:h.objs.size≤a)(new:za9 P w (upd H a o) h' a o):HOk P w (upd H a o) h':=fun b u e=>by
  have hn:=x.fresh hp;by_cases hb:b=a
  · subst hb;rw[zab]at e;cases e;exact new
  · rw[zag hb]at e
    exact (x b u e).stay (fun c v _ q=>k c v q) (fun c q=>by rw[zag (zac q hn)];exact q) fun c xs q=>by rw[zag (zac q hn)];exact q
end
def Rd (H:Hp)(a:Addr)(u:HO):Prop:=H a=some u∨∃ o,H a=some (.frz o u)
theorem Rd.ok {P:Program}{w:World}{H:Hp}{h:Heap}{a:Addr}{u:HO}(r:Rd H a u)(x:HOk P w H h):za9 P w H h a u:=by
  rcases r with r | ⟨o,r⟩
  · exact x a u r
  · obtain ⟨_,q⟩:=x a _ r
    exact q
def Mut:Option HO→Prop
  | some (.lst _)=>True
  | some (.dK _)=>True
  | some (.dT _)=>True
  | some (.set _ _)=>True
  | some (.ins _ _ _)=>True
  | some (.ext _)=>True
  | _=>False
section
variable {P:Program}{w:World}{H:Hp}{h h':Heap}{x e:Addr}{o':HO}
theorem HOk.write (ok:HOk P w H h)(mu:Mut (H x))(he:e=x∨H e=some (.own x))(k:∀ b u,b≠e→h.get? b=some u→h'.get? b=some u)(heo:∃ u,h'.get? e=some u)
    (new:za9 P w (upd H x o') h' x o'):HOk P w (upd H x o') h':=fun b u q=>by
  have nown:∀ c y,H c=some (.own y)→c≠x:=fun c y r z=>by subst z;rw[r]at mu;exact mu
  have ntup:∀ c xs,H c=some (.tup xs)→c≠x:=fun c xs r z=>by subst z;rw[r]at mu;exact mu
  by_cases hb:b=x
  · subst hb;rw[zab]at q;cases q;exact new
  · rw[zag hb]at q
    by_cases hbe:b=e
    · have q':H b=some (.own x):=by
        rcases he with z | z
        · exact absurd (hbe.trans z) hb
        · rw[hbe];exact z
      rw[q]at q';cases q'
      obtain ⟨v,hv⟩:=heo;exact ⟨v,by rw[hbe];exact hv⟩
    · refine (ok b u q).stay (fun c v hc r=>k c v ?_ r) (fun c r=>by rw[zag (nown c b r)];exact r) fun c xs r=>by rw[zag (ntup c xs r)];exact r
      rcases hc with rfl | hc
      · exact hbe
      · rintro rfl
        rcases he with z | z
        · exact nown c b hc z
        · rw[hc]at z;cases z;exact hb rfl
end
structure Un (fs ex:List Addr)(H H':Hp)(h h':Heap):Prop where
  keep:∀ b o,h.get? b=some o→H b=none→b∉fs→b∉ex→h'.get? b=some o
  slot:∀ b o,h.get? b=some o→H b=none→b∈fs→b∉ex→∃ sl,h'.get? b=some { o with slots:=sl }
  free:∀ b o,h.get? b=some o→H b=none→b∉ex→H' b=none
  there:∀ b o,h.get? b=some o→b∉ex→∃ o',h'.get? b=some o'
  tups:∀ b xs,H b=some (.tup xs)→H' b=some (.tup xs)
  frzs:∀ b o u,H b=some (.frz o u)→H' b=some (.frz o u)
  tbls:∀ b ps,H b=some (.tbl ps)→∃ more,H' b=some (.tbl (ps++more))
section
variable {fs fs' ex ex':List Addr}{H H1 H2:Hp}{h h1 h2 h':Heap}{a x e:Addr}{o:HO}
theorem Un.any (u:Un fs ex H H1 h h1){b:Addr}{ob:Obj}(q:h.get? b=some ob)(n:H b=none)(hx:b∉ex):∃ sl,h1.get? b=some { ob with slots:=sl }:=by
  by_cases hb:b∈fs
  · exact u.slot b ob q n hb hx
  · exact ⟨ob.slots,u.keep b ob q n hb hx⟩
theorem Un.kept (k:∀ b u,h.get? b=some u→h'.get? b=some u):Un fs ex H H h h':=
  ⟨fun b ob q _ _ _=>k b ob q,fun b ob q _ _ _=>⟨ob.slots,k b ob q⟩,fun _ _ _ n _=>n,fun b ob q _=>⟨ob,k b ob q⟩,fun _ _ q=>q,fun _ _ _ q=>q,fun _ ps q=>⟨#[],by rw[q];simp⟩⟩
theorem Un.refl:Un fs ex H H h h:=Un.kept fun _ _ q=>q
theorem Un.laid (k:∀ b u,h.get? b=some u→h'.get? b=some u)(hp:h.objs.size≤a)(hn:H a=none):Un fs ex H (upd H a o) h h' where
  keep:=fun b u q _ _ _=>k b u q
  slot:=fun b u q _ _ _=>⟨u.slots,k b u q⟩
  free:=fun b u q n _=>by rw[zag (yao (yaw (yaf q) hp))];exact n
  there:=fun b u q _=>⟨u,k b u q⟩
  tups:=fun b xs q=>by rw[zag (zac q hn)];exact q
  frzs:=fun b u xs q=>by rw[zag (zac q hn)];exact q
  tbls:=fun b ps q=>⟨#[],by rw[zag (zac q hn),q];simp⟩
theorem Un.write (mu:Mut (H x))(he:e=x∨H e=some (.own x))(k:∀ b u,b≠e→h.get? b=some u→h'.get? b=some u)(heo:∃ u,h'.get? e=some u):Un fs ex H (upd H x o) h h':=by
  have hx:∀ b,H b=none→b≠x:=fun b n z=>by subst z;rw[n]at mu;exact mu
  have hb:∀ b,H b=none→b≠e:=fun b n z=>by
    subst z;rcases he with r | r
    · exact hx b n r
    · rw[n]at r;cases r
  have hm:∀ b u,H b=some u→¬ Mut (some u)→b≠x:=fun b u q nm z=>by subst z;rw[q]at mu;exact nm mu
  refine ⟨fun b u q n _ _=>k b u (hb b n) q,fun b u q n _ _=>⟨u.slots,k b u (hb b n) q⟩,fun b u q n _=>by rw[zag (hx b n)];exact n,fun b u q _=>?_,
    fun b xs q=>by rw[zag (hm b _ q fun z=>z)];exact q,fun b u xs q=>by rw[zag (hm b _ q fun z=>z)];exact q,fun b ps q=>⟨#[],by rw[zag (hm b _ q fun z=>z),q];simp⟩⟩
  by_cases hbe:b=e
  · subst hbe;exact heo
  · exact ⟨u,k b u hbe q⟩
end
def trk (h:Heap)(H:Hp):List Addr:=(List.range h.objs.size).filter fun a=>(H a).isSome
def hidT (h:Heap)(H:Hp):Heap:=PySem.W.hideAll h (trk h H)
theorem zmb (h:Heap)(H:Hp):(hidT h H).objs.size=h.objs.size:=PySem.W.hideAll_size _ _
theorem znM {h:Heap}{H:Hp}{b:Addr}{o:Obj}(e:h.get? b=some o)(n:H b=none):(hidT h H).get? b=some o:=
  PySem.W.hideAll_get _ e fun hm=>by
    have q:(H b).isSome=true:=(ya7.mp hm).2;rw[n]at q;simp at q
theorem zpt {h:Heap}{H:Hp}{b:Addr}{o:Obj}(e:(hidT h H).get? b=some o):h.get? b=some o∧H b=none:=by
  have e':h.get? b=some o:=PySem.W.of_hideAll (trk h H) e;refine ⟨e',?_⟩;cases q:H b with
  | none=>rfl
  | some x=>
    have hm:b∈trk h H:=ya7.mpr ⟨ya8.mpr (yaf e'),by simp[q]⟩;have z:(hidT h H).get? b=none:=PySem.W.hideAll_none (trk h H) hm;rw[z]at e;cases e
def zpX (g h:Heap)(L:Addr):List (Addr×Obj):=(List.range h.objs.size).filterMap fun a=>if a=L∨(g.get? a).isSome=true then none else (h.get? a).map fun o=>(a,o)
def rest (g h:Heap)(L d:Addr):List (Addr×Obj):=(zpX g h L).filter fun p=>decide (p.1≠d)
end L2
namespace L2
open PySem PySem.Spec PyProof.Rows
structure Mod (K:Frag)(mg:Str→Option Value)(base:Heap):Prop where
  kin:K.In base
  glob:base.Ns mainGlobals mg
  blt:∃ mb,base.Ns builtinsNs mb∧∀ x:Str,x ≠ "__name__"→mb x=bootBuiltins x
  nolimit:base.NoLimit
structure Cx where
  prog:Program
  w:World
  K:Frag
  mg:Str→Option Value
  base:Heap
  A:Around
  N:List Str
  s₀:Shared
  H₀:Hp
  env:Env
  outer:List Env
  stack:List Env
  ex:List Addr
  fn:Str→Bool
  calm:Bool
  pn:List (Addr×Obj)
  xe:Value→Shared→Prop
def frs (l:List Env):List Addr:=l.filterMap (·.frame)
abbrev Cx.fs (X:Cx):List Addr:=frs X.outer
def Vis (sc:Scope)(x:Str):Prop:=sc.names.lookup x=some .local∨sc.names.lookup x=some .cell∨sc.names.lookup x=some .free
def Loc (sc:Scope)(x:Str):Prop:=sc.names.lookup x=some .local∨sc.names.lookup x=some .cell
def Look (env:Env)(h:Heap)(m:Str→Option Value)(x:Str)(u:Value):Prop:=
  (env.kindOf x=some .local∧m x=some u)∨((env.kindOf x=some .cell∨env.kindOf x=some .free)∧∃ c,env.cells.lookup x=some c∧h.IsCell c (some u))
structure Cx.Ok (X:Cx):Prop where
  mod:Mod X.K X.mg X.base
  kind:X.env.scope.kind=.function
  glob:X.env.globals=mainGlobals
  blt:X.env.builtins=builtinsNs
  above:X.s₀.heap.objs.size≤X.env.locals
  inj:∀ x y c,X.env.cells.lookup x=some c→X.env.cells.lookup y=some c→x=y
  has:∀ x,(X.env.kindOf x=some .cell∨X.env.kindOf x=some .free)→∃ c,X.env.cells.lookup x=some c
  cab:∀ x c,X.fn x=true→X.env.cells.lookup x=some c→X.s₀.heap.objs.size≤c
  hd:X.calm=true→X.A.handled=none
  frames:X.A.frames=some X.stack
  stk:X.stack=X.outer∨(X.stack=X.env::X.outer∧X.env.frame=some X.env.locals)
  exf:∀ b∈X.ex,b≠X.env.locals∧∀ x c,X.env.cells.lookup x=some c→c≠b
  bs:∀ b o,X.base.get? b=some o→X.s₀.heap.get? b=some o∧X.H₀ b=none
  bsz:X.base.objs.size≤X.s₀.heap.objs.size
  noex:∀ b o,X.base.get? b=some o→b∉X.ex
  exfs:∀ b∈X.ex,b∉X.fs
  funs:X.s₀.heap.FunFrames X.base X.outer
  frf:∀ b∈X.fs,X.H₀ b=none
structure Inv (X:Cx)(pins:List (Addr×Obj))(σ:List (Option V))(H:Hp)(s:Shared):Prop where
  ok:X.Ok
  os:s.os=X.s₀.os
  bare:AllBare s.gens
  base:Un X.fs X.ex X.H₀ H X.s₀.heap s.heap
  loc:∃ m,s.heap.Ns X.env.locals m∧∀(i:Nat) (x:Str) (v:V),X.N[i]?=some x→σ[i]?=some (some v)→Vis X.env.scope x→∃ u,RelV v u∧Look X.env s.heap m x u
  cell:∀ x c,X.env.cells.lookup x=some c→∃ v,s.heap.IsCell c v
  free:H X.env.locals=none
  freeC:∀ x c,X.env.cells.lookup x=some c→H c=none
  pin:∀ p∈X.pn++pins,s.heap.get? p.1=some p.2∧H p.1=none∧p.1≠X.env.locals∧p.1∉X.fs∧∀ v,p.2.data≠.cell v
  hok:HOk X.prog X.w H s.heap
  len:σ.length=X.N.length
section
variable {X:Cx}{pins:List (Addr×Obj)}{σ:List (Option V)}{H H':Hp}{s:Shared}{h':Heap}
theorem Cx.Ok.nofr (ok:X.Ok){b:Addr}{o:Obj}(e:X.base.get? b=some o):b∉X.fs:=fun hb=>by
  have:=(ok.funs.mem hb).1;rw[e]at this;cases this
theorem Inv.bs (I:Inv X pins σ H s):∀ b o,X.base.get? b=some o→s.heap.get? b=some o∧H b=none:=fun b o e=>
  ⟨I.base.keep b o (I.ok.bs b o e).1 (I.ok.bs b o e).2 (I.ok.nofr e) (I.ok.noex b o e),I.base.free b o (I.ok.bs b o e).1 (I.ok.bs b o e).2 (I.ok.noex b o e)⟩
theorem Inv.bk (I:Inv X pins σ H s):∀ b o,X.base.get? b=some o→s.heap.get? b=some o:=fun b o e=>(I.bs b o e).1
theorem Inv.mod (I:Inv X pins σ H s):Mod X.K X.mg X.base:=I.ok.mod
theorem Inv.kIn (I:Inv X pins σ H s):X.K.In s.heap:=I.ok.mod.kin.keeps I.bk
theorem Inv.lt (I:Inv X pins σ H s):X.env.locals < s.heap.objs.size:=let ⟨_,hn,_⟩:=I.loc;hn.lt
theorem Inv.sz (I:Inv X pins σ H s):X.s₀.heap.objs.size≤s.heap.objs.size:=yaA I.ok.above (ya1 I.lt)
theorem Inv.nofs (I:Inv X pins σ H s){a:Addr}(h:s.heap.objs.size≤a):a∉X.fs:=fun hb=>by
  obtain ⟨_,o,ho,_⟩:=I.ok.funs.mem hb;exact absurd (yaw (yaf ho) (yaA I.sz h)) (ybh _)
theorem Inv.cne (I:Inv X pins σ H s):∀ x c,X.env.cells.lookup x=some c→c≠X.env.locals:=fun x c e z=>by
  obtain ⟨v,o,ho,hd⟩:=I.cell x c e;obtain ⟨m,⟨o',es,ep,ho',hd',_⟩,_⟩:=I.loc;rw[z,ho']at ho;cases ho;rw[hd']at hd;cases hd
theorem Inv.funs (I:Inv X pins σ H s):s.heap.FunFrames X.base X.outer:=by
  have all:∀(l:List Env),(∀ b∈frs l,b∈X.fs)→X.s₀.heap.FunFrames X.base l→s.heap.FunFrames X.base l:=by
    intro l
    induction l with
    | nil=>intro _ _;trivial
    | cons env r ih=>
      intro hs hl;obtain ⟨hk,⟨L,o,hf,hn,ho,hd⟩,hr⟩:=hl;have hL:L∈X.fs:=hs L (by unfold frs;rw[ybw,hf];exact yaF);obtain ⟨sl,e⟩:=I.base.slot L o ho (I.ok.frf L hL) hL fun z=>I.ok.exfs L z hL;exact ⟨hk,⟨L,_,hf,hn,e,hd⟩,ih (fun b hb=>hs b (by unfold frs;rw[ybw,hf];exact yax _ hb)) hr⟩
  exact all X.outer (fun _ hb=>hb) I.ok.funs
theorem Inv.stack (I:Inv X pins σ H s):s.heap.FunFrames X.base X.stack:=by
  rcases I.ok.stk with e | ⟨e,hf⟩
  · rw[e];exact I.funs
  · rw[e]
    obtain ⟨m,hn,_⟩:=I.loc;refine .cons (by rw[I.ok.kind];decide) hf hn ?_ I.funs;exact Heap.get?_none_of_le (yaA I.ok.bsz I.ok.above)
theorem Inv.stkSub (I:Inv X pins σ H s):∀ b∈frs X.stack,b∈X.env.locals::X.fs:=fun b hb=>by
  rcases I.ok.stk with e | ⟨e,hf⟩
  · rw[e]at hb;exact yax _ hb
  · rw[e]at hb
    unfold frs at hb;rw[ybw,hf]at hb;exact hb
theorem Inv.stkFree (I:Inv X pins σ H s):∀ b∈frs X.stack,H b=none:=fun b hb=>by
  rcases yam.mp (I.stkSub b hb) with e | hb
  · rw[e];exact I.free
  · obtain ⟨_,o,ho,_⟩:=I.ok.funs.mem hb
    exact I.base.free b o ho (I.ok.frf b hb) fun z=>I.ok.exfs b z hb
theorem Inv.step {g':Array GenState}{t':Nat}{d':Drawn}{ch:List Addr}(I:Inv X pins σ H s)
    (hch:∀ b∈ch,(b∈X.ex∨X.s₀.heap.objs.size≤b)∧b≠X.env.locals∧(∀ x c,X.env.cells.lookup x=some c→c≠b)∧∀ p∈X.pn++pins,p.1≠b)
    (keep:∀ b o,b≠X.env.locals→b∉X.fs→b∉ch→s.heap.get? b=some o→H b=none→h'.get? b=some o)
    (slot:∀ b o,b≠X.env.locals→b∈X.fs→b∉ch→s.heap.get? b=some o→H b=none→∃ sl,h'.get? b=some { o with slots:=sl }) (free:∀ b o,b∉ch→s.heap.get? b=some o→H b=none→H' b=none)
    (there:∀ b o,b∉ch→s.heap.get? b=some o→∃ o',h'.get? b=some o')
    (tups:∀ b xs,H b=some (.tup xs)→H' b=some (.tup xs)) (frzs:∀ b o u,H b=some (.frz o u)→H' b=some (.frz o u)) (tbls:∀ b ps,H b=some (.tbl ps)→∃ more,H' b=some (.tbl (ps++more)))
    (ns:∀ m,s.heap.Ns X.env.locals m→h'.Ns X.env.locals m) (hok:HOk X.prog X.w H' h') (hg:AllBare g') :
    Inv X pins σ H' { s with heap:=h',gens:=g',drawn:=d',toks:=t' }:=by
  have neL:∀ b o,X.s₀.heap.get? b=some o→b≠X.env.locals:=fun b o e=>yao (yaw (yaf e) I.ok.above);have neC:∀ b o,X.s₀.heap.get? b=some o→b∉X.ex→b∉ch:=fun b o e hx hb=>by
    rcases (hch b hb).1 with z | z
    · exact hx z
    · exact absurd (yaw (yaf e) z) (ybh _)
  have cellK:∀ x c,X.env.cells.lookup x=some c→∀ v,s.heap.IsCell c v→h'.IsCell c v:=fun x c e v ⟨o,ho,hd⟩=>by
    have nch:c∉ch:=fun z=>(hch c z).2.2.1 x c e rfl;by_cases hc:c∈X.fs
    · obtain ⟨sl,q⟩:=slot c o (I.cne x c e) hc nch ho (I.freeC x c e)
      exact ⟨_,q,hd⟩
    · exact ⟨o,keep c o (I.cne x c e) hc nch ho (I.freeC x c e),hd⟩
  refine ⟨I.ok,I.os,hg,⟨fun b o e n hb hx=>?_,fun b o e n hb hx=>?_,fun b o e n hx=>?_,fun b o e hx=>?_,fun b xs e=>tups b xs (I.base.tups b xs e),fun b o xs e=>frzs b o xs (I.base.frzs b o xs e),fun b ps e=>?_⟩,?_,fun x c e=>?_,?_,fun x c e=>?_,fun p hp=>?_,hok,I.len⟩
  · exact keep b o (neL b o e) hb (neC b o e hx) (I.base.keep b o e n hb hx) (I.base.free b o e n hx)
  · obtain ⟨sl,e1⟩:=I.base.slot b o e n hb hx
    obtain ⟨sl',e2⟩:=slot b _ (neL b o e) hb (neC b o e hx) e1 (I.base.free b o e n hx);exact ⟨sl',e2⟩
  · obtain ⟨o',e1⟩:=I.base.there b o e hx
    exact free b o' (neC b o e hx) e1 (I.base.free b o e n hx)
  · obtain ⟨o',e1⟩:=I.base.there b o e hx
    exact there b o' (neC b o e hx) e1
  · obtain ⟨m1,e1⟩:=I.base.tbls b ps e
    obtain ⟨m2,e2⟩:=tbls b _ e1;exact ⟨m1++m2,by rw[e2,Array.append_assoc]⟩
  · obtain ⟨m,hn,hl⟩:=I.loc
    refine ⟨m,ns m hn,fun i x v e1 e2 e3=>?_⟩;obtain ⟨u,r,l⟩:=hl i x v e1 e2 e3;refine ⟨u,r,?_⟩;rcases l with l | ⟨k,c,e,z⟩
    · exact .inl l
    · exact .inr ⟨k,c,e,cellK x c e _ z⟩
  · obtain ⟨v,z⟩:=I.cell x c e
    exact ⟨v,cellK x c e v z⟩
  · obtain ⟨m,⟨o,_,_,ho,_⟩,_⟩:=I.loc
    exact free _ o (fun z=>(hch _ z).2.1 rfl) ho I.free
  · obtain ⟨v,o,ho,hd⟩:=I.cell x c e
    exact free c o (fun z=>(hch c z).2.2.1 x c e rfl) ho (I.freeC x c e)
  · obtain ⟨e,n,ne,nf,d⟩:=I.pin p hp
    have nch:p.1∉ch:=fun z=>(hch p.1 z).2.2.2 p hp rfl;exact ⟨keep p.1 p.2 ne nf nch e n,free p.1 p.2 nch e n,ne,nf,d⟩
theorem Inv.un {t':Nat}(I:Inv X pins σ H s)(u:Un X.fs [] H H' s.heap h')(hok:HOk X.prog X.w H' h'):Inv X pins σ H' { s with heap:=h',toks:=t' }:=by
  obtain ⟨m,⟨o,es,ep,ho,r⟩,_⟩:=id I.loc;obtain ⟨sl,hL⟩:=u.any ho I.free (by simp);exact I.step (g':=s.gens) (d':=s.drawn) (ch:=[]) (fun _ z=>nomatch z) (fun b o _ hb _ e n=>u.keep b o e n hb (by simp)) (fun b o _ hb _ e n=>u.slot b o e n hb (by simp)) (fun b o _ e n=>u.free b o e n (by simp)) (fun b o _ e=>u.there b o e (by simp)) u.tups u.frzs u.tbls (fun m' hm=>by
    obtain ⟨o',es',ep',ho',r'⟩:=hm;rw[ho]at ho';cases ho'
    exact ⟨_,es',ep',hL,r'⟩) hok I.bare
theorem Inv.call {g':Array GenState}{t':Nat}{d':Drawn}{ch:List Addr}(I:Inv X pins σ H s)(u:Un (frs X.stack) ch H H' s.heap h')(hok:HOk X.prog X.w H' h')(hg:AllBare g')
    (hch:∀ b∈ch,(b∈X.ex∨X.s₀.heap.objs.size≤b)∧b≠X.env.locals∧(∀ x c,X.env.cells.lookup x=some c→c≠b)∧∀ p∈X.pn++pins,p.1≠b) :
    Inv X pins σ H' { s with heap:=h',gens:=g',drawn:=d',toks:=t' }:=by
  obtain ⟨m,⟨o,es,ep,ho,r⟩,_⟩:=id I.loc;obtain ⟨sl,hL⟩:=u.any ho I.free fun z=>(hch _ z).2.1 rfl;exact I.step (ch:=ch) hch (fun b o hL hb hc e n=>u.keep b o e n (fun z=>(yam.mp (I.stkSub b z)).elim hL hb) hc) (fun b o _ _ hc e n=>u.any e n hc) (fun b o hc e n=>u.free b o e n hc) (fun b o hc e=>u.there b o e hc) u.tups u.frzs u.tbls (fun m' hm=>by
    obtain ⟨o',es',ep',ho',r'⟩:=hm;rw[ho]at ho';cases ho'
    exact ⟨_,es',ep',hL,r'⟩) hok hg
theorem Inv.turned {t':Nat}{it:Addr}(I:Inv X pins σ H s)(k:∀ b o,b≠it→s.heap.get? b=some o→h'.get? b=some o)(hn:H it=none)(hL:it≠X.env.locals)
    (h1:it∈X.ex∨X.s₀.heap.objs.size≤it) (h2:∀ x c,X.env.cells.lookup x=some c→c≠it) (h3:∀ p∈X.pn++pins,p.1≠it):Inv X pins σ H { s with heap:=h',toks:=t' }:=by
  have nit:∀ b u,H b=some u→b≠it:=fun b u e z=>by rw[z,hn]at e;cases e
  refine I.step (g':=s.gens) (d':=s.drawn) (ch:=[it]) (fun b hb=>?_) (fun b o _ _ hc e _=>k b o (fun z=>hc (by simp[z])) e) (fun b o _ _ hc e _=>⟨o.slots,k b o (fun z=>hc (by simp[z])) e⟩) (fun _ _ _ _ n=>n)
    (fun b o hc e=>⟨o,k b o (fun z=>hc (by simp[z])) e⟩) (fun _ _ e=>e) (fun _ _ _ e=>e) (fun b ps e=>⟨#[],by rw[e];simp⟩) (fun m hm=>?_) (fun b u e=>?_) I.bare
  · have e:b=it:=by simpa using hb
    subst e;exact ⟨h1,hL,h2,h3⟩
  · obtain ⟨o,es,ep,ho,r⟩:=hm
    exact ⟨o,es,ep,k _ o (Ne.symm hL) ho,r⟩
  · refine (I.hok b u e).stay (fun c v hc q=>k c v ?_ q) (fun _ q=>q) fun _ _ q=>q
    rcases hc with z | z
    · rw[z];exact nit b u e
    · exact nit c _ z
theorem Inv.tok (I:Inv X pins σ H s)(t:Nat):Inv X pins σ H { s with toks:=t }:=I.un (h':=s.heap) (t':=t) Un.refl I.hok
theorem Inv.kept {t':Nat}(I:Inv X pins σ H s)(k:∀ b u,s.heap.get? b=some u→h'.get? b=some u):Inv X pins σ H { s with heap:=h',toks:=t' }:=I.un (Un.kept k) (I.hok.kept k)
theorem Inv.laid {a:Addr}{o:HO}{t':Nat}(I:Inv X pins σ H s)(k:∀ b u,s.heap.get? b=some u→h'.get? b=some u)(hp:s.heap.objs.size≤a)(new:za9 X.prog X.w (upd H a o) h' a o) :
    Inv X pins σ (upd H a o) { s with heap:=h',toks:=t' }:=I.un (Un.laid k hp (I.hok.fresh hp)) (I.hok.laid k hp new)
theorem Inv.write {x e:Addr}{o:HO}{t':Nat}(I:Inv X pins σ H s)(mu:Mut (H x))(he:e=x∨H e=some (.own x))(k:∀ b u,b≠e→s.heap.get? b=some u→h'.get? b=some u)(heo:∃ u,h'.get? e=some u)
    (new:za9 X.prog X.w (upd H x o) h' x o):Inv X pins σ (upd H x o) { s with heap:=h',toks:=t' }:=I.un (Un.write mu he k heo) (I.hok.write mu he k heo new)
theorem Inv.pins_of {pins':List (Addr×Obj)}(I:Inv X pins σ H s)(h:∀ p∈pins',s.heap.get? p.1=some p.2∧H p.1=none∧p.1≠X.env.locals∧p.1∉X.fs∧∀ v,p.2.data≠.cell v):Inv X pins' σ H s:=
  ⟨I.ok,I.os,I.bare,I.base,I.loc,I.cell,I.free,I.freeC,fun p hp=>(yaj.mp hp).elim (fun z=>I.pin p (yaT _ z)) (h p),I.hok,I.len⟩
theorem zg9 {N:List Str}(hN:N.Nodup){i j:Nat}{x:Str}(a:N[i]?=some x)(b:N[j]?=some x):i=j:=by
  obtain ⟨h1,e1⟩:=yak.mp a;obtain ⟨h2,e2⟩:=yak.mp b;exact (List.getElem_inj hN).mp (e1.trans e2.symm)
theorem zhx {M:Model}{A:Around}{E:Value→Shared→Prop}{i:Nat}{x:Str}{v:V}{u:Value}{Q:Unit→Shared→Prop}(I:Inv X pins σ H s)(hN:X.N.Nodup)(hi:X.N[i]?=some x)(hx:Loc X.env.scope x)(r:RelV v u)
    (h:∀ s',Inv X pins (σ.set i (some v)) H s'→(∃ a,Heap.SameBut a s.heap s'.heap∧(a=X.env.locals∨X.env.cells.lookup x=some a))→Q () s') (hf:X.fn x=true∨X.env.scope.names.lookup x=some .local:=by first | exact .inl rfl | exact .inr rfl | assumption):wpAny M A (storeName X.env x u) Q E s:=by
  obtain ⟨m,hn,hl⟩:=id I.loc;have hcls:(X.env.scope.kind == .class || (X.env.scope.kind == .module && X.env.locals != X.env.globals))=false:=by rw[I.ok.kind];rfl
  have hiσ:i < σ.length:=by rw[I.len];exact (yak.mp hi).1
  have cne:=I.cne;have tracked:∀{a:Addr} {h':Heap},(∃ o,s.heap.get? a=some o∧H a=none)→Heap.SameBut a s.heap h'→HOk X.prog X.w H h':=fun {a h'} ha hs b ob e=>by
    obtain ⟨_,_,hfree⟩:=ha;refine (I.hok b ob e).stay (fun c w' hc q=>(hs.2 c ?_).trans q) (fun _ q=>q) fun _ _ q=>q;rintro rfl;rcases hc with rfl | hc
    · rw[hfree]at e;cases e
    · rw[hfree]at hc;cases hc
  rcases hx with hk | hk
  · refine wpAny_storeName_local hk hn (fun h' hn' hs=>?_) hcls
    obtain ⟨oL,_,_,hoL,_⟩:=id hn;refine h _ ⟨I.ok,I.os,I.bare,⟨fun b o e n hb hx=>?_,fun b o e n hb hx=>?_,I.base.free,fun b o e hx=>?_,I.base.tups,I.base.frzs,I.base.tbls⟩,⟨_,hn',fun j y v' e1 e2 e3=>?_⟩,fun y c e=>?_,I.free,I.freeC,fun p hp=>?_,tracked ⟨oL,hoL,I.free⟩ hs,by simpa using I.len⟩ ⟨_,hs,.inl rfl⟩
    · exact (hs.2 b (yao (yaw (yaf e) I.ok.above))).trans (I.base.keep b o e n hb hx)
    · obtain ⟨sl,e1⟩:=I.base.slot b o e n hb hx
      exact ⟨sl,(hs.2 b (yao (yaw (yaf e) I.ok.above))).trans e1⟩
    · obtain ⟨o',e1⟩:=I.base.there b o e hx
      exact ⟨o',(hs.2 b (yao (yaw (yaf e) I.ok.above))).trans e1⟩
    · by_cases hj:j=i
      · subst hj
        rw[hi]at e1;cases e1
        rw[List.getElem?_set_self hiσ]at e2;cases e2
        exact ⟨u,r,.inl ⟨hk,by simp⟩⟩
      · rw[ycs (Ne.symm hj)]at e2
        obtain ⟨u',r',q⟩:=hl j y v' e1 e2 e3;refine ⟨u',r',?_⟩;rcases q with ⟨k,e⟩ | ⟨k,c,e,z⟩
        · refine .inl ⟨k,?_⟩
          have:y≠x:=fun e=>hj (zg9 hN e1 (e ▸ hi));simp[this,e]
        · exact .inr ⟨k,c,e,z.sameBut hs (cne y c e)⟩
    · obtain ⟨w',z⟩:=I.cell y c e
      exact ⟨w',z.sameBut hs (cne y c e)⟩
    · obtain ⟨e,n,ne,nf,d⟩:=I.pin p hp
      exact ⟨(hs.2 p.1 ne).trans e,n,ne,nf,d⟩
  · have hfn:X.fn x=true:=by
      rcases hf with z | z
      · exact z
      · rw[z]at hk;cases hk
    obtain ⟨c,hc⟩:=I.ok.has x (.inl hk);obtain ⟨w',z⟩:=I.cell x c hc;refine wpAny_storeName_cell I.ok.kind hk hc z (fun h' hc' hs=>?_);obtain ⟨oc,hoc,hocd⟩:=id z;refine h { s with heap:=h' } ⟨I.ok,I.os,I.bare,⟨fun b o e n hb hx=>?_,fun b o e n hb hx=>?_,I.base.free,fun b o e hx=>?_,I.base.tups,I.base.frzs,I.base.tbls⟩,⟨m,hn.sameBut hs (Ne.symm (cne x c hc)),fun j y v' e1 e2 e3=>?_⟩,fun y c' e=>?_,I.free,I.freeC,fun p hp=>?_,tracked ⟨oc,hoc,I.freeC x c hc⟩ hs,by simpa using I.len⟩ ⟨c,hs,.inr hc⟩
    · exact (hs.2 b (yao (yaw (yaf e) (I.ok.cab x c hfn hc)))).trans (I.base.keep b o e n hb hx)
    · obtain ⟨sl,e1⟩:=I.base.slot b o e n hb hx
      exact ⟨sl,(hs.2 b (yao (yaw (yaf e) (I.ok.cab x c hfn hc)))).trans e1⟩
    · obtain ⟨o',e1⟩:=I.base.there b o e hx
      exact ⟨o',(hs.2 b (yao (yaw (yaf e) (I.ok.cab x c hfn hc)))).trans e1⟩
    · by_cases hj:j=i
      · subst hj
        rw[hi]at e1;cases e1
        rw[List.getElem?_set_self hiσ]at e2;cases e2
        exact ⟨u,r,.inr ⟨.inl hk,c,hc,hc'⟩⟩
      · rw[ycs (Ne.symm hj)]at e2
        obtain ⟨u',r',q⟩:=hl j y v' e1 e2 e3;refine ⟨u',r',?_⟩;rcases q with q | ⟨k,c',e,z'⟩
        · exact .inl q
        · refine .inr ⟨k,c',e,z'.sameBut hs ?_⟩
          rintro rfl;exact hj (zg9 hN e1 (I.ok.inj _ _ _ e hc ▸ hi))
    · by_cases hcc:c'=c
      · subst hcc;exact ⟨_,hc'⟩
      · obtain ⟨w2,z2⟩:=I.cell y c' e
        exact ⟨w2,z2.sameBut hs hcc⟩
    · obtain ⟨e,n,ne,nf,d⟩:=I.pin p hp
      refine ⟨(hs.2 p.1 ?_).trans e,n,ne,nf,d⟩;intro q;rw[q,hoc]at e;have q':oc=p.2:=yad e;exact d w' (by rw[← q'];exact hocd)
theorem zgF {M:Model}{A:Around}{E:Value→Shared→Prop}{i:Nat}{x:Str}{v:V}{u:Value}{Q:Unit→Shared→Prop}(I:Inv X pins σ H s)(hN:X.N.Nodup)(hi:X.N[i]?=some x)(hx:Loc X.env.scope x)(r:RelV v u)
    (h:∀ s',Inv X pins (σ.set i (some v)) H s'→Q () s') (hf:X.fn x=true∨X.env.scope.names.lookup x=some .local:=by first | exact .inl rfl | exact .inr rfl | assumption):wpAny M A (storeName X.env x u) Q E s:=
  zhx I hN hi hx r (fun s' I' _=>h s' I') hf
theorem Inv.call' {s':Shared}{ch:List Addr}(I:Inv X pins σ H s)(ho:s'.os=s.os)(u:Un (frs X.stack) ch H H' s.heap s'.heap)(hok:HOk X.prog X.w H' s'.heap)(hg:AllBare s'.gens)
    (hch:∀ b∈ch,(b∈X.ex∨X.s₀.heap.objs.size≤b)∧b≠X.env.locals∧(∀ x c,X.env.cells.lookup x=some c→c≠b)∧∀ p∈X.pn++pins,p.1≠b):Inv X pins σ H' s':=by
  obtain ⟨h',g',d',t',o'⟩:=s';have e:o'=s.os:=ho;subst e;exact I.call (g':=g') (t':=t') (d':=d') u hok hg hch
end
abbrev XK:=Value→Option Addr→Hp→Prop
abbrev St:=List (Option V)
abbrev VK:=V→Hp→Prop
abbrev TE:=St→Hp→VK→Prop
abbrev TT:=St→Hp→(Bool→Hp→Prop)→Prop
abbrev TA:=St→Hp→(List V→Hp→Prop)→Prop
structure Ends where
  nx:St→Hp→Prop
  rt:VK
  bk:St→Hp→Prop:=fun _ _=>False
  ct:St→Hp→Prop:=fun _ _=>False
abbrev TS:=Ends→St→Hp→Prop
def EP (X:Cx)(pins:List (Addr×Obj))(σ:St)(Q:VK)(u:Value)(s':Shared):Prop:=∃ v H',Inv X pins σ H' s'∧RelV v u∧Q v H'
def TP (X:Cx)(pins:List (Addr×Obj))(σ:St)(Q:Bool→Hp→Prop)(b:Bool)(s':Shared):Prop:=∃ H',Inv X pins σ H' s'∧Q b H'
def AP (X:Cx)(pins:List (Addr×Obj))(σ:St)(Q:List V→Hp→Prop)(us:List Value)(s':Shared):Prop:=∃ vs H',Inv X pins σ H' s'∧Vals vs us∧Q vs H'
def SP (X:Cx)(pins:List (Addr×Obj))(D:Ends)(f:Flow)(s':Shared):Prop:=
  match f with
  | .next=>∃ σ' H',Inv X pins σ' H' s'∧D.nx σ' H'
  | .brk=>∃ σ' H',Inv X pins σ' H' s'∧D.bk σ' H'
  | .cont=>∃ σ' H',Inv X pins σ' H' s'∧D.ct σ' H'
  | .ret u=>∃ v σ' H',Inv X pins σ' H' s'∧RelV v u∧D.rt v H'
def PE (X:Cx)(e:Expr)(t:TE):Prop:=
  ∀(pins:List (Addr×Obj)) (s:Shared) (σ:St) (H:Hp) (Q:VK),Inv X pins σ H s→t σ H Q→wpAny (model X.prog X.w) X.A (eval e X.env) (EP X pins σ Q) X.xe s
def PT (X:Cx)(e:Expr)(t:TT):Prop:=
  ∀(pins:List (Addr×Obj)) (s:Shared) (σ:St) (H:Hp) (Q:Bool→Hp→Prop),Inv X pins σ H s→t σ H Q→wpAny (model X.prog X.w) X.A (isTrue e X.env (eval e X.env)) (TP X pins σ Q) X.xe s
def PW (X:Cx)(e:Expr)(t:TT):Prop:=
  ∀(whole:Sem Value) (pins:List (Addr×Obj)) (s:Shared) (σ:St) (H:Hp) (Q:Bool→Hp→Prop),Inv X pins σ H s→t σ H Q→wpAny (model X.prog X.w) X.A (isTrue e X.env whole) (TP X pins σ Q) X.xe s
theorem PW.pt {X:Cx}{e:Expr}{t:TT}(h:PW X e t):PT X e t:=h _
def PA (X:Cx)(es:List Expr)(t:TA):Prop:=
  ∀(pos:Pos) (pins:List (Addr×Obj)) (s:Shared) (σ:St) (H:Hp) (Q:List V→Hp→Prop),Inv X pins σ H s→t σ H Q→wpAny (model X.prog X.w) X.A (spliced (backTo pos (starEach es X.env))) (AP X pins σ Q) X.xe s
def PS (X:Cx)(st:Stmt)(t:TS):Prop:=
  ∀(pins:List (Addr×Obj)) (s:Shared) (σ:St) (H:Hp) (D:Ends),Inv X pins σ H s→t D σ H→wpAny (model X.prog X.w) X.A (exec st X.env) (SP X pins D) X.xe s
def PSs (X:Cx)(st:List Stmt)(t:TS):Prop:=
  ∀(pins:List (Addr×Obj)) (s:Shared) (σ:St) (H:Hp) (D:Ends),Inv X pins σ H s→t D σ H→wpAny (model X.prog X.w) X.A (execs st X.env) (SP X pins D) X.xe s
theorem thn {α:Type}{t:Sem α}{Q Q':α→Shared→Prop}{M:Model}{A:Around}{E:Value→Shared→Prop}{s:Shared}(h:wpAny M A t Q E s)(hQ:∀ a s,Q a s→Q' a s):wpAny M A t Q' E s:=wpAny_mono h hQ fun _ _ x=>x
end L2
namespace L2
open PySem PySem.Spec PyProof.Rows
section
variable {X:Cx}
def tVar (i:Nat):TE:=fun σ H Q=>∃ v,σ[i]?=some (some v)∧Q v H
def tC (v:V):TE:=fun _ H Q=>Q v H
theorem zqy {i:Nat}{x:Str}{pos:Pos}(hN:X.N[i]?=some x)(hv:Vis X.env.scope x)(hd:(x == ("__debug__" : Str))=false:=by decide)(hcd:(x == ("__classdict__" : Str))=false:=by decide):PE X (.Name x pos) (tVar i):=by
  intro pins s σ H Q I h;obtain ⟨v,e,h⟩:=h;obtain ⟨m,hn,hl⟩:=I.loc;obtain ⟨u,r,l⟩:=hl i x v hN e hv;have fin:EP X pins σ Q u s:=⟨v,H,I,r,h⟩;rcases l with ⟨hk,hm⟩ | ⟨hk,c,hc,hcell⟩
  · exact wpAny_Name (wpAny_loadName_local I.ok.kind hk hn hm fin) hd
  · rcases hk with hk | hk
    · exact wpAny_Name (wpAny_loadName_cell I.ok.kind hk hc hcell fin) hd
    · exact wpAny_Name (wpAny_loadName_free I.ok.kind hk hc hcell fin hcd) hd
theorem zai {i j pos}:PE X (.Constant (.int i) j pos) (tC (.int i)):=fun _ _ _ H _ I h=>wpAny_Constant_int ⟨.int i,H,I.tok _,⟨_,rfl⟩,h⟩
theorem zf9 {b j pos}:PE X (.Constant (.bool b) j pos) (tC (.bl b)):=fun _ _ _ H _ I h=>Constant_bool ⟨.bl b,H,I,rfl,h⟩
theorem zgn {j pos}:PE X (.Constant .none j pos) (tC .non):=fun _ _ _ H _ I h=>Constant_none ⟨.non,H,I,rfl,h⟩
theorem zaQ {x j pos}:PE X (.Constant (.str x) j pos) (tC (.str x)):=fun _ _ _ H _ I h=>Calls.Constant_str ⟨.str x,H,I.tok _,⟨_,rfl⟩,h⟩
def Gl (X:Cx)(x:Str):Prop:=X.env.kindOf x=some .globalImplicit
theorem zdU {E:Value→Shared→Prop}{pins:List (Addr×Obj)}{s:Shared}{σ:St}{H:Hp}{x:Str}{u:Value}{pos:Pos}{Q:Value→Shared→Prop}(I:Inv X pins σ H s)(hg:Gl X x)(hm:X.mg x=some u)(h:Q u s)
    (hd:(x == ("__debug__" : Str))=false:=by decide):wpAny (model X.prog X.w) X.A (eval (.Name x pos) X.env) Q E s:=
  Calls.Name_function_global I.ok.kind hg (Calls.loadGlobal_global (by rw[I.ok.glob];exact I.mod.glob.keeps I.bk) hm h) hd
theorem zeW {E:Value→Shared→Prop}{pins:List (Addr×Obj)}{s:Shared}{σ:St}{H:Hp}{x:Str}{u:Value}{pos:Pos}{Q:Value→Shared→Prop}(I:Inv X pins σ H s)(hg:Gl X x)(hm:X.mg x=none)(hv:bootBuiltins x=some u)(h:Q u s)
    (hn:x ≠ "__name__":=by decide) (hd:(x == ("__debug__" : Str))=false:=by decide):wpAny (model X.prog X.w) X.A (eval (.Name x pos) X.env) Q E s:=by
  obtain ⟨mb,h1,h2⟩:=I.mod.blt;exact Calls.Name_function_global I.ok.kind hg (Calls.loadGlobal_builtin (by rw[I.ok.glob];exact I.mod.glob.keeps I.bk) hm (by rw[I.ok.blt];exact h1.keeps I.bk) ((h2 x hn).trans hv) h) hd
theorem zbY {x:Str}{v:V}{u:Value}{pos:Pos}(hg:Gl X x)(hm:X.mg x=some u)(r:RelV v u)(hd:(x == ("__debug__" : Str))=false:=by decide):PE X (.Name x pos) (tC v):=
  fun _ _ _ H _ I h=>zdU I hg hm ⟨v,H,I,r,h⟩ hd
theorem zcW {x:Str}{v:V}{u:Value}{pos:Pos}(hg:Gl X x)(hm:X.mg x=none)(hv:bootBuiltins x=some u)(r:RelV v u)(hn:x ≠ "__name__":=by decide)(hd:(x == ("__debug__" : Str))=false:=by decide):PE X (.Name x pos) (tC v):=
  fun _ _ _ H _ I h=>zeW I hg hm hv ⟨v,H,I,r,h⟩ hn hd
variable {a b:Expr}{ta tb:TE}{pos:Pos}
def tB (t:TE):TT:=fun σ H Q=>t σ H fun x H1=>∃ c,x=.bl c∧Q c H1
theorem zcu {e:Expr}{t:TE}(h:PE X e t)(he:∀ whole,isTrue e X.env whole=(do let v ← whole;standAt e.pos;holding [v] (truthy v)):=by intro _;rfl):PT X e (tB t):=by
  intro pins s σ H Q I hw;refine isTrue_plain (thn (h pins s σ H _ I hw) fun v s1 zq0=>?_) (he _);obtain ⟨x,H1,I1,r1,q1⟩:=zq0;obtain ⟨d,rfl,q⟩:=q1;cases r1
  exact wpAny_truthy_bool ⟨H1,I1,q⟩
variable {tA tB':TT}{rest:List Expr}
def tAnd (t u:TT):TT:=fun σ H Q=>t σ H fun c H1=>if c=true then u σ H1 Q else Q false H1
def tOr (t u:TT):TT:=fun σ H Q=>t σ H fun c H1=>if c=true then Q true H1 else u σ H1 Q
def tNot (t:TT):TT:=fun σ H Q=>t σ H fun c H1=>Q (!c) H1
theorem zgW (ha:PT X a tA):PW X (.BoolOp .And [a] pos) tA:=by
  intro wh pins s σ H Q I h;refine isTrue_and (thn (ha pins s σ H Q I h) fun c s1 e=>?_);cases c with
  | true=>exact isTrue_and_nil e
  | false=>exact e
theorem zov (ha:PT X a tA):PW X (.BoolOp .Or [a] pos) tA:=by
  intro wh pins s σ H Q I h;refine isTrue_or (thn (ha pins s σ H Q I h) fun c s1 e=>?_);cases c with
  | false=>exact isTrue_or_nil e
  | true=>exact e
theorem zjs (ha:PT X a tA)(hb:PW X (.BoolOp .And (b::rest) pos) tB'):PW X (.BoolOp .And (a::b::rest) pos) (tAnd tA tB'):=by
  intro wh pins s σ H Q I h;refine isTrue_and (thn (ha pins s σ H _ I h) fun c s1 zq0=>?_);obtain ⟨H1,I1,q1⟩:=zq0;cases c with
  | true=>exact hb wh pins s1 σ H1 Q I1 q1
  | false=>exact ⟨H1,I1,q1⟩
theorem zqv (ha:PT X a tA)(hb:PW X (.BoolOp .Or (b::rest) pos) tB'):PW X (.BoolOp .Or (a::b::rest) pos) (tOr tA tB'):=by
  intro wh pins s σ H Q I h;refine isTrue_or (thn (ha pins s σ H _ I h) fun c s1 zq0=>?_);obtain ⟨H1,I1,q1⟩:=zq0;cases c with
  | true=>exact ⟨H1,I1,q1⟩
  | false=>exact hb wh pins s1 σ H1 Q I1 q1
theorem zc6 (ha:PT X a tA):PT X (.UnaryOp .Not a pos) (tNot tA):=by
  intro pins s σ H Q I h;exact isTrue_not (ha pins s σ H (fun c H1=>Q (!c) H1) I h)
def zrF (ta tb:TE):TE:=fun σ H Q=>ta σ H fun x H1=>∃ c,x=.bl c∧if c=true then tb σ H1 Q else Q (.bl false) H1
def zrz (ta:TE):TE:=fun σ H Q=>ta σ H fun x H1=>∃ c,x=.bl c∧Q (.bl (!c)) H1
theorem zjw {op}{t:TE}(h:PE X a t):PE X (.BoolOp op [a] pos) t:=fun pins s σ H Q I hw=>BoolOp_one (h pins s σ H Q I hw)
theorem zjy (ha:PE X a ta)(hb:PE X (.BoolOp .And (b::rest) pos) tb):PE X (.BoolOp .And (a::b::rest) pos) (zrF ta tb):=by
  intro pins s σ H Q I h;refine BoolOp_and (thn (ha pins s σ H _ I h) fun v s1 zq0=>?_);obtain ⟨x,H1,I1,r1,q1⟩:=zq0;obtain ⟨c,rfl,q1⟩:=q1;cases r1
  refine wpAny_truthy_bool ?_;cases c with
  | true=>exact hb pins s1 σ H1 Q I1 q1
  | false=>exact ⟨.bl false,H1,I1,rfl,q1⟩
theorem zqz (ha:PE X a ta):PE X (.UnaryOp .Not a pos) (zrz ta):=by
  intro pins s σ H Q I h;refine UnaryOp_ (thn (ha pins s σ H _ I h) fun v s1 zq0=>?_);obtain ⟨x,H1,I1,r1,q1⟩:=zq0;obtain ⟨c,rfl,q1⟩:=q1;cases r1
  exact not_of (wpAny_truthy_bool ⟨.bl (!c),H1,I1,rfl,q1⟩)
def tIf (t:TT)(ta tb:TE):TE:=fun σ H Q=>t σ H fun c H1=>if c=true then ta σ H1 Q else tb σ H1 Q
theorem znb {c:Expr}(hc:PT X c tA)(ha:PE X a ta)(hb:PE X b tb):PE X (.IfExp c a b pos) (tIf tA ta tb):=by
  intro pins s σ H Q I h;refine wpAny_IfExp (thn (hc pins s σ H _ I h) fun d s1 zq0=>?_);obtain ⟨H1,I1,q1⟩:=zq0;cases d with
  | true=>exact ha pins s1 σ H1 Q I1 q1
  | false=>exact hb pins s1 σ H1 Q I1 q1
end
end L2
namespace L2
open PySem PySem.Spec PyProof.Rows
def SqL (K:Frag)(H:Hp)(a:Addr)(xs:List V):Prop:=
  Rd H a (.lst xs)∨
    ∃(o:Obj) (its:Array Value) (n:Nat),K.lookup a=some o∧o.cls=.type "list"∧o.dict=none∧o.data=.seq its n∧its.size≤sizeLine∧Vals xs its.toList
def SqT (K:Frag)(H:Hp)(a:Addr)(xs:List V):Prop:=
  Rd H a (.tup xs)∨
    ∃(o:Obj) (its:Array Value) (n:Nat),K.lookup a=some o∧o.cls=.type "tuple"∧o.data=.seq its n∧its.size≤sizeLine∧Vals xs its.toList
def absV:Value→Option V
  | .none=>some .non
  | .bool b=>some (.bl b)
  | .int i _=>some (.int i)
  | .str x _=>some (.str x)
  | .bytes b _=>some (.byt b)
  | .float b _=>some (.flt b)
  | .ref a=>some (.ref a)
  | .type n=>some (.ty n)
  | _=>none
theorem RelV.abs {x:V}{u:Value}(r:RelV x u):absV u=some x:=by
  cases x with
  | non=>cases r;rfl
  | bl _=>cases r;rfl
  | int _=>obtain ⟨t,rfl⟩:=r;rfl
  | str _=>obtain ⟨t,rfl⟩:=r;rfl
  | byt _=>obtain ⟨t,rfl⟩:=r;rfl
  | flt _=>obtain ⟨t,rfl⟩:=r;rfl
  | ref _=>cases r;rfl
  | ty _=>cases r;rfl
theorem RelV.inj {x y:V}{u:Value}(r:RelV x u)(q:RelV y u):x=y:=yad (r.abs.symm.trans q.abs)
theorem Vals.inj:∀{xs ys:List V} {us:List Value},Vals xs us→Vals ys us→xs=ys
  | _,_,_,.nil,.nil=>rfl
  | _,_,_,.cons r t,.cons r' t'=>by rw[r.inj r',Vals.inj t t']
section
variable {X:Cx}{pins:List (Addr×Obj)}{σ:St}{H:Hp}{s:Shared}{a:Addr}{xs ys:List V}
theorem SqL.of {K:Frag}(h:H a=some (.lst xs)):SqL K H a xs:=.inl (.inl h)
theorem SqT.of {K:Frag}(h:H a=some (.tup xs)):SqT K H a xs:=.inl (.inl h)
theorem Inv.list (I:Inv X pins σ H s)(h:SqL X.K H a xs):∃ its:List Value,Vals xs its∧PlainL s.heap a its.toArray∧xs.length≤sizeLine:=by
  rcases h with h | ⟨o,its,n,hk,hc,hd,hs,hz,r⟩
  · obtain ⟨z,its,n,r,e⟩:=h.ok I.hok
    exact ⟨its,r,⟨_,n,e,rfl,rfl,rfl⟩,z⟩
  · refine ⟨its.toList,r,⟨o,n,I.kIn a o hk,hc,hd,by simpa using hs⟩,?_⟩
    have e:=r.length;simp only[yav]at e;omega
theorem Inv.tuple (I:Inv X pins σ H s)(h:SqT X.K H a xs):∃ its:List Value,Vals xs its∧IsTup s.heap a its.toArray∧xs.length≤sizeLine:=by
  rcases h with h | ⟨o,its,n,hk,hc,hs,hz,r⟩
  · obtain ⟨z,its,r,p⟩:=h.ok I.hok
    exact ⟨its,r,p,z⟩
  · refine ⟨its.toList,r,⟨o,I.kIn a o hk,hc,n,by simpa using hs⟩,?_⟩
    have e:=r.length;simp only[yav]at e;omega
theorem Inv.list_inj (I:Inv X pins σ H s)(h:SqL X.K H a xs)(h':SqL X.K H a ys):xs=ys:=by
  obtain ⟨its,r,⟨o,n,e,_,_,d⟩,_⟩:=I.list h;obtain ⟨its',r',⟨o',n',e',_,_,d'⟩,_⟩:=I.list h';rw[e]at e';cases e'
  rw[d]at d';injection d' with d1 _;have:its=its':=by simpa using congrArg Array.toList d1
  subst this;exact r.inj r'
theorem Inv.tuple_inj (I:Inv X pins σ H s)(h:SqT X.K H a xs)(h':SqT X.K H a ys):xs=ys:=by
  obtain ⟨its,r,⟨o,e,_,n,d⟩,_⟩:=I.tuple h;obtain ⟨its',r',⟨o',e',_,n',d'⟩,_⟩:=I.tuple h';rw[e]at e';cases e'
  rw[d]at d';injection d' with d1 _;have:its=its':=by simpa using congrArg Array.toList d1
  subst this;exact r.inj r'
end
abbrev Cx.wish (X:Cx)(E:Value→Shared→Prop):Cx:={ X with xe:=E }
abbrev Cx.nox (X:Cx):Cx:=X.wish fun _ _=>False
theorem Cx.Ok.wish {X:Cx}(ok:X.Ok)(E:Value→Shared→Prop):(X.wish E).Ok:=
  ⟨ok.mod,ok.kind,ok.glob,ok.blt,ok.above,ok.inj,ok.has,ok.cab,ok.hd,ok.frames,ok.stk,ok.exf,ok.bs,ok.bsz,ok.noex,ok.exfs,ok.funs,ok.frf⟩
theorem Cx.Ok.unwish {X:Cx}{E:Value→Shared→Prop}(ok:(X.wish E).Ok):X.Ok:=
  ⟨ok.mod,ok.kind,ok.glob,ok.blt,ok.above,ok.inj,ok.has,ok.cab,ok.hd,ok.frames,ok.stk,ok.exf,ok.bs,ok.bsz,ok.noex,ok.exfs,ok.funs,ok.frf⟩
section
variable {X:Cx}{pins:List (Addr×Obj)}{σ:St}{H:Hp}{s:Shared}{E:Value→Shared→Prop}
theorem Inv.wish (I:Inv X pins σ H s)(E:Value→Shared→Prop):Inv (X.wish E) pins σ H s:=⟨I.ok.wish E,I.os,I.bare,I.base,I.loc,I.cell,I.free,I.freeC,I.pin,I.hok,I.len⟩
theorem Inv.unwish (I:Inv (X.wish E) pins σ H s):Inv X pins σ H s:=⟨I.ok.unwish,I.os,I.bare,I.base,I.loc,I.cell,I.free,I.freeC,I.pin,I.hok,I.len⟩
theorem SP.unwish {D:Ends}{f:Flow}{s':Shared}(h:SP (X.wish E) pins D f s'):SP X pins D f s':=by
  cases f with
  | next=>obtain ⟨σ',H',I,q⟩:=h;exact ⟨σ',H',I.unwish,q⟩
  | brk=>obtain ⟨σ',H',I,q⟩:=h;exact ⟨σ',H',I.unwish,q⟩
  | cont=>obtain ⟨σ',H',I,q⟩:=h;exact ⟨σ',H',I.unwish,q⟩
  | ret u=>obtain ⟨v,σ',H',I,r,q⟩:=h;exact ⟨v,σ',H',I.unwish,r,q⟩
theorem PSs.nox {st:List Stmt}{t:TS}(h:PSs X.nox st t):PSs X st t:=fun pins s σ H D I hw=>
  wpAny_mono (h pins s σ H D (I.wish _) hw) (fun _ _ q=>q.unwish) fun _ _ z=>False.elim z
end
section
variable {X:Cx}{st:Stmt}{rest:List Stmt}{t u:TS}{e:Expr}{te:TE}{pos:Pos}
def zrA:TS:=fun D σ H=>D.nx σ H
def tSeq (t u:TS):TS:=fun D σ H=>t { D with nx:=u D } σ H
theorem zaw:PSs X [] zrA:=fun _ _ σ H _ I h=>wpAny_execs_nil ⟨σ,H,I,h⟩
theorem zaj (h1:PS X st t)(h2:PSs X rest u):PSs X (st::rest) (tSeq t u):=by
  intro pins s σ H D I h;refine wpAny_execs_cons (thn (h1 pins s σ H { D with nx:=u D } I h) fun f s1 q=>?_);cases f with
  | next=>
    obtain ⟨σ',H',I',q⟩:=q;exact h2 pins s1 σ' H' D I' q
  | ret v=>exact q
  | brk=>exact q
  | cont=>exact q
theorem zae (h1:PS X st t):PSs X [st] t:=by
  intro pins s σ H D I h;refine wpAny_execs_cons (thn (h1 pins s σ H D I h) fun f s1 q=>?_);cases f with
  | next=>exact wpAny_execs_nil q
  | ret v=>exact q
  | brk=>exact q
  | cont=>exact q
theorem Inv.quiet {pins:List (Addr×Obj)}{σ:St}{H:Hp}{s:Shared}(I:Inv X pins σ H s):interactive X.env=false:=by simp[interactive,I.ok.kind]
def zrB (te:TE):TS:=fun D σ H=>te σ H fun _ H1=>D.nx σ H1
theorem zby (he:PE X e te)(hs:swapsWith e none pos.line X.env=pure false:=by rfl):PS X (.Expr e pos) (zrB te):=by
  intro pins s σ H D I h;exact wpAny_Expr_any (thn (he pins s σ H _ I h) fun v s1 zq0=>(by obtain ⟨x,H1,I1,r1,q1⟩:=zq0;exact ⟨σ,H1,I1,q1⟩)) I.quiet hs
def tRet (te:TE):TS:=fun D σ H=>te σ H D.rt
theorem zas (he:PE X e te):PS X (.Return (some e) pos) (tRet te):=by
  intro pins s σ H D I h;exact wpAny_Return_some (thn (he pins s σ H _ I h) fun v s1 zq0=>(by obtain ⟨x,H1,I1,r1,q1⟩:=zq0;exact ⟨x,σ,H1,I1,r1,q1⟩))
def tIfS (c:TT)(t u:TS):TS:=fun D σ H=>c σ H fun b H1=>if b=true then t D σ H1 else u D σ H1
theorem zaY {c:Expr}{a b:List Stmt}{tc:TT}(hc:PT X c tc)(ha:PSs X a t)(hb:PSs X b u):PS X (.If c a b pos) (tIfS tc t u):=by
  intro pins s σ H D I h;refine wpAny_If (thn (hc pins s σ H _ I h) fun d s1 zq0=>?_);obtain ⟨H1,I1,q1⟩:=zq0;cases d with
  | true=>exact ha pins s1 σ H1 D I1 q1
  | false=>exact hb pins s1 σ H1 D I1 q1
def zp9:TS:=fun _ _ _=>False
theorem za5:PS X st zp9:=fun _ _ _ _ _ _ h=>h.elim
end
abbrev TG:=V→St→Hp→(St→Hp→Prop)→Prop
abbrev TGs:=List V→St→Hp→(St→Hp→Prop)→Prop
def PG (X:Cx)(target:Expr)(t:TG):Prop:=
  ∀(pins:List (Addr×Obj)) (s:Shared) (σ:St) (H:Hp) (v:V) (u:Value) (Q:St→Hp→Prop),Inv X pins σ H s→RelV v u→t v σ H Q→
    wpAny (model X.prog X.w) X.A (assign target X.env u) (fun _ s'=>∃ σ' H',Inv X pins σ' H' s'∧Q σ' H') X.xe s
def PGs (X:Cx)(ts:List Expr)(t:TGs):Prop:=
  ∀(pins:List (Addr×Obj)) (s:Shared) (σ:St) (H:Hp) (vs:List V) (us:List Value) (Q:St→Hp→Prop),Inv X pins σ H s→Vals vs us→t vs σ H Q→
    wpAny (model X.prog X.w) X.A (assignInOrder ((assignEach ts X.env).map (·.2)) us) (fun _ s'=>∃ σ' H',Inv X pins σ' H' s'∧Q σ' H') X.xe s
abbrev TSet:=V→V→V→Hp→(Hp→Prop)→Prop
def PSet (X:Cx)(t:TSet):Prop:=
  ∀(pins:List (Addr×Obj)) (s:Shared) (σ:St) (H:Hp) (o i v:V) (ov iv u:Value) (Q:Hp→Prop),Inv X pins σ H s→RelV o ov→RelV i iv→RelV v u→t o i v H Q→
    wpAny (model X.prog X.w) X.A (setItem ov iv u) (fun _ s'=>∃ H',Inv X pins σ H' s'∧Q H') X.xe s
section
variable {X:Cx}{pos:Pos}
def zkp (i:Nat):TG:=fun v σ H Q=>Q (σ.set i (some v)) H
theorem zaz {i:Nat}{x:Str}(hN:X.N.Nodup)(hi:X.N[i]?=some x)(hx:Loc X.env.scope x)(hf:X.fn x=true∨X.env.scope.names.lookup x=some .local:=by first | exact .inl rfl | exact .inr rfl | assumption):PG X (.Name x pos) (zkp i):=by
  intro pins s σ H v u Q I r h;exact wpAny_assign_Name (zgF I hN hi hx r (fun s' I'=>⟨_,H,I',h⟩) hf)
def gNil:TGs:=fun vs σ H Q=>vs=[]∧Q σ H
def zrS (t:TG)(u:TGs):TGs:=fun vs σ H Q=>∃ v r,vs=v::r∧t v σ H fun σ' H'=>u r σ' H' Q
theorem zlp:PGs X [] gNil:=by
  intro pins s σ H vs us Q I r h;obtain ⟨e,h⟩:=h;subst e;cases r
  exact assignInOrder_nil ⟨σ,H,I,h⟩
theorem zfk {e:Expr}{es:List Expr}{t:TG}{u:TGs}(h1:PG X e t)(h2:PGs X es u)
    (hs:(assignEach (e::es) X.env).map (·.2)=assign e X.env::(assignEach es X.env).map (·.2):=by rfl):PGs X (e::es) (zrS t u):=by
  intro pins s σ H vs us Q I r h;obtain ⟨v,vr,e1,h⟩:=h;subst e1;cases r with
  | cons r rr=>
    rw[hs];refine assignInOrder_cons (thn (h1 pins s σ H _ _ _ I r h) fun _ s1 zq0=>?_);obtain ⟨σ1,H1,I1,q1⟩:=zq0;exact h2 pins s1 σ1 H1 _ _ Q I1 rr q1
def gTup (K:Frag)(n:Nat)(t:TGs):TG:=fun v σ H Q=>∃ a xs,v=.ref a∧SqT K H a xs∧xs.length=n∧t xs σ H Q
theorem zoy {es:List Expr}{k:Nat}{t:TGs}{n:Nat}(hc:X.calm=true)(h:PGs X es t)
    (hn:(assignEach es X.env).length=n:=by rfl) (hst:(assignEach es X.env).findIdx? (·.1)=none:=by rfl):PG X (.Tuple es k pos) (gTup X.K n t):=by
  intro pins s σ H v u Q I r hw;obtain ⟨a,xs,e1,hq,hl,hw⟩:=hw;subst e1;cases r
  obtain ⟨its,rv,ht,hz⟩:=I.tuple hq;refine assign_Tuple_tuple (I.ok.hd hc) ht (by simp[hn,← hl,rv.length]) hst fun h' hx=>?_;have I1:Inv X pins σ H { s with heap:=h' }:=I.kept (t':=s.toks) fun b o e=>hx b o (yao (yaf e)) e;exact h pins _ σ H xs _ Q I1 (by simpa using rv) hw
def gSub (to ti:TE)(t:TSet):TG:=fun v σ H Q=>to σ H fun o H1=>ti σ H1 fun i H2=>t o i v H2 fun H3=>Q σ H3
theorem zhJ {o i:Expr}{to ti:TE}{t:TSet}(ho:PE X o to)(hi:PE X i ti)(hs:PSet X t)
    (ha:∀ v,assign (.Subscript o i pos) X.env v=(do
      let ov ← holding [v] (eval o X.env)
      let iv ← holding [v,ov] (eval i X.env)
      standAt pos
      holding [v,ov,iv] (setItem ov iv v)
      release [v,ov,iv] []):=by intro _;rfl):PG X (.Subscript o i pos) (gSub to ti t):=by
  intro pins s σ H v u Q I r h;rw[ha];refine wpAny_bind (wpAny_holding (thn (ho pins s σ H _ I h) fun ov s1 zq0=>?_));obtain ⟨x,H1,I1,r1,q1⟩:=zq0;refine wpAny_bind (wpAny_holding (thn (hi pins s1 σ H1 _ I1 q1) fun iv s2 zq0=>?_));obtain ⟨y,H2,I2,r2,q2⟩:=zq0;refine wpAny_bind (wpAny_standAt (wpAny_bind (wpAny_holding (thn (hs pins s2 σ H2 x y v ov iv u _ I2 r1 r2 r q2) fun _ s3 zq0=>?_))));obtain ⟨H3,I3,q3⟩:=zq0;exact wpAny_release ⟨σ,H3,I3,q3⟩
def tAsg (te:TE)(g:TG):TS:=fun D σ H=>te σ H fun x H1=>g x σ H1 D.nx
theorem zhG {tg e:Expr}{te:TE}{g:TG}(he:PE X e te)(hg:PG X tg g)(hs:swapsWithSole [tg] e pos.line X.env=pure false:=by rfl)(hw:swappedStores [tg] e X.env=pure none:=by rfl)
    (h1:(assignEach [tg] X.env).map (·.2)=[assign tg X.env]:=by rfl):PS X (.Assign [tg] e pos) (tAsg te g):=by
  intro pins s σ H D I h;refine wpAny_Assign_stores (thn (he pins s σ H _ I h) fun v s1 zq0=>?_) hs hw;obtain ⟨x,H1,I1,r1,q1⟩:=zq0;rw[h1];exact thn (hg pins s1 σ H1 x v _ I1 r1 q1) fun _ s2 q=>q
theorem zar {i:Nat}{x:Str}{e:Expr}{te:TE}{pos':Pos}(hN:X.N.Nodup)(hi:X.N[i]?=some x)(hx:Loc X.env.scope x)(he:PE X e te)(hs:swapsWith e (some (.Name x pos')) pos.line X.env=pure false:=by rfl)(hf:X.fn x=true∨X.env.scope.names.lookup x=some .local:=by first | exact .inl rfl | exact .inr rfl | assumption) :
    PS X (.Assign [.Name x pos'] e pos) (tAsg te (zkp i)):=by
  intro pins s σ H D I h;refine wpAny_Assign_Name (thn (he pins s σ H _ I h) fun v s1 zq0=>?_) hs;obtain ⟨y,H1,I1,r1,q1⟩:=zq0;exact zgF I1 hN hi hx r1 (fun s2 I2=>⟨_,H1,I2,q1⟩) hf
end
section
variable {X:Cx}{pos:Pos}
def zkV (c:TT)(tb:TS):TS:=fun D σ H=>∃ W:Nat→St→Hp→Prop,(∃ m,W m σ H)∧∀ m σ H,W m σ H→
  c σ H fun b H1=>if b=true then ∃ N:St→Hp→Prop,(∀ σ' H',N σ' H'→∃ m',m' < m∧W m' σ' H')∧tb { D with nx:=N,ct:=N,bk:=D.nx } σ H1 else D.nx σ H1
theorem zju {c:Expr}{body:List Stmt}{tc:TT}{tb:TS}(hp:PassesOwn (model X.prog X.w) X.A X.env X.xe)(hc:PT X c tc)(hb:PSs X body tb):PS X (.While c body [] pos) (zkV tc tb):=by
  intro pins s σ H D I h;obtain ⟨W,⟨m0,w0⟩,turn⟩:=h;refine wpAny_While (codeAny_whileLoop (fun n s'=>∃ σ' H',Inv X pins σ' H' s'∧W n σ' H') ?_ m0 ⟨σ,H,I,w0⟩);rintro n s1 ⟨σ1,H1,I1,w1⟩;refine wpAny_passesOwn hp (thn (hc pins s1 σ1 H1 _ I1 (turn n σ1 H1 w1)) fun b s2 zq0=>?_);obtain ⟨H2,I2,q2⟩:=zq0;cases b with
  | true=>
    obtain ⟨N,hN,q2⟩:=q2;rw[if_pos rfl];refine wpAny_passesOwn hp (thn (hb pins s2 σ1 H2 _ I2 q2) fun f s3 q3=>?_);cases f with
    | next=>
      obtain ⟨σ3,H3,I3,n3⟩:=q3;obtain ⟨m',hm,w3⟩:=hN σ3 H3 n3;exact ⟨m',hm,σ3,H3,I3,w3⟩
    | cont=>
      obtain ⟨σ3,H3,I3,n3⟩:=q3;obtain ⟨m',hm,w3⟩:=hN σ3 H3 n3;exact ⟨m',hm,σ3,H3,I3,w3⟩
    | brk=>exact q3
    | ret v=>exact q3
  | false=>
    rw[if_neg yaz];exact wpAny_execs_nil ⟨σ1,H2,I2,q2⟩
end
structure It where
  go:Nat→Hp→Prop
  yld:Nat→Hp→V→Hp→Prop
  stop:Nat→Hp→Prop
def FpOk (X:Cx)(pins:List (Addr×Obj))(H:Hp)(b:Addr):Prop:=
  H b=none∧b≠X.env.locals∧b∉X.fs∧(b∈X.ex∨X.s₀.heap.objs.size≤b)∧(∀ x c,X.env.cells.lookup x=some c→c≠b)∧∀ p∈X.pn++pins,p.1≠b
theorem Inv.fpOk {X:Cx}{pins:List (Addr×Obj)}{σ:St}{H H':Hp}{s:Shared}{b:Addr}(I:Inv X pins σ H s)(hb:s.heap.objs.size≤b)(hn:H' b=none):FpOk X pins H' b:=by
  refine ⟨hn,ybi (yaw I.lt hb),I.nofs hb,.inr (yaA I.sz hb),fun x c e z=>?_,fun p hp z=>?_⟩
  · obtain ⟨v,q⟩:=I.cell x c e
    exact absurd (yaw q.lt (by rw[z];exact hb)) (ybh _)
  · exact absurd (yaw (yaf (I.pin p hp).1) (by rw[z];exact hb)) (ybh _)
structure Turn (P:Program)(w:World)(K:Frag)(tg:Expr)(J:It)(fp:List Addr)(it:Addr)(tn:Nat→Heap→Prop):Prop where
  mem:it∈fp
  obj:∀ i h,tn i h→∀ b∈fp,∃ o,h.get? b=some o∧∀ v,o.data≠.cell v
  keep:∀ i h h',tn i h→(∀ b∈fp,∀ o,h.get? b=some o→h'.get? b=some o)→tn i h'
  item:∀(X:Cx),X.prog=P→X.w=w→X.K=K→X.calm=true→∀(i:Nat) (pins:List (Addr×Obj)) (s:Shared) (σ:St) (H:Hp) (E:Value→Shared→Prop),Inv X pins σ H s→(∀ b∈fp,FpOk X pins H b)→tn i s.heap→J.go i H→
    wpAny (model P w) X.A (pyNext (.ref it)) (fun r s1=>∃ u,r=some u∧
      wpAny (model P w) X.A (letOwnedTupleGo tg (.ref it) u) (fun _ s2=>∃ x H',Inv X pins σ H' s2∧RelV x u∧J.yld i H x H'∧tn (i+1) s2.heap∧∀ b∈fp,H' b=none) E s1) E s
  done:∀(X:Cx),X.prog=P→X.w=w→X.K=K→X.calm=true→∀(i:Nat) (pins:List (Addr×Obj)) (s:Shared) (σ:St) (H:Hp) (E:Value→Shared→Prop),Inv X pins σ H s→(∀ b∈fp,FpOk X pins H b)→tn i s.heap→J.stop i H→
    wpAny (model P w) X.A (pyNext (.ref it)) (fun r s1=>r=none∧Inv X pins σ H s1) E s
  self:∀(A:Around) (i:Nat) (s:Shared) (Q:Value→Shared→Prop) (E:Value→Shared→Prop),tn i s.heap→Q (.ref it) s→wpAny (model P w) A (pyIter (.ref it)) Q E s
abbrev TI:=St→Hp→(It→Hp→Prop)→Prop
def PIE (X:Cx)(pins:List (Addr×Obj))(σ:St)(tg:Expr)(R:It→Hp→Prop)(itv:Value)(s2:Shared):Prop:=
  ∃(it:Addr) (fp:List Addr) (tn:Nat→Heap→Prop) (J:It) (H':Hp),itv=.ref it∧Inv X pins σ H' s2∧Turn X.prog X.w X.K tg J fp it tn∧tn 0 s2.heap∧(∀ b∈fp,FpOk X pins H' b)∧R J H'
def PI (X:Cx)(tg iter:Expr)(wi:TI):Prop:=
  ∀(pins:List (Addr×Obj)) (s:Shared) (σ:St) (H:Hp) (R:It→Hp→Prop),Inv X pins σ H s→wi σ H R→
    wpAny (model X.prog X.w) X.A (eval iter X.env) (fun v s1=>wpAny (model X.prog X.w) X.A (pyIter v) (PIE X pins σ tg R) X.xe s1) X.xe s
theorem znQ {M:Model}{A:Around}{E:Value→Shared→Prop}{s:Shared}{tg:Expr}{it:Addr}{u:Value}{o:Obj}{n:String}{vs:Array Value}{Q:Unit→Shared→Prop}(ho:s.heap.get? it=some o)(hc:o.cls=.type n)(hd:o.data=.fields vs)
    (hn:["enumerate","zip","dict_itemiterator","dict_reverseitemiterator","odict_iterator","itertools.zip_longest","itertools.pairwise"].contains n=false) (hQ:Q () s):wpAny M A (letOwnedTupleGo tg (.ref it) u) Q E s:=by
  unfold letOwnedTupleGo;cases tg <;> first
    | exact wpAny_pure hQ
    | (cases u <;> first
        | exact wpAny_pure hQ
        | (refine wpAny_bind (wpAny_load ho ?_)
           rw[hc,hd];show wpAny M A (if (["enumerate","zip","dict_itemiterator","dict_reverseitemiterator","odict_iterator","itertools.zip_longest","itertools.pairwise"].contains n && vs[0]? == some (rawInt _))=true then _ else _) Q E s
           rw[if_neg (by intro h;rw[hn,Bool.false_and]at h;cases h)]
           exact wpAny_pure hQ))
def Itl (K:Frag)(a:Addr):It:=
  ⟨fun i H=>∃ xs x,SqL K H a xs∧xs[i]?=some x,fun i H x H'=>H'=H∧∀ xs,SqL K H a xs→xs[i]?=some x,fun i H=>∃ xs,SqL K H a xs∧xs.length≤i⟩
def Itt (K:Frag)(a:Addr):It:=
  ⟨fun i H=>∃ xs x,SqT K H a xs∧xs[i]?=some x,fun i H x H'=>H'=H∧∀ xs,SqT K H a xs→xs[i]?=some x,fun i H=>∃ xs,SqT K H a xs∧xs.length≤i⟩
def Itr (lo:Int)(n:Nat):It:=⟨fun i _=>i < n,fun i H x H'=>H'=H∧x=.int (lo+i),fun i _=>n≤i⟩
theorem zht {P:Program}{w:World}{K:Frag}{tg:Expr}(a it:Addr):Turn P w K tg (Itl K a) [it] it (fun i h=>h.IsListIter it a i) where
  mem:=by simp
  obj:=fun i h st b hb=>by
    have e:b=it:=by simpa using hb
    subst e;obtain ⟨o,e,c,d⟩:=st;exact ⟨o,e,fun v z=>by rw[d]at z;cases z⟩
  keep:=fun i h h' st k=>st.at fun o e=>k it (by simp) o e
  item:=by
    intro X hP hw hK hc i pins s σ H E I hf st hg;subst hP hw hK;obtain ⟨xs,x,hq,hx⟩:=hg;obtain ⟨its,rv,p,hz⟩:=I.list hq;obtain ⟨u,hu,ru⟩:=rv.get hx;obtain ⟨f0,f1,f2,f3,f4,f5⟩:=hf it (by simp);refine wpAny_pyNext_list_item st p.isList (x:=u) (by simpa using hu) fun h' st' sb=>?_;have I1:Inv X pins σ H { s with heap:=h' }:=I.turned (t':=s.toks) (fun b o hb e=>(sb.2 b hb).trans e) f0 f1 f3 f4 f5;obtain ⟨o,e,c,d⟩:=id st';exact ⟨u,rfl,znQ (s:={ s with heap:=h' }) e c d (by decide) ⟨x,H,I1,ru,⟨rfl,fun ys hy=>by rw[I.list_inj hy hq];exact hx⟩,st',fun b hb=>(hf b hb).1⟩⟩
  done:=by
    intro X hP hw hK hc i pins s σ H E I hf st hg;subst hP hw hK;obtain ⟨xs,hq,hx⟩:=hg;obtain ⟨its,rv,p,hz⟩:=I.list hq;obtain ⟨f0,f1,f2,f3,f4,f5⟩:=hf it (by simp);have hl:=rv.length;exact wpAny_pyNext_list_end (I.ok.hd hc) st p.isList (by simp;omega) fun h' eb=>⟨rfl,I.turned (t':=s.toks) (fun b o hb e=>eb b o hb e) f0 f1 f3 f4 f5⟩
  self:=fun _ _ _ _ _ st h=>wpAny_pyIter_listiter st h
theorem zgd {P:Program}{w:World}{K:Frag}{tg:Expr}(a it:Addr):Turn P w K tg (Itt K a) [it] it (fun i h=>h.IsTupleIter it a i) where
  mem:=by simp
  obj:=fun i h st b hb=>by
    have e:b=it:=by simpa using hb
    subst e;obtain ⟨o,e,c,d⟩:=st;exact ⟨o,e,fun v z=>by rw[d]at z;cases z⟩
  keep:=fun i h h' st k=>st.at fun o e=>k it (by simp) o e
  item:=by
    intro X hP hw hK hc i pins s σ H E I hf st hg;subst hP hw hK;obtain ⟨xs,x,hq,hx⟩:=hg;obtain ⟨its,rv,p,hz⟩:=I.tuple hq;obtain ⟨u,hu,ru⟩:=rv.get hx;obtain ⟨f0,f1,f2,f3,f4,f5⟩:=hf it (by simp);refine wpAny_pyNext_tuple_item st (show s.heap.IsTuple a its.toArray from p) (x:=u) (by simpa using hu) fun h' st' sb=>?_;have I1:Inv X pins σ H { s with heap:=h' }:=I.turned (t':=s.toks) (fun b o hb e=>(sb.2 b hb).trans e) f0 f1 f3 f4 f5;obtain ⟨o,e,c,d⟩:=id st';exact ⟨u,rfl,znQ (s:={ s with heap:=h' }) e c d (by decide) ⟨x,H,I1,ru,⟨rfl,fun ys hy=>by rw[I.tuple_inj hy hq];exact hx⟩,st',fun b hb=>(hf b hb).1⟩⟩
  done:=by
    intro X hP hw hK hc i pins s σ H E I hf st hg;subst hP hw hK;obtain ⟨xs,hq,hx⟩:=hg;obtain ⟨its,rv,p,hz⟩:=I.tuple hq;obtain ⟨f0,f1,f2,f3,f4,f5⟩:=hf it (by simp);have hl:=rv.length;exact wpAny_pyNext_tuple_end (I.ok.hd hc) st (show s.heap.IsTuple a its.toArray from p) (by simp;omega) fun h' eb=>⟨rfl,I.turned (t':=s.toks) (fun b o hb e=>eb b o hb e) f0 f1 f3 f4 f5⟩
  self:=fun _ _ _ _ _ st h=>wpAny_pyIter_tupleiter st h
theorem zjY {P:Program}{w:World}{K:Frag}{tg:Expr}(it:Addr)(lo:Int)(n:Nat):Turn P w K tg (Itr lo n) [it] it (fun i h=>IsRangeIter h it (lo+(i:Nat) * 1) ((n:Int) - (i:Nat)) 1) where
  mem:=by simp
  obj:=fun i h st b hb=>by
    have e:b=it:=by simpa using hb
    subst e;exact ⟨_,st,fun v z=>by
      have z':Data.fields _=Data.cell v:=z;cases z'⟩
  keep:=fun i h h' st k=>k it (by simp) _ st
  item:=by
    intro X hP hw hK hc i pins s σ H E I hf st hg;subst hP hw hK;obtain ⟨f0,f1,f2,f3,f4,f5⟩:=hf it (by simp);have W:=Walks.range (prog:=X.prog) (w:=X.w) (I.ok.hd hc) it lo 1 n;refine W.item i s _ _ hg st fun v h' tk hv st' kk=>?_;obtain ⟨t,rfl⟩:=hv;have I1:Inv X pins σ H { s with heap:=h',toks:=tk }:=I.turned (fun b o hb e=>kk b o (by simpa using hb) e) f0 f1 f3 f4 f5;refine ⟨_,rfl,znQ (s:={ s with heap:=h',toks:=tk }) (n := "range_iterator") st' rfl rfl (by decide) ⟨.int (lo+i),H,I1,⟨t,?_⟩,⟨rfl,rfl⟩,st',fun b hb=>(hf b hb).1⟩⟩;rw[Int.mul_one]
  done:=by
    intro X hP hw hK hc i pins s σ H E I hf st hg;subst hP hw hK;obtain ⟨f0,f1,f2,f3,f4,f5⟩:=hf it (by simp);exact wpAny_pyNext_range_end (I.ok.hd hc) st (by have:n≤i:=hg;omega) fun h' eb=>⟨rfl,I.turned (t':=s.toks) (fun b o hb e=>eb b o hb e) f0 f1 f3 f4 f5⟩
  self:=fun _ _ _ _ _ st h=>wpAny_pyIter_rangeiter st h
end L2
namespace L2
open PySem PySem.Spec PyProof.Rows
section
variable {X:Cx}{tg:Expr}
def zrO (K:Frag)(tl:TE):TI:=fun σ H R=>tl σ H fun x H1=>∃ a,x=.ref a∧(∃ xs,SqL K H1 a xs)∧R (Itl K a) H1
def iTup (K:Frag)(tl:TE):TI:=fun σ H R=>tl σ H fun x H1=>∃ a,x=.ref a∧(∃ xs,SqT K H1 a xs)∧R (Itt K a) H1
theorem zcV {l:Expr}{tl:TE}(hl:PE X l tl):PI X tg l (zrO X.K tl):=by
  intro pins s σ H R I h;refine thn (hl pins s σ H _ I h) fun v s1 zq0=>?_;obtain ⟨x,H1,I1,r1,q1⟩:=zq0;obtain ⟨a,e,⟨xs,hq⟩,q⟩:=q1;subst e;cases r1
  obtain ⟨its,rv,p,hz⟩:=I1.list hq;refine wpAny_pyIter_list p.isList ?_;refine ⟨s1.heap.objs.size,[s1.heap.objs.size],_,_,H1,rfl,I1.kept (t':=s1.toks) fun b o e=>yah _ e,zht a _,⟨_,yaB _ rfl,rfl,rfl⟩,fun b hb=>?_,q⟩;have e:b=s1.heap.objs.size:=by simpa using hb
  subst e;exact I1.fpOk (yaa _) (I1.hok.fresh (yaa _))
theorem zgm {l:Expr}{tl:TE}(hl:PE X l tl):PI X tg l (iTup X.K tl):=by
  intro pins s σ H R I h;refine thn (hl pins s σ H _ I h) fun v s1 zq0=>?_;obtain ⟨x,H1,I1,r1,q1⟩:=zq0;obtain ⟨a,e,⟨xs,hq⟩,q⟩:=q1;subst e;cases r1
  obtain ⟨its,rv,p,hz⟩:=I1.tuple hq;refine wpAny_pyIter_tuple (show s1.heap.IsTuple a its.toArray from p) ?_;refine ⟨s1.heap.objs.size,[s1.heap.objs.size],_,_,H1,rfl,I1.kept (t':=s1.toks) fun b o e=>yah _ e,zgd a _,⟨_,yaB _ rfl,rfl,rfl⟩,fun b hb=>?_,q⟩;have e:b=s1.heap.objs.size:=by simpa using hb
  subst e;exact I1.fpOk (yaa _) (I1.hok.fresh (yaa _))
theorem zjr {pins:List (Addr×Obj)}{σ:St}{H:Hp}{s:Shared}{R:It→Hp→Prop}{E:Value→Shared→Prop}{lo hi:Int}{t u v:Tok}{tk:Nat}(I:Inv X pins σ H s)(h1:-(2 ^ 62)≤lo)(h2:lo < 2 ^ 62)(h3:-(2 ^ 62)≤hi)(h4:hi < 2 ^ 62)
    (q:R (Itr lo (hi - lo).toNat) H):wpAny (model X.prog X.w) X.A (pyIter (.ref s.heap.objs.size)) (PIE X pins σ tg R) E { s with heap:=s.heap.push { cls:=.type "range",data:=.fields #[.int lo t,.int hi u,.int 1 v] },toks:=tk }:=by
  refine wpAny_pyIter_range (IsRange.new ..) (small_one h1 h2 h3 h4) ?_;have I1:Inv X pins σ H { s with heap:=s.heap.push { cls:=.type "range",data:=.fields #[.int lo t,.int hi u,.int 1 v] },toks:=tk }:=I.kept fun b o e=>yah _ e;refine ⟨(s.heap.push { cls:=.type "range",data:=.fields #[.int lo t,.int hi u,.int 1 v] }).objs.size,[(s.heap.push { cls:=.type "range",data:=.fields #[.int lo t,.int hi u,.int 1 v] }).objs.size],_,_,H,rfl,
    I1.kept (t':=tk) fun b o e=>yah _ e,zjY _ lo (hi - lo).toNat,?_,fun b hb=>?_,q⟩
  · have e1:lo+((0:Nat):Int) * 1=lo:=by simp
    have e2:(((hi - lo).toNat:Nat):Int) - ((0:Nat):Int)=Builtin.Range.rangeSize lo hi 1:=by rw[rangeSize_one];split <;> omega
    show IsRangeIter _ _ (lo+((0:Nat):Int) * 1) ((((hi - lo).toNat:Nat):Int) - ((0:Nat):Int)) 1;rw[e1,e2];exact yaB _ rfl
  · have e:b=(s.heap.push { cls:=.type "range",data:=.fields #[.int lo t,.int hi u,.int 1 v] }).objs.size:=by simpa using hb
    subst e;exact I1.fpOk (yaa _) (I1.hok.fresh (yaa _))
def zrN (ta:TA):TI:=fun σ H R=>ta σ H fun vs H1=>∃ j:Int,vs=[.int j]∧-(2 ^ 62)≤j∧j < 2 ^ 62∧R (Itr 0 j.toNat) H1
def zrM (ta:TA):TI:=fun σ H R=>ta σ H fun vs H1=>∃ i j:Int,vs=[.int i,.int j]∧(-(2 ^ 62)≤i∧i < 2 ^ 62∧-(2 ^ 62)≤j∧j < 2 ^ 62)∧R (Itr i (j - i).toNat) H1
theorem zcg {a:Expr}{ta:TA}{p pos:Pos}(hg:Gl X "range")(hm:X.mg "range" = none)(ha:PA X [a] ta)(hs:starEach [a] X.env=[(false,eval a X.env)]:=by rfl):PI X tg (.Call (.Name "range" p) [a] [] pos) (zrN ta):=by
  intro pins s σ H R I h;refine Call_ (zeW I hg hm boot_range (PyProof.Rows.callWith_type1 (thn (ha pos pins s σ H _ I h) fun us s1 zq0=>?_) hs rfl));obtain ⟨vs,H1,I1,r1,q1⟩:=zq0;obtain ⟨j,e,q1,q2,q⟩:=q1;subst e;cases r1 with
  | cons r rr=>
    cases rr
    obtain ⟨t,rfl⟩:=r;exact call_range_1 (zjr I1 (by omega) (by omega) q1 q2 (by simpa using q))
theorem zeh {a b:Expr}{ta:TA}{p pos:Pos}(hg:Gl X "range")(hm:X.mg "range" = none)(ha:PA X [a,b] ta)(hs:starEach [a,b] X.env=[(false,eval a X.env),(false,eval b X.env)]:=by rfl)(hs2:starEach [b] X.env=[(false,eval b X.env)]:=by rfl) :
    PI X tg (.Call (.Name "range" p) [a,b] [] pos) (zrM ta):=by
  intro pins s σ H R I h;refine Call_ (zeW I hg hm boot_range (PyProof.Rows.callWith_type1 (thn (ha pos pins s σ H _ I h) fun us s1 zq0=>?_) (by rw[hs,hs2]) (by rw[hs2];rfl)));obtain ⟨vs,H1,I1,r1,q1⟩:=zq0;obtain ⟨i,j,e,⟨q1,q2,q3,q4⟩,q⟩:=q1;subst e;cases r1 with
  | cons r rr=>
    cases rr with
    | cons r' rr=>
      cases rr
      obtain ⟨t,rfl⟩:=r;obtain ⟨t',rfl⟩:=r';exact call_range_2 (zjr I1 q1 q2 q3 q4 q)
def tFor (wi:TI)(g:TG)(tb:TS):TS:=fun D σ H=>wi σ H fun J H1=>∃ W:Nat→Nat→St→Hp→Prop,(∃ m,W 0 m σ H1)∧∀ i m σ H,W i m σ H→
  (J.stop i H∧D.nx σ H)∨(J.go i H∧∃ N:St→Hp→Prop,(∀ σ' H',N σ' H'→∃ m',m' < m∧W (i+1) m' σ' H')∧∀ x H',J.yld i H x H'→g x σ H' fun σ2 H2=>tb { D with nx:=N,ct:=N,bk:=D.nx } σ2 H2)
def zhH (fp:List Addr)(h:Heap):List (Addr×Obj):=fp.filterMap fun b=>(h.get? b).map fun o=>(b,o)
theorem zdB {fp:List Addr}{h:Heap}{b:Addr}{o:Obj}(hb:b∈fp)(e:h.get? b=some o):(b,o)∈zhH fp h:=List.mem_filterMap.mpr ⟨b,hb,by rw[e];rfl⟩
theorem zlJ {fp:List Addr}{h:Heap}{p:Addr×Obj}(hp:p∈zhH fp h):p.1∈fp∧h.get? p.1=some p.2:=by
  obtain ⟨b,hb,e⟩:=List.mem_filterMap.mp hp;cases q:h.get? b with
  | none=>rw[q]at e;cases e
  | some o=>
    rw[q]at e;have e':(b,o)=p:=yad e;subst e';exact ⟨hb,q⟩
theorem Inv.pinned {pins:List (Addr×Obj)}{σ:St}{H:Hp}{s:Shared}{fp:List Addr}(I:Inv X pins σ H s)(hf:∀ b∈fp,FpOk X pins H b)(ho:∀ b∈fp,∃ o,s.heap.get? b=some o∧∀ v,o.data≠.cell v):Inv X (pins++zhH fp s.heap) σ H s:=
  I.pins_of fun p hp=>(yaj.mp hp).elim (fun z=>I.pin p (yaC _ z)) fun z=>by
    obtain ⟨hb,e⟩:=zlJ z;obtain ⟨f0,f1,f2,_⟩:=hf p.1 hb;obtain ⟨o,e',d⟩:=ho p.1 hb;rw[e]at e';cases e'
    exact ⟨e,f0,f1,f2,d⟩
theorem Inv.unpinned {pins pl:List (Addr×Obj)}{σ:St}{H:Hp}{s:Shared}(I:Inv X (pins++pl) σ H s):Inv X pins σ H s:=I.pins_of fun p hp=>I.pin p (yaC _ (yaT _ hp))
theorem zcf {iter:Expr}{body:List Stmt}{wi:TI}{g:TG}{tb:TS}{pos:Pos}(hp:PassesOwn (model X.prog X.w) X.A X.env X.xe)(hc:X.calm=true)(hi:PI X tg iter wi)(hg:PG X tg g)(hb:PSs X body tb)
    (hs:∀ x,foldedSetIterable iter X.env x=pure x:=by intro _;rfl):PS X (.For tg iter body [] pos) (tFor wi g tb):=by
  intro pins s σ H D I h;refine wpAny_For (thn (hi pins s σ H _ I h) fun v s1 h1=>thn h1 fun itv s2 h2=>?_) hs;obtain ⟨it,fp,tn,J,H2,e,I2,T,st2,f2,W,⟨m0,w0⟩,turn⟩:=h2;subst e;have stat:∀{H':Hp},(∀ b∈fp,H' b=none)→∀ b∈fp,FpOk X pins H' b:=fun hn b hb=>⟨hn b hb,(f2 b hb).2⟩;refine codeAny_forLoop_any (fun n s'=>∃ i σ' H',Inv X pins σ' H' s'∧tn i s'.heap∧(∀ b∈fp,H' b=none)∧W i n σ' H') ?_ m0 ⟨0,σ,H2,I2,st2,fun b hb=>(f2 b hb).1,w0⟩;rintro n s3 ⟨i,σ3,H3,I3,st3,fr3,w3⟩;rcases turn i n σ3 H3 w3 with ⟨stop,qn⟩ | ⟨go,N,hN,step⟩
  · refine wpAny_passesOwn hp (thn (T.done X rfl rfl rfl hc i pins s3 σ3 H3 X.xe I3 (stat fr3) st3 stop) fun r s4 zq0=>?_)
    obtain ⟨hr,I4⟩:=zq0;subst hr;exact wpAny_execs_nil ⟨σ3,H3,I4,qn⟩
  · refine wpAny_passesOwn hp (thn (T.item X rfl rfl rfl hc i pins s3 σ3 H3 X.xe I3 (stat fr3) st3 go) fun r s4 zq0=>?_)
    obtain ⟨u,hr,h4⟩:=zq0;subst hr;refine wpAny_passesOwn hp (thn h4 fun _ s5 zq0=>?_);obtain ⟨x,H5,I5,r5,y5,st5,fr5⟩:=zq0;have I5':=I5.pinned (stat fr5) (T.obj _ _ st5);refine wpAny_passesOwn hp (thn (hg _ s5 σ3 H5 x u _ I5' r5 (step x H5 y5)) fun _ s6 zq0=>?_);obtain ⟨σ6,H6,I6,q6⟩:=zq0;refine wpAny_passesOwn hp (thn (hb _ s6 σ6 H6 _ I6 q6) fun f s7 q7=>?_);have again:∀{σ7:St} {H7:Hp},Inv X (pins++zhH fp s5.heap) σ7 H7 s7→N σ7 H7→∃ m,m < n∧∃ i σ' H',Inv X pins σ' H' s7∧tn i s7.heap∧(∀ b∈fp,H' b=none)∧W i m σ' H':=fun {σ7 H7} I7 n7=>by
      obtain ⟨m',hm,w7⟩:=hN σ7 H7 n7;refine ⟨m',hm,i+1,σ7,H7,I7.unpinned,T.keep _ _ _ st5 fun b hb o e=>(I7.pin (b,o) (yaC _ (yaC _ (zdB hb e)))).1,fun b hb=>?_,w7⟩;obtain ⟨o,e,d⟩:=T.obj _ _ st5 b hb;exact (I7.pin (b,o) (yaC _ (yaC _ (zdB hb e)))).2.1
    cases f with
    | next=>obtain ⟨σ7,H7,I7,n7⟩:=q7;exact again I7 n7
    | cont=>obtain ⟨σ7,H7,I7,n7⟩:=q7;exact again I7 n7
    | brk=>obtain ⟨σ7,H7,I7,q7⟩:=q7;exact ⟨σ7,H7,I7.unpinned,q7⟩
    | ret v=>obtain ⟨x7,σ7,H7,I7,r7,q7⟩:=q7;exact ⟨x7,σ7,H7,I7.unpinned,r7,q7⟩
end
theorem zhj {K:Frag}{a:Addr}{xs:List V}{g:TG}{tb:TS}{D:Ends}{σ:St}{H:Hp}(Pv:Nat→St→Hp→Prop)(h0:Pv 0 σ H)(hl:∀ i σ H,i≤xs.length→Pv i σ H→SqL K H a xs)
    (hs:∀ i x σ H,xs[i]?=some x→Pv i σ H→g x σ H fun σ2 H2=>tb { D with nx:=Pv (i+1),ct:=Pv (i+1),bk:=D.nx } σ2 H2) (hd:∀ σ H,Pv xs.length σ H→D.nx σ H) :
    ∃ W:Nat→Nat→St→Hp→Prop,(∃ m,W 0 m σ H)∧∀ i m σ H,W i m σ H→
      ((Itl K a).stop i H∧D.nx σ H)∨((Itl K a).go i H∧∃ N:St→Hp→Prop,(∀ σ' H',N σ' H'→∃ m',m' < m∧W (i+1) m' σ' H')∧∀ x H',(Itl K a).yld i H x H'→g x σ H' fun σ2 H2=>tb { D with nx:=N,ct:=N,bk:=D.nx } σ2 H2):=by
  refine ⟨fun i m σ H=>m=xs.length - i∧i≤xs.length∧Pv i σ H,⟨xs.length,by simp,yaJ _,h0⟩,?_⟩;rintro i m σ H ⟨rfl,hi,p⟩;have q:=hl i σ H hi p;by_cases hlt:i < xs.length
  · refine .inr ⟨⟨xs,xs[i],q,by simp[hlt]⟩,Pv (i+1),fun σ' H' p'=>⟨xs.length - (i+1),by omega,rfl,hlt,p'⟩,fun x H' y=>?_⟩
    obtain ⟨e,y⟩:=y;subst e;exact hs i x σ _ (y xs q) p
  · have e:i=xs.length:=by omega
    subst e;exact .inl ⟨⟨xs,q,yaa _⟩,hd σ H p⟩
theorem ziM {K:Frag}{a:Addr}{xs:List V}{g:TG}{tb:TS}{D:Ends}{σ:St}{H:Hp}(Pv:Nat→St→Hp→Prop)(h0:Pv 0 σ H)(hl:∀ i σ H,i≤xs.length→Pv i σ H→SqT K H a xs)
    (hs:∀ i x σ H,xs[i]?=some x→Pv i σ H→g x σ H fun σ2 H2=>tb { D with nx:=Pv (i+1),ct:=Pv (i+1),bk:=D.nx } σ2 H2) (hd:∀ σ H,Pv xs.length σ H→D.nx σ H) :
    ∃ W:Nat→Nat→St→Hp→Prop,(∃ m,W 0 m σ H)∧∀ i m σ H,W i m σ H→
      ((Itt K a).stop i H∧D.nx σ H)∨((Itt K a).go i H∧∃ N:St→Hp→Prop,(∀ σ' H',N σ' H'→∃ m',m' < m∧W (i+1) m' σ' H')∧∀ x H',(Itt K a).yld i H x H'→g x σ H' fun σ2 H2=>tb { D with nx:=N,ct:=N,bk:=D.nx } σ2 H2):=by
  refine ⟨fun i m σ H=>m=xs.length - i∧i≤xs.length∧Pv i σ H,⟨xs.length,by simp,yaJ _,h0⟩,?_⟩;rintro i m σ H ⟨rfl,hi,p⟩;have q:=hl i σ H hi p;by_cases hlt:i < xs.length
  · refine .inr ⟨⟨xs,xs[i],q,by simp[hlt]⟩,Pv (i+1),fun σ' H' p'=>⟨xs.length - (i+1),by omega,rfl,hlt,p'⟩,fun x H' y=>?_⟩
    obtain ⟨e,y⟩:=y;subst e;exact hs i x σ _ (y xs q) p
  · have e:i=xs.length:=by omega
    subst e;exact .inl ⟨⟨xs,q,yaa _⟩,hd σ H p⟩
theorem zbW {lo:Int}{n:Nat}{g:TG}{tb:TS}{D:Ends}{σ:St}{H:Hp}(Pv:Nat→St→Hp→Prop)(h0:Pv 0 σ H)
    (hs:∀ i σ H,i < n→Pv i σ H→g (.int (lo+i)) σ H fun σ2 H2=>tb { D with nx:=Pv (i+1),ct:=Pv (i+1),bk:=D.nx } σ2 H2) (hd:∀ σ H,Pv n σ H→D.nx σ H) :
    ∃ W:Nat→Nat→St→Hp→Prop,(∃ m,W 0 m σ H)∧∀ i m σ H,W i m σ H→
      ((Itr lo n).stop i H∧D.nx σ H)∨((Itr lo n).go i H∧∃ N:St→Hp→Prop,(∀ σ' H',N σ' H'→∃ m',m' < m∧W (i+1) m' σ' H')∧∀ x H',(Itr lo n).yld i H x H'→g x σ H' fun σ2 H2=>tb { D with nx:=N,ct:=N,bk:=D.nx } σ2 H2):=by
  refine ⟨fun i m σ H=>m=n - i∧i≤n∧Pv i σ H,⟨n,by simp,yaJ _,h0⟩,?_⟩;rintro i m σ H ⟨rfl,hi,p⟩;by_cases hlt:i < n
  · refine .inr ⟨hlt,Pv (i+1),fun σ' H' p'=>⟨n - (i+1),by omega,rfl,hlt,p'⟩,fun x H' y=>?_⟩
    obtain ⟨e,y⟩:=y;subst e y;exact hs i σ _ hlt p
  · have e:i=n:=by omega
    subst e;exact .inl ⟨yaa _,hd σ H p⟩
theorem zmQ {c:TT}{tb:TS}{D:Ends}{σ:St}{H:Hp}(Pv:St→Hp→Prop)(μ:St→Hp→Nat)(h0:Pv σ H)
    (hs:∀ σ H,Pv σ H→c σ H fun b H1=>if b=true then tb { D with nx:=fun σ' H'=>Pv σ' H'∧μ σ' H' < μ σ H,ct:=fun σ' H'=>Pv σ' H'∧μ σ' H' < μ σ H,bk:=D.nx } σ H1 else D.nx σ H1)
    (mono:∀ σ H Q Q',(∀ b H1,Q b H1→Q' b H1)→c σ H Q→c σ H Q'):zkV c tb D σ H:=by
  refine ⟨fun m σ H=>m=μ σ H∧Pv σ H,⟨_,rfl,h0⟩,?_⟩;rintro m σ H ⟨rfl,p⟩;refine mono σ H _ _ (fun b H1 q=>?_) (hs σ H p);cases b with
  | true=>exact ⟨_,fun σ' H' ⟨p',l⟩=>⟨_,l,rfl,p'⟩,q⟩
  | false=>exact q
end L2
namespace L2
open PySem PySem.Spec PyProof.Rows
abbrev R2:=V→V→Hp→VK→Prop
def OpR (X:Cx)(f:Value→Value→Sem Value)(r:R2):Prop:=
  ∀(pins:List (Addr×Obj)) (s:Shared) (σ:St) (H:Hp) (x y:V) (v u:Value) (Q:VK),Inv X pins σ H s→RelV x v→RelV y u→r x y H Q→
    wpAny (model X.prog X.w) X.A (f v u) (EP X pins σ Q) X.xe s
def UnR (X:Cx)(f:Value→Sem Value)(r:V→Hp→VK→Prop):Prop:=
  ∀(pins:List (Addr×Obj)) (s:Shared) (σ:St) (H:Hp) (x:V) (v:Value) (Q:VK),Inv X pins σ H s→RelV x v→r x H Q→
    wpAny (model X.prog X.w) X.A (f v) (EP X pins σ Q) X.xe s
def zbG (X:Cx)(f:Value)(r:List V→Hp→VK→Prop):Prop:=
  ∀(pins:List (Addr×Obj)) (s:Shared) (σ:St) (H:Hp) (xs:List V) (us:List Value) (Q:VK),Inv X pins σ H s→Vals xs us→r xs H Q→
    wpAny (model X.prog X.w) X.A (call f us) (EP X pins σ Q) X.xe s
def tOp (r:R2)(ta tb:TE):TE:=fun σ H Q=>ta σ H fun x H1=>tb σ H1 fun y H2=>r x y H2 Q
def tUn (r:V→Hp→VK→Prop)(ta:TE):TE:=fun σ H Q=>ta σ H fun x H1=>r x H1 Q
def rI (C:Int→Int→Prop)(g:Int→Int→V):R2:=fun x y H Q=>∃ i j,x=.int i∧y=.int j∧C i j∧Q (g i j) H
def rI0 (g:Int→Int→V):R2:=fun x y H Q=>∃ i j,x=.int i∧y=.int j∧Q (g i j) H
def rU (g:Int→V):V→Hp→VK→Prop:=fun x H Q=>∃ i,x=.int i∧Q (g i) H
section
variable {X:Cx}{a b c:Expr}{ta tb tc:TE}{pos:Pos}
theorem binT (ha:PE X a ta)(hb:PE X b tb){pins:List (Addr×Obj)}{s:Shared}{σ:St}{H:Hp}{R:V→V→Hp→Prop}(I:Inv X pins σ H s)
    (h:ta σ H fun x H1=>tb σ H1 fun y H2=>R x y H2) {Q:Value→Shared→Prop} {f:Value→Value→Sem Value}
    (hf:∀ v u s2 x y H2,Inv X pins σ H2 s2→RelV x v→RelV y u→R x y H2→wpAny (model X.prog X.w) X.A (f v u) Q X.xe s2) :
    wpAny (model X.prog X.w) X.A (eval a X.env) (fun v s₁=>wpAny (model X.prog X.w) X.A (eval b X.env) (fun u s₂=>wpAny (model X.prog X.w) X.A (f v u) Q X.xe s₂) X.xe s₁) X.xe s:=by
  refine thn (ha pins s σ H _ I h) fun v s1 zq0=>?_;obtain ⟨x,H1,I1,r1,q1⟩:=zq0;refine thn (hb pins s1 σ H1 _ I1 q1) fun u s2 zq0=>?_;obtain ⟨y,H2,I2,r2,q2⟩:=zq0;exact hf v u s2 x y H2 I2 r1 r2 q2
theorem zav {op:Operator}{r:R2}(ho:OpR X (binaryOp op) r)(ha:PE X a ta)(hb:PE X b tb):PE X (.BinOp a op b pos) (tOp r ta tb):=by
  intro pins s σ H Q I h;exact wpAny_BinOp (binT ha hb I h fun v u s2 x y H2 I2 rx ry q=>ho pins s2 σ H2 x y v u Q I2 rx ry q)
theorem zpb {op:UnaryOp}{r:V→Hp→VK→Prop}(ho:UnR X (unaryOp op) r)(ha:PE X a ta):PE X (.UnaryOp op a pos) (tUn r ta):=by
  intro pins s σ H Q I h;exact UnaryOp_ (thn (ha pins s σ H _ I h) fun v s1 zq0=>(by obtain ⟨x,H1,I1,r1,q1⟩:=zq0;exact ho pins s1 σ H1 x v Q I1 r1 q1))
theorem opI {f:Value→Value→Sem Value}{C:Int→Int→Prop}{g:Int→Int→Int}
    (rule:∀(i j:Int) (t u:Tok) (s:Shared) (Q:Value→Shared→Prop) (E:Value→Shared→Prop),C i j→Q (.int (g i j) s.toks) { s with toks:=s.toks+1 }→wpAny (model X.prog X.w) X.A (f (.int i t) (.int j u)) Q E s) :
    OpR X f (rI C fun i j=>.int (g i j)):=by
  intro pins s σ H x y v u Q I rx ry h;obtain ⟨i,j,rfl,rfl,hc,q⟩:=h;obtain ⟨t,rfl⟩:=rx;obtain ⟨t',rfl⟩:=ry;exact rule i j t t' s _ _ hc ⟨.int (g i j),H,I.tok _,⟨_,rfl⟩,q⟩
theorem opI0 {f:Value→Value→Sem Value}{g:Int→Int→Int}
    (rule:∀(i j:Int) (t u:Tok) (s:Shared) (Q:Value→Shared→Prop) (E:Value→Shared→Prop),Q (.int (g i j) s.toks) { s with toks:=s.toks+1 }→wpAny (model X.prog X.w) X.A (f (.int i t) (.int j u)) Q E s) :
    OpR X f (rI0 fun i j=>.int (g i j)):=by
  intro pins s σ H x y v u Q I rx ry h;obtain ⟨i,j,rfl,rfl,q⟩:=h;obtain ⟨t,rfl⟩:=rx;obtain ⟨t',rfl⟩:=ry;exact rule i j t t' s _ _ ⟨.int (g i j),H,I.tok _,⟨_,rfl⟩,q⟩
theorem opB0 {f:Value→Value→Sem Value}{g:Int→Int→Bool}
    (rule:∀(i j:Int) (t u:Tok) (s:Shared) (Q:Value→Shared→Prop) (E:Value→Shared→Prop),Q (.bool (g i j)) s→wpAny (model X.prog X.w) X.A (f (.int i t) (.int j u)) Q E s) :
    OpR X f (rI0 fun i j=>.bl (g i j)):=by
  intro pins s σ H x y v u Q I rx ry h;obtain ⟨i,j,rfl,rfl,q⟩:=h;obtain ⟨t,rfl⟩:=rx;obtain ⟨t',rfl⟩:=ry;exact rule i j t t' s _ _ ⟨.bl (g i j),H,I,rfl,q⟩
def CDiv (i j:Int):Prop:=0 < j∧j < 1073741824
def CPow (i j:Int):Prop:=0≤j∧j≤1000000∧i.natAbs < 2 ^ 64
def CMul (i j:Int):Prop:=(-(2 ^ 64) < i∧i < 2 ^ 64)∨(-(2 ^ 64) < j∧j < 2 ^ 64)
theorem CMul.ok {i j:Int}(h:CMul i j):IntMulOk i j:=by
  rcases h with ⟨h1,h2⟩ | ⟨h1,h2⟩
  · exact .of_left (intBits_le_64 h1 h2)
  · exact .of_right (intBits_le_64 h1 h2)
theorem zjX (k:Nat):(0:Int)≤2 ^ k:=by
  rw[two_pow_cast];exact ybm _
theorem zbC:OpR X (binaryOp .Add) (rI0 fun i j=>.int (i+j)):=opI0 fun _ _ _ _ _ _ _ q=>add_int q
theorem zcH:OpR X (binaryOp .Sub) (rI0 fun i j=>.int (i - j)):=opI0 fun _ _ _ _ _ _ _ q=>sub_int q
theorem zch:OpR X (binaryOp .Mult) (rI CMul fun i j=>.int (i * j)):=opI fun _ _ _ _ _ _ _ hc q=>mul_int q hc.ok
theorem ziu:OpR X (binaryOp .FloorDiv) (rI CDiv fun i j=>.int (i / j)):=opI fun i j _ _ _ _ _ hc q=>by
  have h1:(0:Int) < j:=hc.1;have h2:j < 1073741824:=hc.2;exact floordiv_int (by omega) (by rw[Int.fdiv_eq_ediv_of_nonneg i (by omega)];exact q) (.inl (PyProof.noPylong_small (by omega)))
theorem zdI:OpR X (binaryOp .Mod) (rI (fun _ j=>0 < j) fun i j=>.int (i % j)):=opI fun i j _ _ _ _ _ hc q=>by
  have h1:(0:Int) < j:=hc;exact mod_int' (by omega) (by rw[Int.fmod_eq_emod_of_nonneg i (by omega)];exact q)
theorem zgo:OpR X (binaryOp .Pow) (rI CPow fun i j=>.int (i ^ j.toNat)):=opI fun _ _ _ _ _ _ _ hc q=>pow_int_small hc.1 hc.2.1 hc.2.2 q
theorem zqE:OpR X (binaryOp .RShift) (rI (fun _ j=>0≤j) fun i j=>.int (i / 2 ^ j.toNat)):=opI fun i j _ _ _ _ _ hc q=>
  rshift_int hc (by rw[Int.fdiv_eq_ediv_of_nonneg i (zjX _)];exact q)
theorem zoD:OpR X (binaryOp .BitAnd) (rI0 fun i j=>.int (Builtin.bitAnd i j)):=opI0 fun _ _ _ _ _ _ _ q=>and_int q
theorem zqD:OpR X (binaryOp .BitXor) (rI0 fun i j=>.int (Builtin.bitXor i j)):=opI0 fun _ _ _ _ _ _ _ q=>xor_int q
theorem unI {f:Value→Sem Value}{g:Int→Int}
    (rule:∀(i:Int) (t:Tok) (s:Shared) (Q:Value→Shared→Prop) (E:Value→Shared→Prop),Q (.int (g i) s.toks) { s with toks:=s.toks+1 }→wpAny (model X.prog X.w) X.A (f (.int i t)) Q E s) :
    UnR X f (rU fun i=>.int (g i)):=by
  intro pins s σ H x v Q I rx h;obtain ⟨i,rfl,q⟩:=h;obtain ⟨t,rfl⟩:=rx;exact rule i t s _ _ ⟨.int (g i),H,I.tok _,⟨_,rfl⟩,q⟩
theorem zkP:UnR X (unaryOp .USub) (rU fun i=>.int (-i)):=unI fun _ _ _ _ _ q=>neg_int q
end
def scal:V→V→Bool
  | .non,.non=>true | .non,.int _=>true | .int _,.non=>true | .non,.bl _=>true | .bl _,.non=>true | .non,.str _=>true | .str _,.non=>true
  | .int _,.int _=>true | .bl _,.bl _=>true | .str _,.str _=>true | .byt _,.byt _=>true
  | .int _,.str _=>true | .str _,.int _=>true | .bl _,.str _=>true | .str _,.bl _=>true
  | _,_=>false
def rEq:R2:=fun x y H Q=>scal x y=true∧Q (.bl (decide (x=y))) H
def rNe:R2:=fun x y H Q=>scal x y=true∧Q (.bl (!decide (x=y))) H
theorem zmt {i j:Int}:decide (V.int i=V.int j)=(i == j):=by
  rw[yb0];simp
theorem zoK {i j:Bool}:decide (V.bl i=V.bl j)=(i == j):=by
  rw[yb0];simp
theorem zms {i j:Str}:decide (V.str i=V.str j)=(i == j):=by
  rw[yb0];simp
theorem zmu {i j:Array UInt8}:decide (V.byt i=V.byt j)=(i.toList == j.toList):=by
  rw[yb0];cases i
  cases j
  simp
section
variable {X:Cx}{a b c:Expr}{ta tb tc:TE}{pos:Pos}
theorem zaN {pins:List (Addr×Obj)}{σ:St}{H:Hp}{s:Shared}{Q:VK}{k k':Bool}(I:Inv X pins σ H s)(q:Q (.bl k) H)(e:k=k'):EP X pins σ Q (.bool k') s:=by
  subst e;exact ⟨.bl k,H,I,rfl,q⟩
theorem zg4:OpR X (compareOp .Eq) rEq:=by
  intro pins s σ H x y v u Q I rx ry h;obtain ⟨hs,q⟩:=h;cases x with
  | non=>
    cases rx
    cases y with
    | non=>cases ry;exact PySem.EqNone.eq_none_none (zaN I q (by simp))
    | bl j=>cases ry;exact PySem.EqNone.eq_none_bool (zaN I q (by simp))
    | int j=>obtain ⟨t',rfl⟩:=ry;exact PySem.EqNone.eq_none_int (zaN I q (by simp))
    | str j=>obtain ⟨t',rfl⟩:=ry;exact PySem.EqNone.eq_none_str (zaN I q (by simp))
    | _=>exact absurd (show false=true from hs) yaz
  | bl i=>
    cases rx
    cases y with
    | non=>cases ry;exact PySem.EqNone.eq_bool_none (zaN I q (by simp))
    | bl j=>cases ry;exact eq_bool (zaN I q zoK)
    | str j=>obtain ⟨t',rfl⟩:=ry;exact PySem.EqMixed.eq_bool_str (zaN I q (by simp))
    | _=>exact absurd (show false=true from hs) yaz
  | int i=>
    obtain ⟨t,rfl⟩:=rx;cases y with
    | non=>cases ry;exact PySem.EqNone.eq_int_none (zaN I q (by simp))
    | int j=>obtain ⟨t',rfl⟩:=ry;exact eq_int (zaN I q zmt)
    | str j=>obtain ⟨t',rfl⟩:=ry;exact PySem.EqMixed.eq_int_str (zaN I q (by simp))
    | _=>exact absurd (show false=true from hs) yaz
  | str i=>
    obtain ⟨t,rfl⟩:=rx;cases y with
    | non=>cases ry;exact PySem.EqNone.eq_str_none (zaN I q (by simp))
    | bl j=>cases ry;exact PySem.EqMixed.eq_str_bool (zaN I q (by simp))
    | int j=>obtain ⟨t',rfl⟩:=ry;exact PySem.EqMixed.eq_str_int (zaN I q (by simp))
    | str j=>obtain ⟨t',rfl⟩:=ry;exact eq_str (zaN I q zms)
    | _=>exact absurd (show false=true from hs) yaz
  | byt i=>
    obtain ⟨t,rfl⟩:=rx;cases y with
    | byt j=>obtain ⟨t',rfl⟩:=ry;exact PySem.W.eq_bytes (zaN I q zmu)
    | _=>exact absurd (show false=true from hs) yaz
  | _=>cases y <;> exact absurd (show false=true from hs) yaz
theorem zka:OpR X (compareOp .NotEq) rNe:=by
  intro pins s σ H x y v u Q I rx ry h;obtain ⟨hs,q⟩:=h;cases x with
  | non=>
    cases rx
    cases y with
    | non=>cases ry;exact PySem.EqNone.ne_none_none (zaN I q (by simp))
    | bl j=>cases ry;exact PySem.EqNone.ne_none_bool (zaN I q (by simp))
    | int j=>obtain ⟨t',rfl⟩:=ry;exact PySem.EqNone.ne_none_int (zaN I q (by simp))
    | str j=>obtain ⟨t',rfl⟩:=ry;exact PySem.EqNone.ne_none_str (zaN I q (by simp))
    | _=>exact absurd (show false=true from hs) yaz
  | bl i=>
    cases rx
    cases y with
    | non=>cases ry;exact PySem.EqNone.ne_bool_none (zaN I q (by simp))
    | bl j=>cases ry;exact ne_bool (zaN I q (congrArg not zoK))
    | str j=>obtain ⟨t',rfl⟩:=ry;exact PySem.EqMixed.ne_bool_str (zaN I q (by simp))
    | _=>exact absurd (show false=true from hs) yaz
  | int i=>
    obtain ⟨t,rfl⟩:=rx;cases y with
    | non=>cases ry;exact PySem.EqNone.ne_int_none (zaN I q (by simp))
    | int j=>obtain ⟨t',rfl⟩:=ry;exact ne_int (zaN I q (congrArg not zmt))
    | str j=>obtain ⟨t',rfl⟩:=ry;exact PySem.EqMixed.ne_int_str (zaN I q (by simp))
    | _=>exact absurd (show false=true from hs) yaz
  | str i=>
    obtain ⟨t,rfl⟩:=rx;cases y with
    | non=>cases ry;exact PySem.EqNone.ne_str_none (zaN I q (by simp))
    | bl j=>cases ry;exact PySem.EqMixed.ne_str_bool (zaN I q (by simp))
    | int j=>obtain ⟨t',rfl⟩:=ry;exact PySem.EqMixed.ne_str_int (zaN I q (by simp))
    | str j=>obtain ⟨t',rfl⟩:=ry;exact ne_str (zaN I q (congrArg not zms))
    | _=>exact absurd (show false=true from hs) yaz
  | byt i=>
    obtain ⟨t,rfl⟩:=rx;cases y with
    | byt j=>obtain ⟨t',rfl⟩:=ry;exact PySem.W.ne_bytes (zaN I q (congrArg not zmu))
    | _=>exact absurd (show false=true from hs) yaz
  | _=>cases y <;> exact absurd (show false=true from hs) yaz
theorem zga:OpR X (compareOp .Lt) (rI0 fun i j=>.bl (decide (i < j))):=opB0 fun _ _ _ _ _ _ _ q=>lt_int q
theorem zni:OpR X (compareOp .LtE) (rI0 fun i j=>.bl (decide (i≤j))):=opB0 fun _ _ _ _ _ _ _ q=>le_int q
theorem zph:OpR X (compareOp .Gt) (rI0 fun i j=>.bl (decide (j < i))):=opB0 fun _ _ _ _ _ _ _ q=>gt_int q
theorem zlz:OpR X (compareOp .GtE) (rI0 fun i j=>.bl (decide (j≤i))):=opB0 fun _ _ _ _ _ _ _ q=>ge_int q
theorem zqF:OpR X (compareOp .Is) (fun x y H Q=>y=.non∧Q (.bl (decide (x=.non))) H):=by
  intro pins s σ H x y v u Q I rx ry h;obtain ⟨rfl,q⟩:=h;cases ry
  refine is_none_gen (zaN I q ?_);cases x <;> first
    | (cases rx;rfl)
    | (obtain ⟨t,rfl⟩:=rx;rfl)
theorem zlx:OpR X (compareOp .IsNot) (fun x y H Q=>y=.non∧Q (.bl (!decide (x=.non))) H):=by
  intro pins s σ H x y v u Q I rx ry h;obtain ⟨rfl,q⟩:=h;cases ry
  refine isnot_none_gen (zaN I q ?_);cases x <;> first
    | (cases rx;rfl)
    | (obtain ⟨t,rfl⟩:=rx;rfl)
theorem zaH (b:Expr){op:CmpOp}(h:op≠.In:=by decide)(h2:op≠.NotIn:=by decide):behindInMarks op b=false:=by
  have e1:(op == CmpOp.In)=false:=by cases op <;> first | rfl | exact absurd rfl h
  have e2:(op == CmpOp.NotIn)=false:=by cases op <;> first | rfl | exact absurd rfl h2
  cases b <;> simp[behindInMarks,e1,e2]
theorem zis {op:CmpOp}{r:R2}(ho:OpR X (compareOp op) r)(ha:PE X a ta)(hb:PE X b tb)(hm:behindInMarks op b=false):PE X (.Compare a [op] [b] pos) (tOp r ta tb):=by
  intro pins s σ H Q I h;exact wpAny_Compare1 (binT ha hb I h fun v u s2 x y H2 I2 rx ry q=>ho pins s2 σ H2 x y v u Q I2 rx ry q) hm
def zp6 (t:TE):TT:=fun σ H Q=>t σ H fun x H'=>∃ k,x=.bl k∧Q k H'
theorem zat {op:CmpOp}{r:R2}(ho:OpR X (compareOp op) r)(ha:PE X a ta)(hb:PE X b tb)(hm:behindInMarks op b=false):PT X (.Compare a [op] [b] pos) (zp6 (tOp r ta tb)):=by
  intro pins s σ H Q I h;refine wpAny_isTrue_Compare1 (thn (ha pins s σ H _ I h) fun v s1 ⟨x,H1,I1,r1,q1⟩=>thn (hb pins s1 σ H1 _ I1 q1) fun u s2 ⟨y,H2,I2,r2,q2⟩=>
    thn (ho pins s2 σ H2 x y v u _ I2 r1 r2 q2) fun c s3 ⟨z,H3,I3,r3,k,e,q3⟩=>?_) hm
  subst e;cases r3
  exact wpAny_truthy_bool ⟨H3,I3,q3⟩
def zoi (r r':R2)(ta tb tc:TE):TE:=fun σ H Q=>ta σ H fun x H1=>tb σ H1 fun y H2=>r x y H2 fun z H3=>∃ k,z=.bl k∧
  (if k=true then tc σ H3 fun w' H4=>r' y w' H4 Q else Q (.bl false) H3)
theorem zjx {op op':CmpOp}{r r':R2}(ho:OpR X (compareOp op) r)(ho':OpR X (compareOp op') r')(ha:PE X a ta)(hb:PE X b tb)(hc:PE X c tc)
    (hm:lastMarks [op,op'] [b,c]=false:=by with_unfolding_all rfl):PE X (.Compare a [op,op'] [b,c] pos) (zoi r r' ta tb tc):=by
  intro pins s σ H Q I h;refine Compare_chain (thn (ha pins s σ H _ I h) fun v s1 ⟨x,H1,I1,r1,q1⟩=>chain_link (thn (hb pins s1 σ H1 _ I1 q1) fun u s2 ⟨y,H2,I2,r2,q2⟩=>
    thn (ho pins s2 σ H2 x y v u _ I2 r1 r2 q2) fun d s3 ⟨z,H3,I3,r3,k,e,q3⟩=>?_)) hm
  subst e;cases r3
  refine wpAny_truthy_bool ?_;cases k with
  | false=>exact ite_ff ⟨.bl false,H3,I3,rfl,q3⟩
  | true=>exact ite_tt (chain_last (thn (hc pins s3 σ H3 _ I3 q3) fun w' s4 ⟨z',H4,I4,r4,q4⟩=>ho' pins s4 σ H4 y z' u w' Q I4 r2 r4 q4))
theorem zm8 {op op':CmpOp}{r r':R2}(ho:OpR X (compareOp op) r)(ho':OpR X (compareOp op') r')(ha:PE X a ta)(hb:PE X b tb)(hc:PE X c tc)
    (hm:lastMarks [op,op'] [b,c]=false:=by with_unfolding_all rfl):PT X (.Compare a [op,op'] [b,c] pos) (zp6 (zoi r r' ta tb tc)):=by
  intro pins s σ H Q I h;refine isTrue_chain (thn (ha pins s σ H _ I h) fun v s1 ⟨x,H1,I1,r1,q1⟩=>test_link (thn (hb pins s1 σ H1 _ I1 q1) fun u s2 ⟨y,H2,I2,r2,q2⟩=>
    thn (ho pins s2 σ H2 x y v u _ I2 r1 r2 q2) fun d s3 ⟨z,H3,I3,r3,k,e,q3⟩=>?_)) hm
  subst e;cases r3
  refine wpAny_truthy_bool ?_;cases k with
  | false=>
    obtain ⟨k',e',q'⟩:=q3;cases e'
    exact ite_ff ⟨H3,I3,q'⟩
  | true=>
    refine ite_tt (test_last (thn (hc pins s3 σ H3 _ I3 q3) fun w' s4 zq0=>?_));obtain ⟨z',H4,I4,r4,q4⟩:=zq0;refine thn (ho' pins s4 σ H4 y z' u w' _ I4 r2 r4 q4) fun d' s5 zq1=>?_;obtain ⟨z2,H5,I5,r5,k2,e2,q5⟩:=zq1;subst e2;cases r5
    exact wpAny_truthy_bool ⟨H5,I5,q5⟩
theorem zjD:(sizeLine:Nat) < 2 ^ 63:=by rw[sizeLine_eq];decide
theorem zev {x:V}{us:List Value}(r:Vals [x] us):∃ u,us=[u]∧RelV x u:=by
  cases r with
  | cons r1 r2=>cases r2;exact ⟨_,rfl,r1⟩
theorem zf5 {x y:V}{us:List Value}(r:Vals [x,y] us):∃ u w',us=[u,w']∧RelV x u∧RelV y w':=by
  cases r with
  | cons r1 r2=>
    cases r2 with
    | cons r3 r4=>cases r4;exact ⟨_,_,rfl,r1,r3⟩
theorem zhm:zbG X (.builtin "abs") (fun xs H Q=>∃ i,xs=[.int i]∧Q (.int (if i < 0 then -i else i)) H):=by
  intro pins s σ H xs us Q I r h;obtain ⟨i,rfl,q⟩:=h;obtain ⟨u,rfl,t,rfl⟩:=zev r;exact call_abs_int fun u tk=>⟨.int (if i < 0 then -i else i),H,I.tok _,⟨_,rfl⟩,q⟩
theorem zh2 (hc:X.calm=true):zbG X (.builtin "max") (fun xs H Q=>∃ i j,xs=[.int i,.int j]∧Q (.int (if j > i then j else i)) H):=by
  intro pins s σ H xs us Q I r h;obtain ⟨i,j,rfl,q⟩:=h;obtain ⟨u,w',rfl,⟨t,rfl⟩,⟨t',rfl⟩⟩:=zf5 r;refine max_two_ints (I.ok.hd hc) fun h' tk k=>⟨_,H,I.kept k,?_,q⟩;by_cases hj:j > i
  · rw[if_pos hj,if_pos hj];exact ⟨_,rfl⟩
  · rw[if_neg hj,if_neg hj];exact ⟨_,rfl⟩
theorem zmG:zbG X (.type "int") (fun xs H Q=>(∃ i,xs=[.int i]∧Q (.int i) H)∨∃ k,xs=[.bl k]∧Q (.int (if k then 1 else 0)) H):=by
  intro pins s σ H xs us Q I r h;rcases h with ⟨i,rfl,q⟩ | ⟨k,rfl,q⟩
  · obtain ⟨u,rfl,t,rfl⟩:=zev r
    exact call_int_int ⟨.int i,H,I,⟨_,rfl⟩,q⟩
  · obtain ⟨u,rfl,r1⟩:=zev r
    cases r1
    exact call_int_bool ⟨.int (if k then 1 else 0),H,I.tok _,⟨_,rfl⟩,q⟩
end
end L2
namespace L2
open PySem PySem.Spec PyProof.Rows
structure ObjM (h:Heap)(x dx C:Addr)(mA:Str→Option Value):Prop where
  obj:h.get? x=some (PySem.W.instObj C dx)
  ns:h.Ns1 dx mA
  ne:dx≠x
theorem zlV {h:Heap}{dx:Addr}{mA:Str→Option Value}(n:h.Ns1 dx mA):∃ od,h.get? dx=some od∧∀ name,PySem.W.lookIn name od=some (mA name):=by
  obtain ⟨o,es,ep,ho,hd,hk,_,hm⟩:=n;refine ⟨o,ho,fun name=>?_⟩;have e:=hm name;unfold nsFind findBy at e;rw[← Array.find?_toList]at e;unfold PySem.W.lookIn;rw[hd];dsimp only;split
  · rename_i y q
    rw[q]at e;exact congrArg some e
  · rename_i q
    rw[q]at e;have a:es.toList.any (·.refKey)=false:=by
      rw[List.any_eq_false];intro y hy;obtain ⟨z,t,hkey⟩:=hk y (Array.mem_toList_iff.mp hy);simp[DictEntry.refKey,hkey]
    have a':¬ es.toList.any (·.refKey)=true:=by rw[a];exact yaz
    rw[if_neg a'];exact congrArg some e
theorem ObjM.look {h:Heap}{x dx C:Addr}{mA:Str→Option Value}(I:ObjM h x dx C mA):∃ od,PySem.W.InstAt h x (PySem.W.instObj C dx) C (some od)∧∀ name,PySem.W.lookIn name od=some (mA name):=
  let ⟨od,ho,hl⟩:=zlV I.ns
  ⟨od,⟨I.obj,rfl,rfl,ho⟩,hl⟩
section
variable {prog:Program}{w:World}{A:Around}{E:Value→Shared→Prop}{s:Shared}{K:Frag}{x dx C f:Addr}{mA:Str→Option Value}{name:Str}{v:Value}
theorem zpI {expr:Bool}{Q:Value→Shared→Prop}(X:K.In s.heap)(I:ObjM s.heap x dx C mA)(hg:PySem.W.plainGet K C name=true)(hh:PySem.W.hasDictIn K C=true)
    (ha:findIn K (.ref C) name=some none) (hv:mA name=some v) (hv':PySem.W.handedIn v=true) (h:Q v { s with toks:=s.toks+1 }) :
    wpAny (model prog w) A (getAttr (.ref x) name expr) Q E s:=by
  obtain ⟨od,J,hl⟩:=I.look;exact PySem.W.get_value X J (PySem.W.plainGet_of hg).1 (PySem.W.findObj_own hh ha rfl (by rw[hl,hv])) hv' h
theorem znR {pl:Sem Bool}{Q:Value×List Value→Shared→Prop}(X:K.In s.heap)(I:ObjM s.heap x dx C mA)(hg:PySem.W.plainGet K C name=true)
    (hf:findIn K (.ref C) name=some (some (.ref f))) (ht:PySem.W.isFn K (.ref f)=true) (hv:mA name=none) (h:Q (.ref f,[.ref x]) s) :
    wpAny (model prog w) A (getMethod (.ref x) name pl) Q E s:=by
  obtain ⟨od,J,hl⟩:=I.look;exact PySem.W.method_fn X J (PySem.W.plainGet_of hg).1 (PySem.W.plainGet_of hg).2 hf (beq_iff_eq.mp ht) (by show (PySem.W.lookIn name od).map (·.isSome)=some false;rw[hl,hv];rfl) h
theorem zo2 {ns:List Str}{Q:Unit→Shared→Prop}(X:K.In s.heap)(I:ObjM s.heap x dx C mA)
    (hs:findIn K (.ref C) "__setattr__" = some (some (.builtin "object.__setattr__"))) (hp:PySem.W.plainOver K C=true) (ht:PySem.W.takerIn K C name=some none) (hh:PySem.W.hasDictIn K C=true)
    (hw:PySem.Within mA ns) (hsz:ns.length≤sizeLine)
    (h:∀ h',ObjM h' x dx C (fun y=>if y=name then some v else mA y)→Heap.SameBut dx s.heap h'→Q () { s with heap:=h',toks:=s.toks+2 }) :
    wpAny (model prog w) A (setAttr (.ref x) name v) Q E s:=by
  obtain ⟨od,J,hl⟩:=I.look;refine PySem.W.set_plain X J hs (PySem.W.osa_open (s:={ s with toks:=s.toks+1 }) (r:=none) X J hp ht fun b=>?_);obtain ⟨cd,hc,hd'⟩:=PySem.W.any_some hh;have hx:s.heap.get? x=some ⟨.ref C,some dx,.plain,#[]⟩:=I.obj;refine wpAny_bind (wpAny_pure (wpAny_bind (wpAny_bind (wpAny_loadPart hx (wpAny_bind (PySem.W.Looks.here (s:={ s with toks:=s.toks+1 }) (PySem.W.looks_clsIn X hc) ?_))))));rw[hd'];refine wpAny_pure (a:=some dx) (wpAny_bind (wpAny_pure (wpAny_bind ?_)));refine wpAny_nsSet1 (s:={ s with toks:=s.toks+1 }) I.ns fun h' hn2 hs2=>?_;obtain ⟨oD,esD,epD,hoD,hdD,hcD⟩:=hn2.count (PySem.Within.cons name v hw);refine wpAny_bind (wpAny_lookBehind hoD (by rw[hdD];exact pastItsLine_dict (yaA hcD (by rw[yaI];omega))) ?_);exact wpAny_pure (h _ ⟨(hs2.2 _ (Ne.symm I.ne)).trans I.obj,hn2,I.ne⟩ hs2)
theorem znD {R:Result→Shared→Prop}{vs:List Value}{kw:List (Str×Value)}(X:K.In s.heap)(hm:PySem.W.makesIn K C=true)
    (hi:findIn K (.ref C) "__init__" = some (some (.ref f))) (hf:PySem.W.typeIn K (.ref f)=some (.type "function"))
    (h:codeAny (model prog w) (A.under (.builtin "type.__call__" ⟨.ref C::vs,kw⟩)) (.call (.ref f) ⟨.ref (s.heap.objs.size+1)::vs,kw⟩) (PySem.W.InitBack (s.heap.objs.size+1) R)
      { s with heap:=(s.heap.push PySem.W.emptyDict).push (PySem.W.instObj C s.heap.objs.size) }) :
    codeAny (model prog w) A (.call (.ref C) ⟨vs,kw⟩) R s:=by
  obtain ⟨hh,g,d,t,os⟩:=s;exact PySem.W.make_core (PySem.W.makes_of X hm) (PySem.W.looks_findIn X hi) (fun self=>PySem.W.bind_fn X self hf) (.inl rfl) h
end
def putF (f:Str)(v:V):List (Str×V)→List (Str×V)
  | []=>[(f,v)]
  | (g,x)::r=>if g=f then (g,v)::r else (g,x)::putF f v r
theorem zfD (f g:Str)(v:V):∀ fs:List (Str×V),(putF f v fs).lookup g=if g=f then some v else fs.lookup g
  | []=>by
    show List.lookup g [(f,v)]=_;by_cases h:g=f
    · have hb:(g == f)=true:=beq_iff_eq.mpr h
      simp only[List.lookup,hb,if_pos h]
    · have hb:(g == f)=false:=beq_eq_false_iff_ne.mpr h
      simp only[List.lookup,hb,if_neg h]
  | (k,x)::r=>by
    have ih:=zfD f g v r;rw[show putF f v ((k,x)::r)=(if k=f then (k,v)::r else (k,x)::putF f v r) from rfl]
    by_cases hk:k=f
    · rw[if_pos hk]
      by_cases h:g=k
      · have hb:(g == k)=true:=beq_iff_eq.mpr h
        simp only[List.lookup,hb,if_pos (h.trans hk)]
      · have hb:(g == k)=false:=beq_eq_false_iff_ne.mpr h
        simp only[List.lookup,hb,if_neg (fun e:g=f=>h (e.trans hk.symm))]
    · rw[if_neg hk]
      by_cases h:g=k
      · have hb:(g == k)=true:=beq_iff_eq.mpr h
        simp only[List.lookup,hb,if_neg (fun e:g=f=>hk (h.symm.trans e))]
      · have hb:(g == k)=false:=beq_eq_false_iff_ne.mpr h
        simp only[List.lookup,hb];exact ih
theorem zfG (f:Str)(v:V):∀ fs:List (Str×V),f∈(putF f v fs).map (·.1)∧∀ g,g∈fs.map (·.1)→g∈(putF f v fs).map (·.1)
  | []=>⟨by simp[putF],fun g h=>by simp at h⟩
  | (k,x)::r=>by
    obtain ⟨i1,i2⟩:=zfG f v r;rw[show putF f v ((k,x)::r)=(if k=f then (k,v)::r else (k,x)::putF f v r) from rfl]
    by_cases hk:k=f
    · rw[if_pos hk]
      subst hk;exact ⟨by simp,fun g h=>by simpa using h⟩
    · rw[if_neg hk]
      refine ⟨?_,fun g h=>?_⟩
      · rw[yau]
        exact yax _ i1
      · rw[yau]at h ⊢
        rcases yam.mp h with e | e
        · exact yam.mpr (.inl e)
        · exact yax _ (i2 g e)
theorem zfF (f:Str)(v:V):∀ fs:List (Str×V),(putF f v fs).length≤fs.length+1
  | []=>by simp[putF]
  | (k,x)::r=>by
    have ih:=zfF f v r;rw[show putF f v ((k,x)::r)=(if k=f then (k,v)::r else (k,x)::putF f v r) from rfl]
    by_cases hk:k=f
    · rw[if_pos hk,yaI,yaI];omega
    · rw[if_neg hk,yaI,yaI];omega
theorem RelO.some_of {v:V}{o:Option Value}(r:RelO (some v) o):∃ u,o=some u∧RelV v u:=by
  cases o with
  | none=>exact (show False from r).elim
  | some u=>exact ⟨u,rfl,r⟩
theorem RelO.none_of {o:Option Value}(r:RelO none o):o=none:=by
  cases o with
  | none=>rfl
  | some u=>exact (show False from r).elim
theorem zmf {v:V}{u:Value}(r:RelV v u):PySem.W.handedIn u=true:=by
  cases v with
  | non=>cases (show u=Value.none from r);rfl
  | bl b=>cases (show u=Value.bool b from r);rfl
  | int i=>obtain ⟨t,e⟩:=(show ∃ t,u=Value.int i t from r);cases e;rfl
  | str x=>obtain ⟨t,e⟩:=(show ∃ t,u=Value.str x t from r);cases e;rfl
  | byt b=>obtain ⟨t,e⟩:=(show ∃ t,u=Value.bytes b t from r);cases e;rfl
  | flt b=>obtain ⟨t,e⟩:=(show ∃ t,u=Value.float b t from r);cases e;rfl
  | ref a=>cases (show u=Value.ref a from r);rfl
  | ty n=>cases (show u=Value.type n from r);rfl
section
variable {P:Program}{w:World}{H H':Hp}{h h':Heap}{a C dx:Addr}{fs fs':List (Str×V)}
theorem zhg (hok:HOk P w H h)(e:H a=some (.ins C dx fs)):∃ mA,ObjM h a dx C mA∧(∀ f,RelO (fs.lookup f) (mA f))∧PySem.Within mA (fs.map (·.1))∧fs.length≤1000∧H dx=some (.own a):=by
  obtain ⟨d,z,ne,ob,mA,n,r,q⟩:=(show za9 P w H h a (.ins C dx fs) from hok a _ e);exact ⟨mA,⟨ob,n,ne⟩,r,q,z,d⟩
end
structure Cls (K:Frag)(C:Addr):Prop where
  pg:PySem.W.plainGet K C Str.empty=true
  hd:PySem.W.hasDictIn K C=true
  po:PySem.W.plainOver K C=true
  sa:findIn K (.ref C) "__setattr__" = some (some (.builtin "object.__setattr__"))
theorem Cls.get {K:Frag}{C:Addr}(c:Cls K C)(f:Str):PySem.W.plainGet K C f=true:=c.pg
def zeZ (K:Frag)(C:Addr)(f:Str):Prop:=findIn K (.ref C) f=some none
theorem zeZ.taker {K:Frag}{C:Addr}{f:Str}(n:zeZ K C f):PySem.W.takerIn K C f=some none:=by
  unfold PySem.W.takerIn;rw[show findIn K (.ref C) f=some none from n];rfl
structure Meth (K:Frag)(C:Addr)(m:Str)(f:Addr):Prop where
  at_:findIn K (.ref C) m=some (some (.ref f))
  fn:PySem.W.isFn K (.ref f)=true
  kp:keepIn K (.ref f)=true
section
variable {X:Cx}{pins:List (Addr×Obj)}{σ:St}{H:Hp}{s:Shared}{a C dx:Addr}{fs:List (Str×V)}{f:Str}{v:V}{A:Around}{E:Value→Shared→Prop}
theorem zkn {b:Bool}{Q:Value→Shared→Prop}(I:Inv X pins σ H s)(e:H a=some (.ins C dx fs))(c:Cls X.K C)(n:zeZ X.K C f)(l:fs.lookup f=some v)
    (h:∀ u s',Inv X pins σ H s'→RelV v u→Q u s'):wpAny (model X.prog X.w) A (getAttr (.ref a) f b) Q E s:=by
  obtain ⟨mA,O,r,_,_,_⟩:=zhg I.hok e;obtain ⟨u,hu,ru⟩:=RelO.some_of (v:=v) (o:=mA f) (by rw[← l];exact r f);exact zpI I.kIn O (c.get f) c.hd n hu (zmf ru) (h u _ (I.tok _) ru)
theorem zeF {m:Str}{g:Addr}{pl:Sem Bool}{Q:Value×List Value→Shared→Prop}(I:Inv X pins σ H s)(e:H a=some (.ins C dx fs))(c:Cls X.K C)(k:Meth X.K C m g)(l:fs.lookup m=none)
    (h:Q (.ref g,[.ref a]) s):wpAny (model X.prog X.w) A (getMethod (.ref a) m pl) Q E s:=by
  obtain ⟨mA,O,r,_,_,_⟩:=zhg I.hok e;have hn:mA m=none:=RelO.none_of (by rw[← l];exact r m);exact znR I.kIn O (c.get m) k.at_ k.fn hn h
theorem zj0 {y:V}{u:Value}{Q:Unit→Shared→Prop}(I:Inv X pins σ H s)(e:H a=some (.ins C dx fs))(c:Cls X.K C)(n:zeZ X.K C f)(hl:fs.length < 1000)(ry:RelV y u)
    (h:∀ s',Inv X pins σ (upd H a (.ins C dx (putF f y fs))) s'→Q () s'):wpAny (model X.prog X.w) A (setAttr (.ref a) f u) Q E s:=by
  obtain ⟨mA,O,r,wi,_,ho⟩:=zhg I.hok e;have hz:(fs.map (·.1)).length≤sizeLine:=by rw[yab,sizeLine_eq];omega
  refine zo2 I.kIn O c.sa c.po n.taker c.hd wi hz fun h' O' sb=>h _ ?_;have hd:∃ o,h'.get? dx=some o:=let ⟨o,_,_,e',_⟩:=O'.ns;⟨o,e'⟩;refine I.write (x:=a) (e:=dx) (by rw[e];exact True.intro) (.inr ho) (fun b q hb z=>(sb.2 b hb).trans z) hd ?_;refine ⟨by rw[zag O.ne];exact ho,?_,O.ne,O'.obj,_,O'.ns,fun g=>?_,fun g hg=>?_⟩
  · have:=zfF f y fs;omega
  · show RelO ((putF f y fs).lookup g) (if g=f then some u else mA g)
    rw[zfD];by_cases q:g=f
    · rw[if_pos q,if_pos q];exact ry
    · rw[if_neg q,if_neg q];exact r g
  · by_cases q:g=f
    · rw[q];exact (zfG f y fs).1
    · refine (zfG f y fs).2 g (wi g fun z=>hg ?_)
      show (if g=f then some u else mA g)=none
      rw[if_neg q];exact z
theorem Inv.made (I:Inv X pins σ H s):Inv X pins σ (upd (upd H s.heap.objs.size (.own (s.heap.objs.size+1))) (s.heap.objs.size+1) (.ins C s.heap.objs.size []))
    { s with heap:=(s.heap.push PySem.W.emptyDict).push (PySem.W.instObj C s.heap.objs.size) }:=by
  have e1:(s.heap.push PySem.W.emptyDict).get? s.heap.objs.size=some PySem.W.emptyDict:=yaB s.heap rfl;have e2:((s.heap.push PySem.W.emptyDict).push (PySem.W.instObj C s.heap.objs.size)).get? (s.heap.objs.size+1)=some (PySem.W.instObj C s.heap.objs.size):=by
    have:=yaB (s.heap.push PySem.W.emptyDict) (o:=PySem.W.instObj C s.heap.objs.size) rfl;rwa[yb1]at this
  have e3:(s.heap.push PySem.W.emptyDict).Ns s.heap.objs.size (fun _=>none):=⟨PySem.W.emptyDict,#[],_,e1,rfl,(fun e he=>absurd he (by simp)),fun _=>rfl⟩;have I1:=I.laid (a:=s.heap.objs.size) (o:=.own (s.heap.objs.size+1)) (h':=s.heap.push PySem.W.emptyDict) (t':=s.toks) (fun b u q=>yah _ q) (yaa _) ⟨_,e1⟩;refine I1.laid (a:=s.heap.objs.size+1) (o:=.ins C s.heap.objs.size []) (t':=s.toks) (fun b u q=>yah _ q) (Nat.le_of_eq (yb1 _ _)) ?_;have ne:s.heap.objs.size≠s.heap.objs.size+1:=yao (yb2 _);refine ⟨by rw[zag ne,zab],yaJ _,ne,e2,fun _=>none,(Heap.Ns1.of_empty e3).at fun o q=>yah _ q,fun _=>True.intro,fun y hy=>absurd rfl hy⟩
theorem zpT {prog:Program}{w:World}{env:Env}{e:Expr}{f:Str}{pos:Pos}{s:Shared}{Q:Value→Shared→Prop}(hb:attributeBase e f env (eval e env)=eval e env)
    (h:wpAny (model prog w) A (eval e env) (fun o s₁=>wpAny (model prog w) A (getAttr o f true) Q E s₁) E s):wpAny (model prog w) A (eval (.Attribute e f pos) env) Q E s:=
  Attribute_any_ h (by rw[arm_eval_Attribute,hb])
end
def tFld (K:Frag)(ta:TE)(f:Str):TE:=fun σ H Q=>ta σ H fun x H1=>∃ a C dx fs v,x=.ref a∧H1 a=some (.ins C dx fs)∧Cls K C∧zeZ K C f∧fs.lookup f=some v∧Q v H1
def sFld (K:Frag)(ta tv:TE)(f:Str):TS:=fun D σ H=>tv σ H fun y H1=>ta σ H1 fun x H2=>∃ a C dx fs,x=.ref a∧H2 a=some (.ins C dx fs)∧Cls K C∧zeZ K C f∧fs.length < 1000∧
  D.nx σ (upd H2 a (.ins C dx (putF f y fs)))
section
variable {X:Cx}{o e value:Expr}{f:Str}{pos pos' tpos:Pos}{ta tv:TE}
theorem zbT (he:PE X e ta)(hb:attributeBase e f X.env (eval e X.env)=eval e X.env):PE X (.Attribute e f pos) (tFld X.K ta f):=by
  intro pins s σ H Q I h;refine zpT hb (thn (he pins s σ H _ I h) fun u s1 zq0=>?_);obtain ⟨x,H1,I1,rx,a,C,dx,fs,v,ex,ea,c,n,l,q⟩:=zq0;subst ex;obtain rfl:u=Value.ref a:=rx;exact zkn I1 ea c n l fun u' s2 I2 ru=>⟨v,H1,I2,ru,q⟩
theorem zhF (ha:PE X o ta)(hv:PE X value tv)(hs:swapsWith value (some (.Attribute o f pos')) pos.line X.env=pure false):PS X (.Assign [.Attribute o f pos'] value pos) (sFld X.K ta tv f):=by
  intro pins s σ H D I h;refine plainObj_wpAny_Assign_Attribute (thn (hv pins s σ H _ I h) fun u s1 zq0=>?_) hs;obtain ⟨y,H1,I1,ry,q⟩:=zq0;refine thn (ha pins s1 σ H1 _ I1 q) fun ov s2 zq1=>?_;obtain ⟨x,H2,I2,rx,a,C,dx,fs,ex,ea,c,n,l,q2⟩:=zq1;subst ex;obtain rfl:ov=Value.ref a:=rx;exact zj0 I2 ea c n l ry fun s3 I3=>⟨σ,_,I3,q2⟩
end
section
variable {X:Cx}{pins:List (Addr×Obj)}{σ:St}{H:Hp}{s:Shared}{A:Around}{E:Value→Shared→Prop}{Q:Value→Shared→Prop}{c:Value}{b:Bool}
inductive TyOf (K:Frag)(H:Hp):V→Value→Prop where
  | non:TyOf K H .non (.type "NoneType")
  | bl (x:Bool):TyOf K H (.bl x) (.type "bool")
  | int (i:Int):TyOf K H (.int i) (.type "int")
  | str (x:Str):TyOf K H (.str x) (.type "str")
  | flt (x:UInt64):TyOf K H (.flt x) (.type "float")
  | lst {a:Addr} {xs:List V} (e:H a=some (.lst xs)):TyOf K H (.ref a) (.type "list")
  | frz {a:Addr} {o:Obj} {xs:List V} (e:H a=some (.frz o (.lst xs))):TyOf K H (.ref a) (.type "list")
  | tup {a:Addr} {xs:List V} (e:H a=some (.tup xs)):TyOf K H (.ref a) (.type "tuple")
  | dK {a:Addr} {kvs:List (Key×V)} (e:H a=some (.dK kvs)):TyOf K H (.ref a) (.type "dict")
  | dT {a:Addr} {kvs:List (List Key×V)} (e:H a=some (.dT kvs)):TyOf K H (.ref a) (.type "dict")
  | ins {a C dx:Addr} {fs:List (Str×V)} (e:H a=some (.ins C dx fs)) (cl:Cls K C) (ha:findIn K (.ref C) "__class__" = some (some (.builtin "object.__class__")))
      (hn:PySem.W.specialIn K (.builtin "object.__class__") "__get__" = some (some (.builtin "getset_descriptor.__get__"))) (htk:PySem.W.takesIn K (.builtin "object.__class__")=some true)
      (hm:mroIn K C (.type "object")=some true):TyOf K H (.ref a) (.ref C)
theorem zl9 {x:V}{u t:Value}(I:Inv X pins σ H s)(rx:RelV x u)(ty:TyOf X.K H x t)(e:kitOne X.K t c=some b)(h:∀ tk,Q (.bool b) { s with toks:=tk }) :
    wpAny (model X.prog X.w) A (call (.builtin "isinstance") [u,c]) Q E s:=by
  cases ty with
  | non=>cases (show u=Value.none from rx);exact PySem.W.kia_one PySem.W.kitx_none I.kIn True.intro e (fun z=>nomatch z) h
  | bl y=>cases (show u=Value.bool y from rx);exact PySem.W.kia_one PySem.W.kitx_bool I.kIn True.intro e (fun z=>nomatch z) h
  | int i=>obtain ⟨t,q⟩:=(show ∃ t,u=Value.int i t from rx);cases q;exact PySem.W.kia_one PySem.W.kitx_int I.kIn True.intro e (fun z=>nomatch z) h
  | str y=>obtain ⟨t,q⟩:=(show ∃ t,u=Value.str y t from rx);cases q;exact PySem.W.kia_one PySem.W.kitx_str I.kIn True.intro e (fun z=>nomatch z) h
  | flt y=>obtain ⟨t,q⟩:=(show ∃ t,u=Value.float y t from rx);cases q;exact PySem.W.kia_one PySem.W.kitx_float I.kIn True.intro e (fun z=>nomatch z) h
  | @lst a xs ea=>
    cases (show u=Value.ref a from rx)
    obtain ⟨_,_,n,_,h1⟩:=(show za9 X.prog X.w H s.heap a (.lst xs) from I.hok a _ ea);exact PySem.W.kia_one PySem.W.kitx_list I.kIn ⟨_,h1,rfl⟩ e (fun z=>nomatch z) h
  | @frz a ob xs ea=>
    cases (show u=Value.ref a from rx)
    obtain ⟨_,_,_,n,_,h1⟩:=(show za9 X.prog X.w H s.heap a (.frz ob (.lst xs)) from I.hok a _ ea);exact PySem.W.kia_one PySem.W.kitx_list I.kIn ⟨_,h1,rfl⟩ e (fun z=>nomatch z) h
  | @tup a xs ea=>
    cases (show u=Value.ref a from rx)
    obtain ⟨_,_,_,p⟩:=(show za9 X.prog X.w H s.heap a (.tup xs) from I.hok a _ ea);obtain ⟨o,h1,h2,_⟩:=p;exact PySem.W.kia_one PySem.W.kitx_tuple I.kIn ⟨o,h1,h2⟩ e (fun z=>nomatch z) h
  | @dK a kvs ea=>
    cases (show u=Value.ref a from rx)
    obtain ⟨_,_,vs,_,p⟩:=(show za9 X.prog X.w H s.heap a (.dK kvs) from I.hok a _ ea);obtain ⟨o,es,ep,h1,h2,_⟩:=p;exact PySem.W.kia_one PySem.W.kitx_dict I.kIn ⟨o,h1,h2.1⟩ e (fun z=>nomatch z) h
  | @dT a kvs ea=>
    cases (show u=Value.ref a from rx)
    obtain ⟨_,_,xs,_,o,es,ep,h1,h2,_⟩:=(show za9 X.prog X.w H s.heap a (.dT kvs) from I.hok a _ ea);exact PySem.W.kia_one PySem.W.kitx_dict I.kIn ⟨o,h1,h2.1⟩ e (fun z=>nomatch z) h
  | @ins a C dx fs ea cl ha hn htk hm=>
    cases (show u=Value.ref a from rx)
    obtain ⟨mA,O,_⟩:=zhg I.hok ea;obtain ⟨od,J,_⟩:=O.look;exact PySem.W.kia_one (PySem.W.kitx_own (cl.get _) cl.hd ha hn htk hm) I.kIn J e (fun z=>nomatch z) h
end
end L2
namespace L2
open PySem PySem.Spec PyProof.Rows
structure Room (k:Nat)(A:Around):Prop where
  hd:A.handled=none
  dp:A.depth+3 * k+5 < recursionLimit
  un:A.units+16 * k+200 < cLine
  gd:A.guards=some []
theorem Room.mono {j k:Nat}{A:Around}(r:Room k A)(h:j≤k):Room j A:=⟨r.hd,by have:=r.dp;omega,by have:=r.un;omega,r.gd⟩
theorem Room.deeper {k:Nat}{A:Around}(r:Room (k+1) A)(env:Env):Room k (A.deeper env):=
  ⟨r.hd,by have:=r.dp;show A.depth+1+3 * k+5 < _;omega,by have:=r.un;show A.units+3+16 * k+200 < _;omega,r.gd⟩
theorem zkl {A:Around}{C:Addr}{us:List Value}{kw:List (Str×Value)}:(A.under (.builtin "type.__call__" ⟨.ref C::us,kw⟩)).depth=A.depth+1:=by
  first | rfl | simp[Around.under,Code.weight,Code.isCreation,Code.isGuard,Code.isCaller,Code.frames,Code.isFrame,guardIds]
theorem zkj {A:Around}{C:Addr}{us:List Value}{kw:List (Str×Value)}:(A.under (.builtin "type.__call__" ⟨.ref C::us,kw⟩)).units=A.units+1:=by
  first | rfl | simp[Around.under,Code.cUnits,Code.frames,Code.isFrame]
theorem Room.make {k:Nat}{A:Around}(r:Room (k+1) A)(C:Addr)(us:List Value)(kw:List (Str×Value)):Room k (A.under (.builtin "type.__call__" ⟨.ref C::us,kw⟩)):=
  ⟨r.hd,by have:=r.dp;rw[zkl];omega,by have:=r.un;rw[zkj];omega,by have h:=r.gd;simp[Around.under,Code.guards,Code.isGuard,guardIds,pushGuards,h]⟩
theorem Room.depth {k:Nat}{A:Around}(r:Room k A):A.depth < recursionLimit:=by have:=r.dp;omega
theorem Room.units {k:Nat}{A:Around}(r:Room k A):A.units+64 < cLine:=by have:=r.un;omega
def tNil:TA:=fun _ H Q=>Q [] H
def zrE (ta:TE)(tr:TA):TA:=fun σ H Q=>ta σ H fun x H1=>tr σ H1 fun xs H2=>Q (x::xs) H2
section
variable {X:Cx}{e:Expr}{es:List Expr}{te:TE}{t:TA}{pos:Pos}
theorem zad:PA X [] tNil:=fun _ _ _ _ H Q I h=>Calls.spliced_nil ⟨[],H,I,.nil,h⟩
theorem zaa (ha:PE X e te)(hr:PA X es t)(hs:starEach (e::es) X.env=(false,eval e X.env)::starEach es X.env:=by rfl):PA X (e::es) (zrE te t):=by
  intro pos pins s σ H Q I h;rw[hs];show wpAny _ _ (spliced ((false,eval e X.env)::backTo pos (starEach es X.env))) _ _ s;refine Calls.spliced_cons (thn (ha pins s σ H _ I h) fun u s1 zq0=>?_);obtain ⟨x,H1,I1,r1,q1⟩:=zq0;exact thn (hr pos pins s1 σ H1 _ I1 q1) fun us s2 zq0=>(by obtain ⟨xs,H2,I2,r2,q2⟩:=zq0;exact ⟨x::xs,H2,I2,.cons r1 r2,q2⟩)
def tTup (t:TA):TE:=fun σ H Q=>t σ H fun xs H1=>xs.length≤sizeLine∧∀ p,H1 p=none→Q (.ref p) (upd H1 p (.tup xs))
def tLst (t:TA):TE:=fun σ H Q=>t σ H fun xs H1=>xs.length≤sizeLine∧∀ p,H1 p=none→Q (.ref p) (upd H1 p (.lst xs))
theorem zbz {x1}(h:PA X es t):PE X (.Tuple es x1 pos) (tTup t):=by
  intro pins s σ H Q I hq;refine wpAny_Tuple_spliced (thn (h pos pins s σ H _ I hq) fun us s1 zq0=>?_);obtain ⟨xs,H1,I1,r,z,q⟩:=zq0;refine ⟨by rw[← r.length];exact z,?_⟩;have hf:H1 s1.heap.objs.size=none:=I1.hok.fresh (yaa _);refine ⟨.ref s1.heap.objs.size,upd H1 s1.heap.objs.size (.tup xs),I1.laid (t':=s1.toks) (fun b u e=>yah _ e) (yaa _) ?_,rfl,q _ hf⟩;exact ⟨z,us,r,⟨_,yaB _ rfl,rfl,_,rfl⟩⟩
theorem zbi (h:PA X es t):PE X (.List es pos) (tLst t):=by
  intro pins s σ H Q I hq;refine wpAny_List_spliced (thn (h pos pins s σ H _ I hq) fun us s1 zq0=>?_);obtain ⟨xs,H1,I1,r,z,q⟩:=zq0;refine ⟨by rw[← r.length];exact z,?_⟩;have hf:H1 s1.heap.objs.size=none:=I1.hok.fresh (yaa _);refine ⟨.ref s1.heap.objs.size,upd H1 s1.heap.objs.size (.lst xs),I1.laid (t':=s1.toks) (fun b u e=>yah _ e) (yaa _) ?_,rfl,q _ hf⟩;exact ⟨z,us,0,r,yaB _ rfl⟩
end
abbrev Sp:=List V→Hp→VK→XK→Prop
abbrev CXT:=List Env→Hp→Shared→XK→Value→Shared→Prop
structure Env0 (P:Program)(w:World)(K:Frag)(mg:Str→Option Value)(base:Heap)(A:Around)(outer:List Env)(s:Shared)(H:Hp):Prop where
  frames:A.frames=some outer
  mod:Mod K mg base
  bs:∀ b o,base.get? b=some o→s.heap.get? b=some o∧H b=none
  bsz:base.objs.size≤s.heap.objs.size
  funs:s.heap.FunFrames base outer
  frf:∀ b∈frs outer,H b=none
  hok:HOk P w H s.heap
  bare:AllBare s.gens
def CE (outer:List Env)(P:Program)(w:World)(H:Hp)(s:Shared)(Q:VK)(u:Value)(s':Shared):Prop:=
  ∃ v H',s'.os=s.os∧AllBare s'.gens∧Un (frs outer) [] H H' s.heap s'.heap∧HOk P w H' s'.heap∧RelV v u∧Q v H'
def CR (CX:CXT)(outer:List Env)(P:Program)(w:World)(H:Hp)(s:Shared)(Q:VK)(E:XK)(r:Result)(s':Shared):Prop:=
  match r with
  | .ok (.ret u)=>CE outer P w H s Q u s'
  | .ok _=>False
  | .error e=>CX outer H s E e s'
structure FnOk (P:Program)(w:World)(K:Frag)(mg:Str→Option Value)(base:Heap)(CX:CXT)(k:Nat)(f:Addr)(fd:FuncData)(ps:List Str)(sp:Sp):Prop where
  len:∀ vs H Q E,sp vs H Q E→vs.length=ps.length
  run:∀(A:Around) (outer:List Env) (s:Shared) (H:Hp) (args:Args) (us:List Value) (vs:List V) (Q:VK) (E:XK),Room k A→Env0 P w K mg base A outer s H→BindsTo s fd args (ps.zip us)→Vals vs us→sp vs H Q E→
    codeAny (model P w) A (.call (.ref f) args) (CR CX outer P w H s Q E) s
theorem Env0.make {P:Program}{w:World}{K:Frag}{mg:Str→Option Value}{base:Heap}{A:Around}{outer:List Env}{s:Shared}{H:Hp}(e:Env0 P w K mg base A outer s H)(C:Addr)(us:List Value)(kw:List (Str×Value)) :
    Env0 P w K mg base (A.under (.builtin "type.__call__" ⟨.ref C::us,kw⟩)) outer s H:=⟨by first | exact e.frames | (simpa [Around.under,Code.envs,Code.isFrame,pushEnvs] using e.frames),e.mod,e.bs,e.bsz,e.funs,e.frf,e.hok,e.bare⟩
section
variable {X:Cx}{pins:List (Addr×Obj)}{σ:St}{H:Hp}{s s':Shared}
theorem Inv.env0 (I:Inv X pins σ H s):Env0 X.prog X.w X.K X.mg X.base X.A X.stack s H:=
  ⟨I.ok.frames,I.ok.mod,I.bs,yaA I.ok.bsz I.sz,I.stack,I.stkFree,I.hok,I.bare⟩
theorem Inv.after {Q:VK}{u:Value}(I:Inv X pins σ H s)(h:CE X.stack X.prog X.w H s Q u s'):EP X pins σ Q u s':=by
  obtain ⟨v,H',os,bare,un,hok,r,q⟩:=h;obtain ⟨hh,g,d,t,os'⟩:=s';obtain rfl:os'=s.os:=os;exact ⟨v,H',I.call (h':=hh) (g':=g) (d':=d) (t':=t) (ch:=[]) un hok bare (fun b z=>absurd z (by simp)),r,q⟩
end
def zoW (sp:Sp)(dvs:List V)(E:XK)(t:TA):TE:=fun σ H Q=>t σ H fun vs H1=>sp (vs++dvs) H1 Q E
def zmX (C:Addr)(m:Str)(sp:Sp)(dvs:List V)(E:XK)(ta:TE)(t:TA):TE:=fun σ H Q=>ta σ H fun x H1=>∃ a dx fs,x=.ref a∧H1 a=some (.ins C dx fs)∧fs.lookup m=none∧
  t σ H1 fun vs H2=>sp (x::(vs++dvs)) H2 Q E
def zqa (C:Addr)(sp:Sp)(dvs:List V)(E:XK)(t:TA):TE:=fun σ H Q=>t σ H fun vs H1=>∀ x dx,H1 x=none→H1 dx=none→dx≠x→
  sp (.ref x::(vs++dvs)) (upd (upd H1 dx (.own x)) x (.ins C dx [])) (fun v H2=>v=.non∧Q (.ref x) H2) E
def zcZ (K:Frag)(fd:FuncData)(ps:List Str)(ds:List Value):Prop:=
  ∀(s:Shared) (us:List Value),K.In s.heap→(us++ds).length=ps.length→BindsTo s fd ⟨us,[]⟩ (ps.zip (us++ds))
theorem zcZ.all {K:Frag}{fd:FuncData}{ps:List Str}(h:∀ us:List Value,us.length=ps.length→bindArgs fd ⟨us,[]⟩=pure (ps.zip us)):zcZ K fd ps []:=fun s us _ hl=>by
  rw[yay]at hl ⊢;exact .of_eq (h us hl)
def zdO (CX:CXT)(X:Cx)(E:XK):Prop:=∀(pins:List (Addr×Obj)) (σ:St) (H:Hp) (s:Shared) (e:Value) (s':Shared),Inv X pins σ H s→CX X.stack H s E e s'→X.xe e s'
section
variable {X:Cx}{CX:CXT}{k:Nat}{f C:Addr}{fd:FuncData}{ps:List Str}{sp:Sp}{dvs:List V}{ds:List Value}{E:XK}{x m:Str}{p pos apos:Pos}{e o:Expr}{es:List Expr}{ta:TE}{t:TA}
theorem zjp {pins:List (Addr×Obj)}{σ:St}{H:Hp}{s:Shared}{Q:VK}{us:List Value}{vs:List V}(F:FnOk X.prog X.w X.K X.mg X.base CX k f fd ps sp)(hr:Room k X.A)(hb:zcZ X.K fd ps ds)(hd:Vals dvs ds)(hx:zdO CX X E)
    (I:Inv X pins σ H s) (r:Vals vs us) (h:sp (vs++dvs) H Q E):wpAny (model X.prog X.w) X.A (call (.ref f) us) (EP X pins σ Q) X.xe s:=by
  have r2:Vals (vs++dvs) (us++ds):=r.append hd;have hl:(us++ds).length=ps.length:=by rw[← r2.length];exact F.len _ _ _ _ h
  refine wpAny_call (codeAny_mono (F.run X.A X.stack s H ⟨us,[]⟩ (us++ds) (vs++dvs) Q E hr I.env0 (hb s us I.kIn hl) r2 h) fun r s' hq=>?_);cases r with
  | error e=>exact hx pins σ H s e s' I hq
  | ok fl=>
    cases fl with
    | ret u=>exact I.after hq
    | next=>exact False.elim hq
    | brk=>exact False.elim hq
    | cont=>exact False.elim hq
theorem zpf (F:FnOk X.prog X.w X.K X.mg X.base CX k f fd ps sp)(hr:Room k X.A)(hg:Gl X x)(hm:X.mg x=some (.ref f))(hk:keepIn X.K (.ref f)=true)(hb:zcZ X.K fd ps ds)(hd:Vals dvs ds)(hx:zdO CX X E)
    (ha:PA X (e::es) t) (hdb:(x == ("__debug__" : Str))=false:=by decide) (he:starEach (e::es) X.env=(false,eval e X.env)::starEach es X.env:=by rfl) (hpl:(backTo pos (starEach es X.env)).any (·.1)=false:=by rfl) :
    PE X (.Call (.Name x p) (e::es) [] pos) (zoW sp dvs E t):=by
  intro pins s σ H Q I h;refine wpAny_Call_Name_kw (zdU I hg hm ?_ hdb);refine PySem.W.callWith_K (h₀:=X.base) I.ok.mod.kin hk (thn (ha pos pins s σ H _ I h) fun us s1 zq0=>?_) he hpl;obtain ⟨vs,H1,I1,r,q⟩:=zq0;refine ⟨I1.kIn,?_⟩;exact zjp F hr hb hd hx I1 r q
theorem zpc {pl:Sem Bool}(he:PE X o ta)(c:Cls X.K C)(hm:Meth X.K C m f)(F:FnOk X.prog X.w X.K X.mg X.base CX k f fd ps sp)(hr:Room k X.A)(hb:zcZ X.K fd ps ds)(hd:Vals dvs ds)(hx:zdO CX X E)(ha:PA X (e::es) t)
    (hst:starEach (e::es) X.env=(false,eval e X.env)::starEach es X.env:=by rfl) (hpl:(backTo pos (starEach es X.env)).any (·.1)=false:=by rfl)
    (ht:eval (.Call (.Attribute o m apos) (e::es) [] pos) X.env=(do
      let ov ← eval o X.env
      standAt apos.atName
      let (f,first) ← holding [ov] (getMethod ov m pl)
      callWith pos f first (backTo pos (starEach (e::es) X.env)) (backToKw pos (keywordEach [] X.env))):=by rfl) :
    PE X (.Call (.Attribute o m apos) (e::es) [] pos) (zmX C m sp dvs E ta t):=by
  intro pins s σ H Q I h;refine PySem.W.methodCall_KW (pl:=pl) (thn (he pins s σ H _ I h) fun u s1 zq0=>?_) ht;obtain ⟨x,H1,I1,rx,a,dx,fs,ex,ea,l,q⟩:=zq0;subst ex;obtain rfl:u=Value.ref a:=rx;refine zeF I1 ea c hm l ?_;refine PySem.W.callWith_K (first:=[.ref a]) (h₀:=X.base) I.ok.mod.kin hm.kp (thn (ha pos pins s1 σ H1 _ I1 q) fun us s2 zq0=>?_) hst hpl
  obtain ⟨vs,H2,I2,r,q2⟩:=zq0;refine ⟨I2.kIn,?_⟩;exact zjp (us:=.ref a::us) (vs:=.ref a::vs) F hr hb hd hx I2 (.cons rfl r) q2
theorem zna {pl:Sem Bool}(he:PE X o ta)(c:Cls X.K C)(hm:Meth X.K C m f)(F:FnOk X.prog X.w X.K X.mg X.base CX k f fd ps sp)(hr:Room k X.A)(hb:zcZ X.K fd ps ds)(hd:Vals dvs ds)(hx:zdO CX X E)
    (ht:eval (.Call (.Attribute o m apos) [] [] pos) X.env=(do
      let ov ← eval o X.env
      standAt apos.atName
      let (f,first) ← holding [ov] (getMethod ov m pl)
      callWith pos f first (backTo pos (starEach [] X.env)) (backToKw pos (keywordEach [] X.env))):=by rfl) :
    PE X (.Call (.Attribute o m apos) [] [] pos) (zmX C m sp dvs E ta tNil):=by
  intro pins s σ H Q I h;refine PySem.W.methodCall_KW (pl:=pl) (thn (he pins s σ H _ I h) fun u s1 zq0=>?_) ht;obtain ⟨x,H1,I1,rx,a,dx,fs,ex,ea,l,q⟩:=zq0;subst ex;obtain rfl:u=Value.ref a:=rx;refine zeF I1 ea c hm l ?_;exact PySem.W.callWith_K0 (first:=[.ref a]) I1.kIn hm.kp (zjp (us:=[.ref a]) (vs:=[.ref a]) F hr hb hd hx I1 (.cons rfl .nil) q)
structure Mk (K:Frag)(C f:Addr):Prop where
  makes:PySem.W.makesIn K C=true
  init:findIn K (.ref C) "__init__" = some (some (.ref f))
  fn:PySem.W.isFn K (.ref f)=true
  kp:keepIn K (.ref C)=true
theorem zm3 {pins:List (Addr×Obj)}{σ:St}{H:Hp}{s:Shared}{Q:VK}{us:List Value}{vs:List V}(M:Mk X.K C f)(F:FnOk X.prog X.w X.K X.mg X.base CX k f fd ps sp)(hr:Room (k+1) X.A)(hb:zcZ X.K fd ps ds)(hd:Vals dvs ds)
    (hx:zdO CX X E) (I:Inv X pins σ H s) (r:Vals vs us)
    (h:∀ x dx,H x=none→H dx=none→dx≠x→sp (.ref x::(vs++dvs)) (upd (upd H dx (.own x)) x (.ins C dx [])) (fun v H2=>v=.non∧Q (.ref x) H2) E) :
    wpAny (model X.prog X.w) X.A (call (.ref C) us) (EP X pins σ Q) X.xe s:=by
  have hq:=h (s.heap.objs.size+1) s.heap.objs.size (I.hok.fresh (ya9 _)) (I.hok.fresh (yaa _)) (yao (yb2 _));have I2:=Inv.made (C:=C) I;have r2:Vals (V.ref (s.heap.objs.size+1)::(vs++dvs)) (Value.ref (s.heap.objs.size+1)::(us++ds)):=.cons rfl (r.append hd);have hl:(Value.ref (s.heap.objs.size+1)::us++ds).length=ps.length:=by
    have e:=r2.length;rw[F.len _ _ _ _ hq]at e;exact e.symm
  refine wpAny_call (znD (f:=f) I.kIn M.makes M.init (beq_iff_eq.mp M.fn) (codeAny_mono (F.run _ X.stack _ _ ⟨Value.ref (s.heap.objs.size+1)::us,[]⟩ (Value.ref (s.heap.objs.size+1)::(us++ds)) _ _ E (hr.make C us [])
    (I2.env0.make C us []) (hb _ (Value.ref (s.heap.objs.size+1)::us) I2.kIn hl) r2 hq) fun r s' hq'=>?_))
  cases r with
  | error e=>exact hx pins σ _ _ e s' I2 hq'
  | ok fl=>
    cases fl with
    | ret u=>
      obtain ⟨v,H',I3,rv,ev,q3⟩:=I2.after hq';subst ev;exact ⟨rv,⟨V.ref (s.heap.objs.size+1),H',I3,rfl,q3⟩⟩
    | next=>exact False.elim hq'
    | brk=>exact False.elim hq'
    | cont=>exact False.elim hq'
theorem zpd (M:Mk X.K C f)(F:FnOk X.prog X.w X.K X.mg X.base CX k f fd ps sp)(hr:Room (k+1) X.A)(hg:Gl X x)(hm:X.mg x=some (.ref C))(hb:zcZ X.K fd ps ds)(hd:Vals dvs ds)(hx:zdO CX X E)
    (ha:PA X (e::es) t) (hdb:(x == ("__debug__" : Str))=false:=by decide) (he:starEach (e::es) X.env=(false,eval e X.env)::starEach es X.env:=by rfl) (hpl:(backTo pos (starEach es X.env)).any (·.1)=false:=by rfl) :
    PE X (.Call (.Name x p) (e::es) [] pos) (zqa C sp dvs E t):=by
  intro pins s σ H Q I h;refine wpAny_Call_Name_kw (zdU I hg hm ?_ hdb);refine PySem.W.callWith_K (h₀:=X.base) I.ok.mod.kin M.kp (thn (ha pos pins s σ H _ I h) fun us s1 zq0=>?_) he hpl;obtain ⟨vs,H1,I1,r,q⟩:=zq0;refine ⟨I1.kIn,?_⟩;exact zm3 M F hr hb hd hx I1 r q
end
structure zap (N P:List Str)(sc:Scope):Prop where
  kind:sc.kind=.function
  co:sc.isCoroutine=false
  gen:sc.isGenerator=false
  nd:N.Nodup
  pre:N.take P.length=P
  par:∀ x∈P,sc.names.lookup x=some .local∨sc.names.lookup x=some .cell
  nofree:∀ y∈sc.names,y.2≠.free
theorem zh4 {kindOf:Str→Option NameKind}{x:Str}:∀{binds:List (Str×Value)} {m:Str→Option Value},(∀ v,(x,v)∉binds)→bindL kindOf binds m x=m x
  | [],_,_=>rfl
  | (n,v)::r,m,h=>by
    unfold bindL;rw[zh4 fun w hw=>h w (yax _ hw)];split
    · have:x≠n:=by rintro rfl;exact h v yaF
      simp[this]
    · rfl
theorem zh6 {kindOf:Str→Option NameKind}{x:Str}:∀{binds:List (Str×Value)} {m:Str→Option Value},(∀ v,(x,v)∉binds)→bindC kindOf binds m x=m x
  | [],_,_=>rfl
  | (n,v)::r,m,h=>by
    unfold bindC;rw[zh6 fun w hw=>h w (yax _ hw)];split
    · rfl
    · have:x≠n:=by rintro rfl;exact h v yaF
      simp[this]
theorem zh5 {kindOf:Str→Option NameKind}{x:Str}{v:Value}:∀{P:List Str} {vs:List Value} {i:Nat} {m:Str→Option Value},P.Nodup→P[i]?=some x→vs[i]?=some v→kindOf x=some .local→
    bindL kindOf (P.zip vs) m x=some v
  | [],_,_,_,_,h,_,_=>by simp at h
  | _::_,[],_,_,_,_,h,_=>by simp at h
  | p::P,w::vs,0,m,nd,h1,h2,hk=>by
    simp at h1 h2;subst h1;subst h2;show bindL kindOf ((p,w)::P.zip vs) m p=_;unfold bindL;rw[zh4 fun v hv=>(yaV.mp nd).1 (ybL hv).1,if_pos hk];simp
  | p::P,w::vs,i+1,m,nd,h1,h2,hk=>by
    show bindL kindOf ((p,w)::P.zip vs) m x=_;unfold bindL;exact zh5 (i:=i) (yaV.mp nd).2 (by simpa using h1) (by simpa using h2) hk
theorem zh7 {kindOf:Str→Option NameKind}{x:Str}{v:Value}:∀{P:List Str} {vs:List Value} {i:Nat} {m:Str→Option Value},P.Nodup→P[i]?=some x→vs[i]?=some v→kindOf x≠some .local→
    bindC kindOf (P.zip vs) m x=some v
  | [],_,_,_,_,h,_,_=>by simp at h
  | _::_,[],_,_,_,_,h,_=>by simp at h
  | p::P,w::vs,0,m,nd,h1,h2,hk=>by
    simp at h1 h2;subst h1;subst h2;show bindC kindOf ((p,w)::P.zip vs) m p=_;unfold bindC;rw[zh6 fun v hv=>(yaV.mp nd).1 (ybL hv).1,if_neg hk];simp
  | p::P,w::vs,i+1,m,nd,h1,h2,hk=>by
    show bindC kindOf ((p,w)::P.zip vs) m x=_;unfold bindC;exact zh7 (i:=i) (yaV.mp nd).2 (by simpa using h1) (by simpa using h2) hk
def zcO (N:List Str)(vs:List V):St:=vs.map some++List.replicate (N.length - vs.length) none
def cxOf (CX:CXT)(P:Program)(w:World)(K:Frag)(mg:Str→Option Value)(base:Heap)(N:List Str)(qual:Str)(scope:Scope)(f:Addr)(cd:Value)(A:Around)(outer:List Env)(s:Shared)(H:Hp)(E:XK):Cx where
  prog:=P
  w:=w
  K:=K
  mg:=mg
  base:=base
  A:=A.deeper (envOfC qual scope s.heap.objs.size f cd)
  N:=N
  s₀:=s
  H₀:=H
  env:=envOfC qual scope s.heap.objs.size f cd
  outer:=outer
  stack:=envOfC qual scope s.heap.objs.size f cd::outer
  ex:=[]
  calm:=true
  fn:=fun _=>true
  pn:=[]
  xe:=fun e s'=>wpAny (model P w) (A.deeper (envOfC qual scope s.heap.objs.size f cd)) (leaving (envOfC qual scope s.heap.objs.size f cd) e) (fun _ s''=>CX outer H s E e s'') (fun e' s''=>CX outer H s E e' s'') s'
theorem zjO {sc:Scope}{n:Nat}{x:Str}(h:sc.names.lookup x=some .cell):∃ c,(cellsFrom n sc.names []).lookup x=some c:=by
  have q:=PySem.W.cellsFrom_some sc.names n [] (.inl h);exact yb3.mp q
theorem zma {CX:CXT}{P:Program}{w:World}{K:Frag}{mg:Str→Option Value}{base:Heap}{N ps:List Str}{qual:Str}{scope:Scope}{f:Addr}{cd:Value}{A:Around}{outer:List Env}{s s1:Shared}{H:Hp}{E:XK}{us:List Value}{vs:List V}
    (S:zap N ps scope) (hd:A.handled=none) (e0:Env0 P w K mg base A outer s H) (hl:vs.length=ps.length) (r:Vals vs us)
    (x:InCallC s s.heap.objs.size (bindL (envOfC qual scope s.heap.objs.size f cd).kindOf (ps.zip us) fun _=>none) (cellsFrom (s.heap.objs.size+1) scope.names []) (bindC (envOfC qual scope s.heap.objs.size f cd).kindOf (ps.zip us) fun _=>none) s1) :
    Inv (cxOf CX P w K mg base N qual scope f cd A outer s H E) [] (zcO N vs) H s1:=by
  have hpl:ps.length≤N.length:=by have:=congrArg List.length S.pre;rw[yan]at this;omega
  obtain ⟨h1,tk,rfl,hk⟩:=x.done;have noA:∀ b:Addr,b∉(cxOf CX P w K mg base N qual scope f cd A outer s H E).ex:=fun b z=>absurd (show b∈([]:List Addr) from z) (by simp);refine ⟨⟨e0.mod,S.kind,rfl,rfl,yaa _,fun y z c h1 h2=>?_,fun y hy=>?_,fun y c _ h=>?_,fun _=>hd,Around.frames_deeper e0.frames,.inr ⟨rfl,rfl⟩,fun b z=>absurd z (noA b),e0.bs,e0.bsz,fun b _ _=>noA b,fun b z=>absurd z (noA b),e0.funs,e0.frf⟩,
    rfl,e0.bare,Un.kept hk,⟨_,x.toInCall.ns,fun i y v h1 h2 h3=>?_⟩,fun y c h=>⟨_,x.cell y c h⟩,e0.hok.fresh (yaa _),fun y c h=>?_,fun p hp=>absurd (show p∈([]:List (Addr×Obj)) from hp) (by simp),e0.hok.kept hk,?_⟩
  · exact name_of_addr x.apart (PySem.mem_of_lookup h1) (PySem.mem_of_lookup h2)
  · have hy:scope.names.lookup y=some .cell∨scope.names.lookup y=some .free:=hy
    rcases hy with hy | hy
    · exact zjO hy
    · exact absurd rfl (S.nofree _ (PySem.mem_of_lookup hy))
  · exact ya1 (x.above y c (PySem.mem_of_lookup h))
  · have hi:i < vs.length:=by
      unfold zcO at h2;by_cases hi:i < vs.length
      · exact hi
      · rw[ya3 (by simpa using hi)]at h2
        rw[yct]at h2;split at h2 <;> cases h2
    have ha:vs[i]?=some v:=by
      unfold zcO at h2;rw[yba (by simpa using hi),yap]at h2;cases e:vs[i]? with
      | none=>rw[e]at h2;cases h2
      | some a=>rw[e]at h2;cases h2;rfl
    obtain ⟨u,hu,rv⟩:=r.get ha;have hp:ps[i]?=some y:=by
      rw[← S.pre,List.getElem?_take_of_lt (by omega)];exact h1
    have ndP:ps.Nodup:=by rw[← S.pre];exact S.nd.sublist (List.take_sublist _ _)
    refine ⟨u,rv,?_⟩;rcases S.par y (yaD hp) with k | k
    · exact .inl ⟨k,zh5 ndP hp hu k⟩
    · obtain ⟨c,e⟩:=zjO (n:=s.heap.objs.size+1) k
      refine .inr ⟨.inl k,c,e,?_⟩;have q:=x.cell y c e;rw[zh7 ndP hp hu (by show scope.names.lookup y≠_;rw[k];decide)]at q;exact q
  · exact e0.hok.fresh (ya1 (x.above y c (PySem.mem_of_lookup h)))
  · unfold zcO
    show _=N.length;rw[yaq,yab,ybj];omega
theorem znU {CX:CXT}{P:Program}{w:World}{K:Frag}{mg:Str→Option Value}{base:Heap}{k:Nat}{f:Addr}{name qual:Str}{params:Arguments}{body:List Stmt}{scope:Scope}{dV kV doc pm cdv ct oc:Value}{an od:Option Addr}
    {osl:Array (Option Value)} {N ps:List Str} {sp:Sp} (lk:K.lookup f=some ⟨oc,od,.func (fnOf name qual params body scope dV kV doc pm an cdv ct),osl⟩) (hcd:codeIn K cdv qual=true) (S:zap N ps scope)
    (len:∀ vs H Q E,sp vs H Q E→vs.length=ps.length)
    (hbody:∀(A:Around) (outer:List Env) (s:Shared) (H:Hp) (vs:List V) (Q:VK) (E:XK),Room k (A.deeper (envOfC qual scope s.heap.objs.size f cdv))→sp vs H Q E→
      ∃ t,PSs (cxOf CX P w K mg base N qual scope f cdv A outer s H E) body t∧t { nx:=fun _ H'=>Q .non H',rt:=Q } (zcO N vs) H) :
    FnOk P w K mg base CX (k+1) f (fnOf name qual params body scope dV kV doc pm an cdv ct) ps sp:=by
  refine ⟨len,fun A outer s H args us vs Q E hr e0 hb r hsp=>?_⟩;have hl:=len _ _ _ _ hsp;have KX:K.In s.heap:=e0.mod.kin.keeps fun b o e=>(e0.bs b o e).1;have lim:s.heap.NoLimit:=e0.mod.nolimit.keeps fun b o e=>(e0.bs b o e).1;have hkind:∀ y∈ps.zip us,scope.names.lookup y.1=some .local∨(scope.names.lookup y.1=some .cell∧((cellsFrom (s.heap.objs.size+1) scope.names []).lookup y.1).isSome=true):=fun ⟨n,v⟩ hy=>by
    rcases S.par n (ybL hy).1 with q | q
    · exact .inl q
    · exact .inr ⟨q,PySem.W.cellsFrom_some _ _ _ (.inl q)⟩
  refine codeAny_call_function hr.depth (KX _ _ lk) rfl S.co S.gen rfl (PySem.W.codeRec_of KX hcd) (hb _ _ _ _ ?_);refine wpAny_newFunctionEnv_cells S.kind hkind fun env he s1 x=>?_;subst he;refine ⟨lim.keeps x.toInCall.keep,codeAny_func ?_⟩;obtain ⟨t,ht,hq⟩:=hbody A outer s H vs Q E (hr.deeper _) hsp;have I:Inv (cxOf CX P w K mg base N qual scope f cdv A outer s H E) [] (zcO N vs) H s1:=zma S hr.hd e0 hl r x;refine wpAny_mono (ht [] s1 (zcO N vs) H _ I hq) (fun fl s' hs=>?_) fun e s' hs=>hs;have fin:∀{σ':St} {H':Hp} {v:V} {u:Value},Inv (cxOf CX P w K mg base N qual scope f cdv A outer s H E) [] σ' H' s'→RelV v u→Q v H'→CE outer P w H s Q u s':=
    fun {σ' H' v u} J rv q=>⟨v,H',J.os,J.bare,J.base,J.hok,rv,q⟩
  cases fl with
  | ret u=>
    obtain ⟨v,σ',H',J,rv,q⟩:=hs;exact fin J rv q
  | next=>
    obtain ⟨σ',H',J,q⟩:=hs;exact fin (v:=V.non) (u:=Value.none) J rfl q
  | brk=>
    obtain ⟨_,_,_,q⟩:=hs;exact False.elim q
  | cont=>
    obtain ⟨_,_,_,q⟩:=hs;exact False.elim q
end L2
namespace L2
open PySem PySem.Spec PyProof.Rows
section
variable {X:Cx}{x:Str}{p pos:Pos}{e:Expr}{es:List Expr}{t:TA}{id T:String}{r:List V→Hp→VK→Prop}
def tCB (r:List V→Hp→VK→Prop)(t:TA):TE:=fun σ H Q=>t σ H fun vs H1=>r vs H1 Q
theorem zam (hc:zbG X (.builtin id) r)(hg:Gl X x)(hm:X.mg x=none)(hv:bootBuiltins x=some (.builtin id))(ha:PA X (e::es) t)(hn:x ≠ "__name__":=by decide)(hdb:(x == ("__debug__" : Str))=false:=by decide)
    (he:starEach (e::es) X.env=(false,eval e X.env)::starEach es X.env:=by rfl) (hpl:(backTo pos (starEach es X.env)).any (·.1)=false:=by rfl):PE X (.Call (.Name x p) (e::es) [] pos) (tCB r t):=by
  intro pins s σ H Q I h;refine wpAny_Call_Name_kw (zeW I hg hm hv ?_ hn hdb);exact PyProof.Rows.callWith_builtin1 (thn (ha pos pins s σ H _ I h) fun us s1 zq0=>(by obtain ⟨vs,H1,I1,r1,q1⟩:=zq0;exact hc pins s1 σ H1 vs us Q I1 r1 q1)) he hpl
theorem za7 (hc:zbG X (.type T) r)(hg:Gl X x)(hm:X.mg x=none)(hv:bootBuiltins x=some (.type T))(ha:PA X (e::es) t)(hn:x ≠ "__name__":=by decide)(hdb:(x == ("__debug__" : Str))=false:=by decide)
    (he:starEach (e::es) X.env=(false,eval e X.env)::starEach es X.env:=by rfl) (hpl:(backTo pos (starEach es X.env)).any (·.1)=false:=by rfl):PE X (.Call (.Name x p) (e::es) [] pos) (tCB r t):=by
  intro pins s σ H Q I h;refine wpAny_Call_Name_kw (zeW I hg hm hv ?_ hn hdb);exact PyProof.Rows.callWith_type1 (thn (ha pos pins s σ H _ I h) fun us s1 zq0=>(by obtain ⟨vs,H1,I1,r1,q1⟩:=zq0;exact hc pins s1 σ H1 vs us Q I1 r1 q1)) he hpl
end
end L2
namespace HT
open PySem PyProof.Rows
section
variable {prog:Program}{w:World}{A:Around}{E:Value→Shared→Prop}{s:Shared}
theorem cat_tup {t b:Addr}{vs ws:List Value}{Q:Value→Shared→Prop}(ht:IsTup s.heap t vs.toArray)(hb:IsTup s.heap b ws.toArray)(hv:vs≠[])
    (h1:ws=[]→Q (.ref t) s) (h2:ws≠[]→Q (.ref s.heap.objs.size) { s with heap:=s.heap.push { cls:=.type "tuple",data:=.seq (vs++ws).toArray } })
    (hsz:vs.length+ws.length≤sizeLine):wpAny (model prog w) A (binaryOp .Add (.ref t) (.ref b)) Q E s:=by
  obtain ⟨⟨cls,dd,data,sl⟩,ho,hc,n,hd⟩:=id ht;obtain ⟨⟨cls2,dd2,data2,sl2⟩,ho2,hc2,n2,hd2⟩:=id hb;simp only at hc hd hc2 hd2;subst hc hd hc2 hd2;have e:vs.toArray++ws.toArray=(vs++ws).toArray:=by simp
  by_cases hw:ws=[]
  · exact concat_meets ⟨_,ho,rfl⟩ ⟨_,ho2,rfl⟩ noFill_tuple_add seq_tuple_add PySem.F.slot_tuple_add PySem.F.entry_tuple_add (PySem.F.args_tuple_add_2 _ _)
      (tuple_addW1 t b vs.toArray ws.toArray n n2 dd dd2 sl sl2 (by simpa using hv) (by simp[hw])) ⟨ho,ho2,h1 hw⟩
  · refine concat_meets ⟨_,ho,rfl⟩ ⟨_,ho2,rfl⟩ noFill_tuple_add seq_tuple_add PySem.F.slot_tuple_add PySem.F.entry_tuple_add (PySem.F.args_tuple_add_2 _ _)
      (tuple_addW2 t b vs.toArray ws.toArray n n2 dd dd2 sl sl2 (by simpa using hv) (by simpa using hw) (by rw[yar,yar];exact hsz)) ⟨ho,ho2,?_⟩
    rw[e];exact h2 hw
def sIx (n d:Nat):Option Int→Nat
  | none=>d
  | some v=>if v < 0 then (v+(n:Int)).toNat else min v.toNat n
theorem zcz (n d k:Nat):sIx n d (some (k:Int))=min k n:=by
  show (if (k:Int) < 0 then ((k:Int)+(n:Int)).toNat else min (k:Int).toNat n)=min k n
  rw[if_neg (by omega),ybk]
theorem zqp (n d:Nat)(hd:d≤n)(o:Option Int):sIx n d o≤n:=by
  cases o with
  | none=>exact hd
  | some v=>
    show (if v < 0 then (v+(n:Int)).toNat else min v.toNat n)≤n
    by_cases hv:v < 0
    · rw[if_pos hv];omega
    · rw[if_neg hv];exact Nat.min_le_right _ _
theorem zmB (v:Int)(n d:Nat):(if v < 0 then max (v+(n:Int)) 0 else min v (n:Int))=((sIx n d (some v):Nat):Int):=by
  show (if v < 0 then max (v+(n:Int)) 0 else min v (n:Int))=(((if v < 0 then (v+(n:Int)).toNat else min v.toNat n):Nat):Int)
  by_cases hv:v < 0
  · simp only[if_pos hv];omega
  · simp only[if_neg hv];omega
theorem zkB (lo hi:Option Int)(n:Nat):Builtin.Slice.sliceAdjust lo hi 1 (n:Int)=(((sIx n 0 lo:Nat):Int),((sIx n n hi:Nat):Int)):=by
  have h1:¬ ((1:Int) < 0):=by omega
  unfold Builtin.Slice.sliceAdjust;simp only[h1,if_false];refine Prod.ext ?_ ?_
  · cases lo with
    | none=>rfl
    | some v=>exact zmB v n 0
  · cases hi with
    | none=>rfl
    | some v=>exact zmB v n n
theorem zj5 (i j:Nat):Builtin.Slice.slicePlaces (i:Int) (j:Int) 1=j - i:=by
  unfold Builtin.Slice.slicePlaces;have h1:(1:Int) > 0:=by omega
  simp only[h1,if_true,Int.ediv_one];split <;> omega
theorem zgk {v:Value}{o:Option Int}{Q:Option Int→Shared→Prop}(p:IsPart v o)(h:Q o s):wpAny (model prog w) A (Builtin.Slice.slicePartIndex v) Q E s:=by
  cases p with
  | none=>exact slicePart_none h
  | int i t=>exact slicePart_int h
theorem zc0 {sl:Addr}{vl vu:Value}{lo hi:Option Int}{n:Nat}{Q:Int×Int×Nat→Shared→Prop}(hs:s.heap.IsSliceOf sl vl vu .none)(pl:IsPart vl lo)(pu:IsPart vu hi)
    (h:Q (((sIx n 0 lo:Nat):Int),1,sIx n n hi - sIx n 0 lo) s):wpAny (model prog w) A (Builtin.Slice.sliceApplied (.ref sl) (pure (n:Int))) Q E s:=by
  obtain ⟨os,hos,hcs,hds⟩:=id hs;unfold Builtin.Slice.sliceApplied Builtin.Slice.sliceFields;refine wpAny_bind (wpAny_bind (wpAny_field hos hds (x:=vl) rfl (wpAny_bind (wpAny_field hos hds (x:=vu) rfl (wpAny_bind (wpAny_field hos hds (x:=.none) rfl (wpAny_pure ?_)))))));refine wpAny_bind (slicePart_none ?_);show wpAny _ _ (if ((1:Int) == 0)=true then _ else _) _ _ s
  rw[if_neg (by decide)];refine wpAny_bind (zgk pl (wpAny_bind (zgk pu (wpAny_bind (wpAny_pure ?_)))));show wpAny _ _ (match Builtin.Slice.sliceAdjust lo hi 1 (n:Int) with | (lo,hi)=>pure (lo,(1:Int),Builtin.Slice.slicePlaces lo hi 1)) _ _ s
  rw[zkB lo hi n];show wpAny _ _ (pure (((sIx n 0 lo:Nat):Int),(1:Int),Builtin.Slice.slicePlaces ((sIx n 0 lo:Nat):Int) ((sIx n n hi:Nat):Int) 1)) _ _ s;rw[zj5];exact wpAny_pure h
theorem zm9 (xs:Array Value)(i k:Nat):((List.range k).filterMap fun (m:Nat)=>xs[((i:Int)+(m:Int) * 1).toNat]?).toArray=((xs.toList.drop i).take k).toArray:=by
  have e:(fun (m:Nat)=>xs[((i:Int)+(m:Int) * 1).toNat]?)=fun m=>xs[i+m]?:=by
    funext m
    have:((i:Int)+(m:Int) * 1).toNat=i+m:=by omega
    rw[this]
  rw[e];have:=pick_run xs i k;rw[List.filterMap_map]at this;have e2:((fun x=>xs[x]?) ∘ fun x=>i+x)=fun m=>xs[i+m]?:=rfl;rw[e2]at this;rw[this]
theorem getItem_tuple_cut {t sl:Addr}{items:Array Value}{vl vu:Value}{lo hi:Option Int}{Q:Value→Shared→Prop}(ht:IsTup s.heap t items)(hs:s.heap.IsSliceOf sl vl vu .none)(pl:IsPart vl lo)(pu:IsPart vu hi)
    (hw:¬ (sIx items.size 0 lo=0∧sIx items.size items.size hi=items.size))
    (h:Q (.ref s.heap.objs.size) { s with heap:=s.heap.push { cls:=.type "tuple",data:=.seq ((items.toList.drop (sIx items.size 0 lo)).take (sIx items.size items.size hi - sIx items.size 0 lo)).toArray } })
    (hsz:items.size≤sizeLine):wpAny (model prog w) A (getItem (.ref t) (.ref sl)) Q E s:=by
  have htake:sizeOk (.seq ((items.toList.drop (sIx items.size 0 lo)).take (sIx items.size items.size hi - sIx items.size 0 lo)).toArray):=by
    show ((items.toList.drop (sIx items.size 0 lo)).take (sIx items.size items.size hi - sIx items.size 0 lo)).toArray.size≤sizeLine;rw[yar,yan,yaN,yav];omega
  have hj:sIx items.size items.size hi≤items.size:=zqp _ _ (yaa _) hi;obtain ⟨os,hos,hcs,hds⟩:=id hs;have hTs:s.TypeIs (.ref sl) "slice":=⟨os,hos,hcs⟩;unfold getItem
  try with_reducible refine wpAny_holding ?_
  first | refine wpAny_bind (wpAny_pure ?_) | skip
  refine wpAny_bind (wpAny_sequenceKey ht.typeIs (by decide) ?_);refine wpAny_bind (wpAny_callSpecial?_slot (name:=Str.ofString "__getitem__") ht.typeIs PyProof.Rows.slot_tuple_getitem
    (wpAny_call_entry PyProof.Rows.slot_tuple_getitem ht.typeIs entry_tuple_getitem ?_ (args_tuple_getitem _ _)))
  show wpAny _ _ (Builtin.Tuple.tupleItemsOf (.ref t) >>= _) _ _ s;refine wpAny_bind (tupleItemsOf_ ht ?_);refine wpAny_bind (wpAny_typeOf hTs ?_);rw[if_pos (by decide)];refine wpAny_bind (zc0 hs pl pu ?_);have hno:¬ ((((sIx items.size 0 lo:Nat):Int) == 0 && (1:Int) == 1 && (sIx items.size items.size hi - sIx items.size 0 lo) == items.size)=true):=by
    intro q;rw[ybn,ybn]at q;have q1:((sIx items.size 0 lo:Nat):Int)=0:=eq_of_beq q.1.1;have q2:sIx items.size items.size hi - sIx items.size 0 lo=items.size:=eq_of_beq q.2;exact hw ⟨by omega,by omega⟩
  show wpAny _ _ (if (((sIx items.size 0 lo:Nat):Int) == 0 && (1:Int) == 1 && (sIx items.size items.size hi - sIx items.size 0 lo) == items.size)=true then _ else _) _ _ s
  rw[if_neg hno,zm9]
  first
    | exact wpAny_bind (m:=Builtin.Tuple.tupleExact _) (wpAny_newObj_type (wpAny_pure ⟨_,rfl,wpAny_pure h⟩) htake)
    | exact wpAny_bind (m:=Builtin.Tuple.tupleExact _) (wpAny_newObj_type (wpAny_bind (wpAny_pure (wpAny_pure ⟨_,rfl,wpAny_pure h⟩))) htake)
    | exact wpAny_bind (wpAny_bind (m:=Builtin.Tuple.tupleExact _) (wpAny_newObj_type (wpAny_pure (wpAny_pure ⟨_,rfl,wpAny_pure h⟩)) htake))
    | exact wpAny_bind (wpAny_bind (m:=Builtin.Tuple.tupleExact _) (wpAny_newObj_type (wpAny_pure ⟨_,rfl,wpAny_pure h⟩) htake))
end
end HT
namespace L2
open PySem PySem.Spec PyProof.Rows
abbrev TO:=St→Hp→(Option Int→Hp→Prop)→Prop
def PO (X:Cx)(e:Option Expr)(t:TO):Prop:=
  ∀(pins:List (Addr×Obj)) (s:Shared) (σ:St) (H:Hp) (Q:Option Int→Hp→Prop),Inv X pins σ H s→t σ H Q→
    wpAny (model X.prog X.w) X.A (evalPart e X.env) (fun u s'=>∃ o H',Inv X pins σ H' s'∧IsPart u o∧Q o H') X.xe s
def zij:TO:=fun _ H Q=>Q none H
def zry (t:TE):TO:=fun σ H Q=>t σ H fun x H1=>∃ i,x=.int i∧Q (some i) H1
section
variable {X:Cx}{e:Expr}{te:TE}{lo hi:Option Expr}{tl th:TO}{pos p2:Pos}
theorem zc8:PO X none zij:=by
  intro pins s σ H Q I h;rw[evalPart_none];exact wpAny_pure ⟨none,H,I,.none,h⟩
theorem zbX (h:PE X e te):PO X (some e) (zry te):=by
  intro pins s σ H Q I hw;rw[evalPart_some];refine thn (h pins s σ H _ I hw) fun u s1 zq0=>?_;obtain ⟨x,H1,I1,r1,q1⟩:=zq0;obtain ⟨i,rfl,q⟩:=q1;obtain ⟨t,rfl⟩:=r1;exact ⟨some i,H1,I1,.int i t,q⟩
def SlR (X:Cx)(r:V→Option Int→Option Int→Hp→VK→Prop):Prop:=
  ∀(pins:List (Addr×Obj)) (s:Shared) (σ:St) (H:Hp) (x:V) (v vl vu:Value) (lo hi:Option Int) (sl:Addr) (Q:VK),Inv X pins σ H s→RelV x v→s.heap.IsSliceOf sl vl vu .none→IsPart vl lo→IsPart vu hi→r x lo hi H Q→
    ∃ T id,typeLookup (.type T) "__getitem__" = pure (some (.builtin id))∧s.TypeIs v T∧wpAny (model X.prog X.w) X.A (getItem v (.ref sl)) (EP X pins σ Q) X.xe s
def tSl (r:V→Option Int→Option Int→Hp→VK→Prop)(te:TE)(tl th:TO):TE:=fun σ H Q=>te σ H fun x H1=>tl σ H1 fun l H2=>th σ H2 fun u H3=>r x l u H3 Q
theorem zbN {r:V→Option Int→Option Int→Hp→VK→Prop}(hr:SlR X r)(he:PE X e te)(hl:PO X lo tl)(hu:PO X hi th):PE X (.Subscript e (.Slice lo hi none p2) pos) (tSl r te tl th):=by
  intro pins s σ H Q I h;refine Subscript_ (thn (he pins s σ H _ I h) fun v s1 zq0=>?_);obtain ⟨x,H1,I1,r1,q1⟩:=zq0;refine wpAny_Slice (thn (hl pins s1 σ H1 _ I1 q1) fun vl s2 zq0=>?_);obtain ⟨l,H2,I2,pl,q2⟩:=zq0;refine thn (hu pins s2 σ H2 _ I2 q2) fun vu s3 zq1=>?_;obtain ⟨u,H3,I3,pu,q3⟩:=zq1;rw[evalPart_none];refine wpAny_pure ?_;have I4:Inv X pins σ H3 { s3 with heap:=s3.heap.push { cls:=.type "slice",data:=.fields #[vl,vu,.none] } }:=I3.kept (t':=s3.toks) fun b ob q=>yah _ q;obtain ⟨T,id,hT,ht,hg⟩:=hr pins { s3 with heap:=s3.heap.push { cls:=.type "slice",data:=.fields #[vl,vu,.none] } } σ H3 x v vl vu l u s3.heap.objs.size Q I4 r1 (Heap.IsSliceOf.new ..) pl pu q3;show wpAny (model X.prog X.w) X.A (subscriptTail e (.Slice lo hi none p2) v (.ref s3.heap.objs.size)) (EP X pins σ Q) X.xe { s3 with heap:=s3.heap.push { cls:=.type "slice",data:=.fields #[vl,vu,.none] } };exact tail_any (ops:=[.ref s3.heap.objs.size,v]) ht hT hg (by with_unfolding_all rfl)
def cutV (xs:List V)(lo hi:Option Int):List V:=(xs.drop (HT.sIx xs.length 0 lo)).take (HT.sIx xs.length xs.length hi - HT.sIx xs.length 0 lo)
theorem zfS (xs:List V)(lo hi:Option Int):(cutV xs lo hi).length≤xs.length:=by
  unfold cutV;rw[yan,yaN];omega
def rSlT (K:Frag):V→Option Int→Option Int→Hp→VK→Prop:=fun x lo hi H Q=>∃ a xs,x=.ref a∧SqT K H a xs∧
  ¬ (HT.sIx xs.length 0 lo=0∧HT.sIx xs.length xs.length hi=xs.length)∧∀ p,H p=none→Q (.ref p) (upd H p (.tup (cutV xs lo hi)))
theorem zqo:SlR X (rSlT X.K):=by
  intro pins s σ H x v vl vu lo hi sl Q I rx hs pl pu h;obtain ⟨a,xs,rfl,hx,hw,q⟩:=h;cases rx
  obtain ⟨its,r,ht,hz⟩:=I.tuple hx;have hlen:its.toArray.size=xs.length:=by rw[yar];exact r.length.symm
  refine ⟨"tuple",_,PyProof.Rows.slot_tuple_getitem.lookup,ht.typeIs,?_⟩;refine HT.getItem_tuple_cut ht hs pl pu (by rw[hlen];exact hw) ?_ (by rw[hlen];exact hz);rw[hlen];refine ⟨.ref s.heap.objs.size,_,I.laid (t':=s.toks) (o:=.tup (cutV xs lo hi)) (fun b ob q=>yah _ q) (yaa _) ?_,rfl,q _ (I.hok.fresh (yaa _))⟩;exact ⟨yaA (zfS xs lo hi) hz,_,(r.drop (HT.sIx xs.length 0 lo)).take (HT.sIx xs.length xs.length hi - HT.sIx xs.length 0 lo),IsTup.new _ _⟩
def zo5 (K:Frag):R2:=fun x y H Q=>∃ a b xs ys,x=.ref a∧y=.ref b∧SqT K H a xs∧SqT K H b ys∧xs≠[]∧xs.length+ys.length≤sizeLine∧
  (ys=[]→Q (.ref a) H)∧(ys≠[]→∀ p,H p=none→Q (.ref p) (upd H p (.tup (xs++ys))))
theorem Vals.nil_iff {xs:List V}{us:List Value}(r:Vals xs us):us=[]↔xs=[]:=by
  cases r with
  | nil=>simp
  | cons _ _=>simp
theorem zfz:OpR X (binaryOp .Add) (zo5 X.K):=by
  intro pins s σ H x y v u Q I rx ry h;obtain ⟨a,b,xs,ys,rfl,rfl,ha,hb,hx,hz,q1,q2⟩:=h;cases rx
  cases ry
  obtain ⟨its,r1,p1,_⟩:=I.tuple ha;obtain ⟨its2,r2,p2,_⟩:=I.tuple hb;refine HT.cat_tup p1 p2 (fun z=>hx (r1.nil_iff.mp z)) (fun z=>⟨.ref a,H,I,rfl,q1 (r2.nil_iff.mp z)⟩) (fun z=>?_) (by rw[← r1.length,← r2.length];exact hz);refine ⟨.ref s.heap.objs.size,_,I.laid (t':=s.toks) (o:=.tup (xs++ys)) (fun b ob q=>yah _ q) (yaa _) ?_,rfl,q2 (fun w=>z (r2.nil_iff.mpr w)) _ (I.hok.fresh (yaa _))⟩;exact ⟨by rw[yaq];exact hz,_,r1.append r2,IsTup.new _ _⟩
end
end L2
namespace L2
open PySem PySem.Spec PyProof.Rows
def ixN (n:Nat)(i:Int):Option Nat:=if 0≤i then (if i < n then some i.toNat else none) else if -(n:Int)≤i then some (i+n).toNat else none
def atI {α:Type}(xs:List α)(i:Int):Option α:=(ixN xs.length i).bind fun j=>xs[j]?
theorem zl7 {n:Nat}{i:Int}{j:Nat}(h:ixN n i=some j):seqIndex? i n=some j∧j < n∧-(n:Int)≤i∧i < n:=by
  unfold ixN at h;by_cases h0:0≤i
  · rw[if_pos h0]at h
    by_cases h1:i < n
    · rw[if_pos h1]at h
      have e:i.toNat=j:=yad h;exact ⟨by rw[seqIndex_of h0 h1,e],by omega,by omega,h1⟩
    · rw[if_neg h1]at h;cases h
  · rw[if_neg h0]at h
    by_cases h1:-(n:Int)≤i
    · rw[if_pos h1]at h
      have e:(i+n).toNat=j:=yad h;exact ⟨by rw[seqIndex_neg (by omega) h1,e],by omega,h1,by omega⟩
    · rw[if_neg h1]at h;cases h
theorem zmM {α:Type}{xs:List α}{i:Int}{v:α}(h:atI xs i=some v):∃ j,seqIndex? i xs.length=some j∧xs[j]?=some v∧j < xs.length∧-(xs.length:Int)≤i∧i < xs.length:=by
  unfold atI at h;cases e:ixN xs.length i with
  | none=>rw[e]at h;cases h
  | some j=>
    rw[e]at h;obtain ⟨h1,h2,h3,h4⟩:=zl7 e;exact ⟨j,h1,h,h2,h3,h4⟩
theorem zf1 {α:Type}{xs:List α}{j:Nat}{v:α}(h:xs[j]?=some v):atI xs (j:Int)=some v:=by
  have hj:j < xs.length:=(yak.mp h).1;have e:ixN xs.length (j:Int)=some j:=by
    unfold ixN;rw[if_pos (by omega),if_pos (by omega)];simp
  unfold atI;rw[e];exact h
def zpZ (b:Expr):Prop:=∀ o i,subscripted b false o i=operate [o,i] (getItem o i)
def IxR (X:Cx)(r:R2):Prop:=
  ∀(value slice:Expr) (pins:List (Addr×Obj)) (s:Shared) (σ:St) (H:Hp) (x y:V) (v u:Value) (Q:VK),Inv X pins σ H s→RelV x v→RelV y u→r x y H Q→
    subscripted slice false v u=operate [v,u] (getItem v u)→wpAny (model X.prog X.w) X.A (subscriptTail value slice v u) (EP X pins σ Q) X.xe s
def MtR (X:Cx)(id:String)(r:V→List V→Hp→VK→Prop):Prop:=
  ∀(pins:List (Addr×Obj)) (s:Shared) (σ:St) (H:Hp) (x:V) (xs:List V) (v:Value) (us:List Value) (Q:VK),Inv X pins σ H s→RelV x v→Vals xs us→r x xs H Q→
    wpAny (model X.prog X.w) X.A (call (.builtin id) (v::us)) (EP X pins σ Q) X.xe s
section
variable {X:Cx}{a b:Expr}{ta tb:TE}{pos:Pos}
theorem zaR {r:R2}(hr:IxR X r)(ha:PE X a ta)(hb:PE X b tb)(hs:zpZ b):PE X (.Subscript a b pos) (tOp r ta tb):=by
  intro pins s σ H Q I h;exact Subscript_ (binT ha hb I h fun v u s2 x y H2 I2 rx ry q=>hr a b pins s2 σ H2 x y v u Q I2 rx ry q (hs _ _))
def rIxL (K:Frag):R2:=fun x y H Q=>∃ p xs i v,x=.ref p∧y=.int i∧SqL K H p xs∧atI xs i=some v∧Q v H
def rIxT (K:Frag):R2:=fun x y H Q=>∃ p xs i v,x=.ref p∧y=.int i∧SqT K H p xs∧atI xs i=some v∧Q v H
theorem za1:IxR X (rIxL X.K):=by
  intro value slice pins s σ H x y v u Q I rx ry h hs;obtain ⟨p,xs,i,z,rfl,rfl,hq,he,q⟩:=h;cases rx
  obtain ⟨t,rfl⟩:=ry;obtain ⟨its,r,pl,hz⟩:=I.list hq;obtain ⟨j,h1,h2,h3,h4,h5⟩:=zmM he;obtain ⟨w,ew,rw'⟩:=r.get h2;have hl:=r.length;have hn:=zjD;have fin:EP X pins σ Q w s:=⟨z,H,I,rw',q⟩;by_cases h0:0≤i
  · have hj:i.toNat=j:=by
      rw[seqIndex_of h0 h5]at h1;exact yad h1
    exact item_listR pl.isList h0 (by omega) (by rw[hj];simpa using ew) fin hs
  · have hj:(i+(its.toArray.size:Int)).toNat=j:=by
      rw[seqIndex_neg (by omega) h4]at h1;rw[yar,← hl];exact yad h1
    exact subscriptTail_builtinR (x:=w) pl.isList.typeIs slot_list_getitem.lookup
      (wpAny_getItem_list_neg (Q:=fun r s'=>r=w∧EP X pins σ Q r s') pl.isList (by omega) (by rw[yar] <;> omega) (by omega) (by rw[hj];simpa using ew) ⟨rfl,fin⟩) hs
theorem zbf:IxR X (rIxT X.K):=by
  intro value slice pins s σ H x y v u Q I rx ry h hs;obtain ⟨p,xs,i,z,rfl,rfl,hq,he,q⟩:=h;cases rx
  obtain ⟨t,rfl⟩:=ry;obtain ⟨its,r,pl,hz⟩:=I.tuple hq;obtain ⟨j,h1,h2,h3,h4,h5⟩:=zmM he;obtain ⟨w,ew,rw'⟩:=r.get h2;have hl:=r.length;have hn:=zjD;have fin:EP X pins σ Q w s:=⟨z,H,I,rw',q⟩;exact subscriptTail_builtinR (x:=w) pl.typeIs slot_tuple_getitem.lookup
    (getItem_tuple (j:=j) (Q:=fun r s'=>r=w∧EP X pins σ Q r s') pl (by omega) (by omega) (by rw[yar,← hl];exact h1) (by simpa using ew) ⟨rfl,fin⟩) hs
theorem zki (its:List Value)(n j:Nat)(u:Value):Obj.mapSeq (·.setIfInBounds j u) { cls:=.type "list",data:=.seq its.toArray n }={ cls:=.type "list",data:=.seq (its.set j u).toArray n }:=by
  simp[Obj.mapSeq]
theorem Inv.lst {pins:List (Addr×Obj)}{σ:St}{H:Hp}{s:Shared}{p:Addr}{xs:List V}(I:Inv X pins σ H s)(h:H p=some (.lst xs)) :
    ∃(its:List Value) (n:Nat),Vals xs its∧s.heap.get? p=some { cls:=.type "list",data:=.seq its.toArray n }∧xs.length≤sizeLine:=by
  obtain ⟨z,its,n,r,e⟩:=I.hok p _ h;exact ⟨its,n,r,e,z⟩
theorem Inv.lstUpd {pins:List (Addr×Obj)}{σ:St}{H:Hp}{s:Shared}{p:Addr}{xs ys:List V}{its its':List Value}{n n':Nat}{f:Obj→Obj}(I:Inv X pins σ H s)(h:H p=some (.lst xs))
    (ho:s.heap.get? p=some { cls:=.type "list",data:=.seq its.toArray n }) (hf:f { cls:=.type "list",data:=.seq its.toArray n }={ cls:=.type "list",data:=.seq its'.toArray n' }) (r:Vals ys its') (hz:ys.length≤sizeLine) (t:Nat) :
    Inv X pins σ (upd H p (.lst ys)) { s with heap:=s.heap.update p f,toks:=t }:=by
  have e:(s.heap.update p f).get? p=some { cls:=.type "list",data:=.seq its'.toArray n' }:=by
    rw[Heap.get?_update_self f ho (by rw[hf] <;> rfl),hf]
  refine I.write (x:=p) (e:=p) (by rw[h];trivial) (.inl rfl) (fun b u hb q=>(ybo _ _ (Ne.symm hb)).trans q) ⟨_,e⟩ ?_;exact ⟨hz,its',n',r,e⟩
def zrH:V→V→V→Hp→(Hp→Prop)→Prop:=fun o i v H Q=>∃ p xs k j,o=.ref p∧i=.int k∧H p=some (.lst xs)∧ixN xs.length k=some j∧Q (upd H p (.lst (xs.set j v)))
theorem zd3:PSet X zrH:=by
  intro pins s σ H o i v ov iv u Q I ro ri rv h;obtain ⟨p,xs,k,j,rfl,rfl,hp,hj,q⟩:=h;cases ro
  obtain ⟨t,rfl⟩:=ri;obtain ⟨its,n,r,ho,hz⟩:=I.lst hp;obtain ⟨h1,h2,h3,h4⟩:=zl7 hj;have hl:=r.length;have hn:=zjD;have I':Inv X pins σ (upd H p (.lst (xs.set j v))) { s with heap:=s.heap.update p (Obj.mapSeq (·.setIfInBounds j u)) }:=
    I.lstUpd hp ho (zki its n j u) (r.set rv j) (by rw[ybx];exact hz) s.toks
  by_cases h0:0≤k
  · have hk:k.toNat=j:=by
      rw[seqIndex_of h0 h4]at h1;exact yad h1
    exact PySem.W.ki_setAt ho h0 (by omega) (by rw[yar,← hl];exact h4) (by rw[hk];exact ⟨_,I',q⟩)
  · have hk:(k+(its.toArray.size:Int)).toNat=j:=by
      rw[seqIndex_neg (by omega) h3]at h1;rw[yar,← hl];exact yad h1
    exact PySem.W.ki_setBack ho (by omega) (by rw[yar,← hl];exact h3) (by omega) (by rw[hk];exact ⟨_,I',q⟩)
theorem zhD (lo hi:Option Int)(n:Nat):(sliceBounds lo hi none n).1=((HT.sIx n 0 lo:Nat):Int)∧(sliceBounds lo hi none n).2.1=((HT.sIx n n hi:Nat):Int)∧(sliceBounds lo hi none n).2.2=1:=by
  refine ⟨?_,?_,rfl⟩
  · cases lo with
    | none=>simp[sliceBounds,HT.sIx]
    | some i=>
      simp only[sliceBounds,HT.sIx,Option.getD_none,show (1:Int) > 0 by decide,if_true];by_cases h:i < 0
      · simp only[h,if_true] <;> omega
      · simp only[h,if_false] <;> omega
  · cases hi with
    | none=>simp[sliceBounds,HT.sIx]
    | some i=>
      simp only[sliceBounds,HT.sIx,Option.getD_none,show (1:Int) > 0 by decide,if_true];by_cases h:i < 0
      · simp only[h,if_true] <;> omega
      · simp only[h,if_false] <;> omega
theorem zgN (its:List Value)(lo hi:Option Int):slicePick its.toArray lo hi none=((its.drop (HT.sIx its.length 0 lo)).take (HT.sIx its.length its.length hi - HT.sIx its.length 0 lo)).toArray:=by
  obtain ⟨h1,h2,h3⟩:=zhD lo hi its.toArray.size;unfold slicePick;rw[h1,h2,h3];simp only[sliceRange_one,pick_run,yar] <;> rfl
def rSlL (K:Frag):V→Option Int→Option Int→Hp→VK→Prop:=fun x lo hi H Q=>∃ a xs,x=.ref a∧SqL K H a xs∧∀ p,H p=none→Q (.ref p) (upd H p (.lst (cutV xs lo hi)))
theorem zle:SlR X (rSlL X.K):=by
  intro pins s σ H x v vl vu lo hi sl Q I rx hs pl pu h;obtain ⟨a,xs,rfl,hx,q⟩:=h;cases rx
  obtain ⟨its,r,ht,hz⟩:=I.list hx;have hlen:=r.length;refine ⟨"list",_,slot_list_getitem.lookup,ht.isList.typeIs,?_⟩;refine wpAny_getItem_list_slice ht.isList hs pl pu .none (by simp) ?_ (by rw[yar] <;> omega)
  rw[zgN,← hlen];refine ⟨.ref s.heap.objs.size,_,I.laid (t':=s.toks) (o:=.lst (cutV xs lo hi)) (fun b ob q=>yah _ q) (yaa _) ?_,rfl,q _ (I.hok.fresh (yaa _))⟩;exact ⟨yaA (zfS xs lo hi) hz,_,0,(r.drop (HT.sIx xs.length 0 lo)).take (HT.sIx xs.length xs.length hi - HT.sIx xs.length 0 lo),yaB _ rfl⟩
def zeo:V→Bool
  | .non=>true
  | .bl _=>true
  | .int _=>true
  | .str _=>true
  | _=>false
def eqV:V→V→Bool
  | .non,.non=>true
  | .bl a,.bl b=>a == b
  | .bl a,.int b=>(if a then 1 else 0) == b
  | .int a,.bl b=>a == (if b then 1 else 0)
  | .int a,.int b=>a == b
  | .str a,.str b=>a == b
  | _,_=>false
theorem zrm {A:Around}{s:Shared}{y x:V}{u v:Value}(ry:RelV y u)(rx:RelV x v)(fy:zeo y=true)(fx:zeo x=true):SeqAt.EqAt A s u v (eqV y x):=by
  cases y with
  | non=>
    cases ry
    cases x with
    | non=>cases rx;exact SeqAt.EqAt.same _
    | bl b=>cases rx;exact SeqAt.EqAt.none_bool b
    | int b=>obtain ⟨t,rfl⟩:=rx;exact SeqAt.EqAt.none_int b t
    | str b=>obtain ⟨t,rfl⟩:=rx;exact SeqAt.EqAt.none_str b t
    | _=>exact absurd (show false=true from fx) yaz
  | bl a=>
    cases ry
    cases x with
    | non=>cases rx;exact SeqAt.EqAt.bool_none a
    | bl b=>cases rx;exact SeqAt.EqAt.bool_bool a b
    | int b=>obtain ⟨t,rfl⟩:=rx;exact SeqAt.EqAt.bool_int a b t
    | str b=>obtain ⟨t,rfl⟩:=rx;exact SeqAt.EqAt.bool_str a b t
    | _=>exact absurd (show false=true from fx) yaz
  | int a=>
    obtain ⟨t',rfl⟩:=ry;cases x with
    | non=>cases rx;exact SeqAt.EqAt.int_none a t'
    | bl b=>cases rx;exact SeqAt.EqAt.int_bool a t' b
    | int b=>obtain ⟨t,rfl⟩:=rx;exact SeqAt.EqAt.int_int a t' b t
    | str b=>obtain ⟨t,rfl⟩:=rx;exact SeqAt.EqAt.int_str a t' b t
    | _=>exact absurd (show false=true from fx) yaz
  | str a=>
    obtain ⟨t',rfl⟩:=ry;cases x with
    | non=>cases rx;exact SeqAt.EqAt.str_none a t'
    | bl b=>cases rx;exact SeqAt.EqAt.str_bool a t' b
    | int b=>obtain ⟨t,rfl⟩:=rx;exact SeqAt.EqAt.str_int a t' b t
    | str b=>obtain ⟨t,rfl⟩:=rx;exact SeqAt.EqAt.str_str a t' b t
    | _=>exact absurd (show false=true from fx) yaz
  | _=>exact absurd (show false=true from fy) yaz
def eqU (x:V)(u:Value):Bool:=match u with
  | .none=>eqV .non x
  | .bool b=>eqV (.bl b) x
  | .int i _=>eqV (.int i) x
  | .str z _=>eqV (.str z) x
  | _=>false
theorem zoI {x y:V}{u:Value}(r:RelV y u)(f:zeo y=true):eqU x u=eqV y x:=by
  cases y with
  | non=>cases r;rfl
  | bl b=>cases r;rfl
  | int i=>obtain ⟨t,rfl⟩:=r;rfl
  | str z=>obtain ⟨t,rfl⟩:=r;rfl
  | _=>exact absurd (show false=true from f) yaz
theorem zf2 {x:V}:∀{xs:List V} {us:List Value},Vals xs us→xs.all zeo=true→us.any (eqU x)=xs.any fun y=>eqV y x
  | _,_,.nil,_=>rfl
  | y::xs,u::us,.cons r t,f=>by
    rw[yb4,ybn]at f;rw[ybb,ybb,zoI r f.1,zf2 t f.2]
theorem zej {A:Around}{s:Shared}{x:V}{v:Value}(rx:RelV x v)(fx:zeo x=true):∀{xs:List V} {us:List Value},Vals xs us→xs.all zeo=true→∀ u∈us,SeqAt.EqAt A s u v (eqU x u)
  | _,_,.nil,_=>fun u hu=>by cases hu
  | y::xs,u::us,.cons r t,f=>fun u' hu=>by
    rw[yb4,ybn]at f;rcases yam.mp hu with rfl | hu
    · rw[zoI r f.1];exact zrm r rx f.1 fx
    · exact zej rx fx t f.2 u' hu
def inV (x:V)(xs:List V):Bool:=xs.any fun y=>eqV y x
def rIn (K:Frag)(neg:Bool):R2:=fun x y H Q=>∃ p xs,y=.ref p∧(SqL K H p xs∨SqT K H p xs)∧zeo x=true∧xs.all zeo=true∧Q (.bl (if neg then !inV x xs else inV x xs)) H
theorem zdb:OpR X (compareOp .In) (rIn X.K false):=by
  intro pins s σ H x y v u Q I rx ry h;obtain ⟨p,xs,rfl,hq,fx,fs,q⟩:=h;cases ry
  rcases hq with hq | hq
  · obtain ⟨its,r,pl,hz⟩:=I.list hq
    refine SeqAt.in_listAt (eqU x) pl.isList (fun w hw=>zej rx fx r fs w (by simpa using hw)) ⟨.bl _,H,I,rfl,?_⟩;rw[show its.toArray.any (eqU x)=its.any (eqU x) by simp,zf2 r fs];exact q
  · obtain ⟨its,r,pl,hz⟩:=I.tuple hq
    refine SeqAt.in_tupleAt (eqU x) pl (fun w hw=>zej rx fx r fs w (by simpa using hw)) ⟨.bl _,H,I,rfl,?_⟩;rw[show its.toArray.any (eqU x)=its.any (eqU x) by simp,zf2 r fs];exact q
theorem zda:OpR X (compareOp .NotIn) (rIn X.K true):=by
  intro pins s σ H x y v u Q I rx ry h;obtain ⟨p,xs,rfl,hq,fx,fs,q⟩:=h;cases ry
  rcases hq with hq | hq
  · obtain ⟨its,r,pl,hz⟩:=I.list hq
    refine SeqAt.notIn_listAt (eqU x) pl.isList (fun w hw=>zej rx fx r fs w (by simpa using hw)) ⟨.bl _,H,I,rfl,?_⟩;rw[show its.toArray.any (eqU x)=its.any (eqU x) by simp,zf2 r fs];exact q
  · obtain ⟨its,r,pl,hz⟩:=I.tuple hq
    refine SeqAt.notIn_tupleAt (eqU x) pl (fun w hw=>zej rx fx r fs w (by simpa using hw)) ⟨.bl _,H,I,rfl,?_⟩;rw[show its.toArray.any (eqU x)=its.any (eqU x) by simp,zf2 r fs];exact q
theorem zao:zbG X (.builtin "len") (fun xs H Q=>∃ p ys,xs=[.ref p]∧(SqL X.K H p ys∨SqT X.K H p ys)∧Q (.int ys.length) H):=by
  intro pins s σ H xs us Q I r h;obtain ⟨p,ys,rfl,hq,q⟩:=h;obtain ⟨u,rfl,rx⟩:=zev r;cases rx
  have hn:=zjD;rcases hq with hq | hq
  · obtain ⟨its,r',pl,hz⟩:=I.list hq
    have hlen:=r'.length;exact Calls.call_len_list pl.isList (by simp only[yar] <;> omega) ⟨.int ys.length,H,I.tok _,⟨s.toks+1,by rw[yar,hlen]⟩,q⟩
  · obtain ⟨its,r',pl,hz⟩:=I.tuple hq
    have hlen:=r'.length;exact len_tuple pl (by simp only[yar] <;> omega) ⟨.int ys.length,H,I.tok _,⟨s.toks+1,by rw[yar,hlen]⟩,q⟩
theorem zbG.or {f:Value}{r r':List V→Hp→VK→Prop}(h:zbG X f r)(h':zbG X f r'):zbG X f (fun xs H Q=>r xs H Q∨r' xs H Q):=by
  intro pins s σ H xs us Q I rs q;rcases q with q | q
  · exact h pins s σ H xs us Q I rs q
  · exact h' pins s σ H xs us Q I rs q
theorem zeX:zbG X (.type "list") (fun xs H Q=>∃ p ys,xs=[.ref p]∧(SqL X.K H p ys∨SqT X.K H p ys)∧∀ l,H l=none→Q (.ref l) (upd H l (.lst ys))):=by
  intro pins s σ H xs us Q I r h;obtain ⟨p,ys,rfl,hq,q⟩:=h;obtain ⟨u,rfl,rx⟩:=zev r;cases rx
  have fin:∀(its:List Value),Vals ys its→ys.length≤sizeLine→∀(h':Heap) (c':Nat),(∀ b o',s.heap.get? b=some o'→h'.get? b=some o')→
      h'.get? s.heap.objs.size=some { cls:=.type "list",dict:=none,data:=.seq its.toArray c',slots:=#[] }→EP X pins σ Q (.ref s.heap.objs.size) { s with heap:=h' }:=fun its r' hz h' c' kp e=>
    ⟨.ref s.heap.objs.size,_,I.laid (t':=s.toks) kp (yaa _) (show za9 X.prog X.w _ h' _ (.lst ys) from ⟨hz,its,c',r',e⟩),rfl,q _ (I.hok.fresh (yaa _))⟩
  rcases hq with hq | hq
  · obtain ⟨its,r',pl,hz⟩:=I.list hq
    have hlen:=r'.length;obtain ⟨o,ho,hc,n,hd⟩:=pl.isList;exact call_list_seq p (.inl rfl) ho hc hd (fun h' c' kp e=>fin its r' hz h' c' kp e) (by simp only[yar] <;> omega)
  · obtain ⟨its,r',pl,hz⟩:=I.tuple hq
    have hlen:=r'.length;obtain ⟨o,ho,hc,n,hd⟩:=pl;exact call_list_seq p (.inr rfl) ho hc hd (fun h' c' kp e=>fin its r' hz h' c' kp e) (by simp only[yar] <;> omega)
theorem zaV:zbG X (.type "tuple") (fun xs H Q=>∃ p ys,xs=[.ref p]∧((SqL X.K H p ys∧∀ l,H l=none→Q (.ref l) (upd H l (.tup ys)))∨(SqT X.K H p ys∧Q (.ref p) H))):=by
  intro pins s σ H xs us Q I r h;obtain ⟨p,ys,rfl,h⟩:=h;obtain ⟨u,rfl,rx⟩:=zev r;cases rx
  rcases h with ⟨hq,q⟩ | ⟨hq,q⟩
  · obtain ⟨its,r',pl,hz⟩:=I.list hq
    have hlen:=r'.length;refine call_tuple_list pl.isList (fun h' kp=>?_) (by simp only[yar] <;> omega)
    have I1:Inv X pins σ H { s with heap:=h' }:=I.kept (t':=s.toks) kp;have I2:Inv X pins σ (upd H h'.objs.size (.tup ys)) { s with heap:=h'.push { cls:=.type "tuple",data:=.seq its.toArray } }:=
      I1.laid (t':=s.toks) (fun b o e=>yah _ e) (yaa _) (show za9 X.prog X.w _ _ _ (.tup ys) from ⟨hz,its,r',IsTup.new _ _⟩)
    exact ⟨.ref h'.objs.size,_,I2,rfl,q _ (I1.hok.fresh (yaa _))⟩
  · obtain ⟨its,r',pl,hz⟩:=I.tuple hq
    exact call_tuple_same pl ⟨.ref p,H,I,rfl,q⟩
def tyV (K:Frag)(T:String)(x:V)(H:Hp):Prop:=match x with
  | .str _=>T = "str"
  | .int _=>T = "int"
  | .ref p=>(T = "list"∧∃ xs,SqL K H p xs)∨(T = "tuple"∧∃ o,K.lookup p=some o∧o.cls=.type "tuple"∧o.dict=none)∨
      (T = "dict"∧((∃ kvs,H p=some (.dK kvs))∨∃ kvs,H p=some (.dT kvs)))∨(T = "set"∧∃ S n,H p=some (.set S n))
  | _=>False
theorem zog {pins:List (Addr×Obj)}{σ:St}{H:Hp}{s:Shared}{T:String}{x:V}{v:Value}(I:Inv X pins σ H s)(r:RelV x v)(ty:tyV X.K T x H) :
    s.TypeIs v T∧∀ a,v=.ref a→∃ ob,s.heap.get? a=some ob∧ob.dict=none:=by
  cases x with
  | str z=>
    obtain ⟨t,rfl⟩:=r;cases (show T = "str" from ty)
    exact ⟨typeIs_str s z t,fun _ e=>nomatch e⟩
  | int i=>
    obtain ⟨t,rfl⟩:=r;cases (show T = "int" from ty)
    exact ⟨typeIs_int s i t,fun _ e=>nomatch e⟩
  | ref p=>
    cases r
    rcases ty with ⟨rfl,xs,hq⟩ | ⟨rfl,o,hk,hc,hd⟩ | ⟨rfl,hk⟩ | ⟨rfl,S,n,hk⟩
    · obtain ⟨its,_,pl,_⟩:=I.list hq
      refine ⟨pl.isList.typeIs,fun a e=>?_⟩;cases e
      obtain ⟨o,n,e,c,hd,_⟩:=pl;exact ⟨o,e,hd⟩
    · refine ⟨⟨o,I.kIn p o hk,hc⟩,fun a e=>?_⟩
      cases e
      exact ⟨o,I.kIn _ o hk,hd⟩
    · have z:∃ o,s.heap.get? p=some o∧o.ExactDict:=by
        rcases hk with ⟨kvs,hk⟩ | ⟨kvs,hk⟩
        · obtain ⟨_,_,_,_,o,_,_,e,ex,_⟩:=I.hok p _ hk
          exact ⟨o,e,ex⟩
        · obtain ⟨_,_,_,_,o,_,_,e,ex,_⟩:=I.hok p _ hk
          exact ⟨o,e,ex⟩
      obtain ⟨o,e,ex⟩:=z;refine ⟨⟨o,e,ex.1⟩,fun a e2=>?_⟩;cases e2
      exact ⟨o,e,ex.2.1⟩
    · obtain ⟨o,_,_,_,e,ex,_⟩:=I.hok p _ hk
      refine ⟨⟨o,e,ex.1⟩,fun a e2=>?_⟩;cases e2
      exact ⟨o,e,ex.2.1⟩
  | _=>exact False.elim ty
def tBM0 (K:Frag)(T:String)(r:V→List V→Hp→VK→Prop)(to:TE):TE:=fun σ H Q=>to σ H fun x H1=>tyV K T x H1∧r x [] H1 Q
def tBM (K:Frag)(T:String)(r:V→List V→Hp→VK→Prop)(to:TE)(t:TA):TE:=fun σ H Q=>to σ H fun x H1=>tyV K T x H1∧t σ H1 fun xs H2=>r x xs H2 Q
variable {o e:Expr}{es:List Expr}{to:TE}{t:TA}{name:Str}{apos cpos:Pos}{T id:String}{r:V→List V→Hp→VK→Prop}
theorem zqB (pa:PlainAttrs T)(slot:Slot T name id)(hty:typeOf (.builtin id)=pure (.type "method_descriptor"))(hm:MtR X id r)(ho:PE X o to)
    (hbase:attributeBase o name X.env (eval o X.env)=eval o X.env:=by rfl) (hline:(apos.endLine == cpos.line)=true:=by rfl):PE X (.Call (.Attribute o name apos) [] [] cpos) (tBM0 X.K T r to):=by
  intro pins s σ H Q I h;refine wpAny_Call_method0_late hbase hline (thn (ho pins s σ H _ I h) fun v s1 zq0=>?_);obtain ⟨x,H1,I1,r1,ty,q1⟩:=zq0;obtain ⟨h1,h2⟩:=zog I1 r1 ty;exact ⟨T,id,pa,slot,hty,h1,h2,Calls.callWith_builtin rfl (PySem.evalArgs_none (hm pins s1 σ H1 x [] v [] Q I1 r1 .nil q1))⟩
theorem zgZ (pa:PlainAttrs T)(slot:Slot T name id)(hty:typeOf (.builtin id)=pure (.type "method_descriptor"))(hm:MtR X id r)(ho:PE X o to)(ha:PA X (e::es) t)
    (hbase:attributeBase o name X.env (eval o X.env)=eval o X.env:=by rfl)
    (hfew:((backTo cpos (starEach (e::es) X.env)).all (fun x=>!x.1) && (backToKw cpos (keywordEach [] X.env)).all (fun x=>x.1.isSome)
      && decide ((e::es).length+([]:List Keyword).length+(if ([]:List Keyword).isEmpty then 0 else 1) < 30))=true:=by rfl)
    (hline:(apos.endLine == cpos.line)=true:=by rfl) (hs:starEach (e::es) X.env=(false,eval e X.env)::starEach es X.env:=by rfl) (hplain:(backTo cpos (starEach es X.env)).any (·.1)=false:=by rfl) :
    PE X (.Call (.Attribute o name apos) (e::es) [] cpos) (tBM X.K T r to t):=by
  intro pins s σ H Q I h;refine wpAny_Call_method_late hbase hfew hline rfl (thn (ho pins s σ H _ I h) fun v s1 zq0=>?_);obtain ⟨x,H1,I1,r1,ty,q1⟩:=zq0;obtain ⟨h1,h2⟩:=zog I1 r1 ty;refine ⟨T,id,pa,slot,hty,h1,h2,?_⟩;have hA:=ha cpos pins s1 σ H1 _ I1 q1;rw[hs]at hA ⊢;refine Calls.callWith_builtin (by show (false || (backTo cpos (starEach es X.env)).any (·.1))=false;rw[hplain] <;> rfl) (Calls.evalArgs_plain ?_)
  exact thn hA fun us s2 zq0=>(by obtain ⟨vs,H2,I2,r2,q2⟩:=zq0;exact hm pins s2 σ H2 x vs v us Q I2 r1 r2 q2)
end
end L2
namespace L2
open PySem PySem.Spec PyProof.Rows
def MtM (X:Cx)(id:String)(r:V→List V→Hp→VK→Prop):Prop:=
  ∀(pins:List (Addr×Obj)) (s:Shared) (σ:St) (H:Hp) (x:V) (xs:List V) (v:Value) (us:List Value) (Q:VK),Inv X pins σ H s→RelV x v→Vals xs us→r x xs H Q→
    wpAny (model X.prog X.w) X.A (call (.builtin id) (v::us)) (EP X pins σ Q) X.xe s
theorem Vals.one:∀{x:V} {us:List Value},Vals [x] us→∃ u,us=[u]∧RelV x u
  | _,_,.cons r .nil=>⟨_,rfl,r⟩
section
variable {X:Cx}{pins:List (Addr×Obj)}{σ:St}{H:Hp}{s:Shared}{l b:Addr}{xs ys zs:List V}
theorem Inv.lset {its its':List Value}{n:Nat}{f:Array Value→Array Value}{t':Nat}(I:Inv X pins σ H s)(hH:H l=some (.lst xs))
    (e:s.heap.get? l=some { cls:=.type "list",data:=.seq its.toArray n }) (hf:f its.toArray=its'.toArray) (hv:Vals ys its') (hz:ys.length≤sizeLine) :
    Inv X pins σ (upd H l (.lst ys)) { s with heap:=s.heap.update l (Obj.mapSeq f),toks:=t' }:=by
  have q:=PySem.IsL.update e f;rw[hf]at q;refine I.write (x:=l) (e:=l) (by rw[hH];exact trivial) (.inl rfl) (fun b' u hb hu=>(ybo s.heap (Obj.mapSeq f) (Ne.symm hb)).trans hu) ⟨_,q⟩ ?_;exact ⟨hz,its',_,hv,q⟩
theorem Inv.lnew {its:List Value}{t':Nat}(I:Inv X pins σ H s)(hv:Vals ys its)(hz:ys.length≤sizeLine) :
    Inv X pins σ (upd H s.heap.objs.size (.lst ys)) { s with heap:=s.heap.push { cls:=.type "list",data:=.seq its.toArray },toks:=t' }:=
  I.laid (fun _ _ q=>yah _ q) (yaa _) ⟨hz,its,0,hv,yaB _ rfl⟩
theorem Inv.fresh (I:Inv X pins σ H s):H s.heap.objs.size=none:=I.hok.fresh (yaa _)
theorem Inv.lstM (I:Inv X pins σ H s)(hH:H l=some (.lst xs)):xs.length≤sizeLine∧∃(its:List Value) (n:Nat),Vals xs its∧xs.length=its.length∧s.heap.get? l=some { cls:=.type "list",data:=.seq its.toArray n }:=by
  obtain ⟨z,its,n,r,e⟩:=I.hok l _ hH;exact ⟨z,its,n,r,r.length,e⟩
theorem zny {n:Nat}(h:n≤sizeLine):Builtin.List.listTooLong n=false:=by
  unfold Builtin.List.listTooLong;exact yai (by omega)
end
section
variable {X:Cx}
def zo7:V→List V→Hp→VK→Prop:=fun x vs H Q=>∃ l xs y,x=.ref l∧vs=[y]∧H l=some (.lst xs)∧xs.length < sizeLine∧Q .non (upd H l (.lst (xs++[y])))
theorem zbU:MtM X "list.append" zo7:=by
  intro pins s σ H x vs v us Q I rx rv h;obtain ⟨l,xs,y,rfl,rfl,hH,hz,q⟩:=h;cases rx
  obtain ⟨u,rfl,ru⟩:=rv.one;obtain ⟨z,its,n,r,hl,e⟩:=I.lstM hH;refine call_meets F.slot_list_append ⟨_,e,rfl⟩ F.entry_list_append (F.args_list_append_2 _ _) (PySem.list_append l its.toArray n u (by rw[yar];omega)) ⟨e,?_⟩;refine ⟨.non,_,I.lset (its':=its++[u]) hH e (by simp) (r.append (.cons ru .nil)) ?_,rfl,q⟩;rw[yaq,ybc];omega
def zo4:V→List V→Hp→VK→Prop:=fun x vs H Q=>∃ l b xs zs,x=.ref l∧vs=[.ref b]∧H l=some (.lst xs)∧H b=some (.lst zs)∧xs.length+zs.length≤sizeLine∧Q .non (upd H l (.lst (xs++zs)))
theorem zlL:MtM X "list.extend" zo4:=by
  intro pins s σ H x vs v us Q I rx rv h;obtain ⟨l,b,xs,zs,rfl,rfl,hH,hB,hz,q⟩:=h;cases rx
  obtain ⟨u,rfl,ru⟩:=rv.one;cases ru
  obtain ⟨z,its,n,r,hl,e⟩:=I.lstM hH;obtain ⟨z2,its2,n2,r2,hl2,e2⟩:=I.lstM hB;have hsz:its.toArray.size+its2.toArray.size≤sizeLine:=by rw[yar,yar];omega
  have hlong:¬ (!its.toArray.isEmpty && Builtin.List.listTooLong (its.toArray.size+its2.toArray.size))=true:=by
    rw[zny hsz,yb5];exact yaz
  refine call_meets F.slot_list_extend ⟨_,e,rfl⟩ F.entry_list_extend (F.args_list_extend_2 _ _)
    (AutoSeq1.list_extend_list_list_0 l its.toArray n b its2.toArray n2 hlong (by rw[yar];omega) (by omega)) ⟨e,e2,?_⟩
  refine ⟨.non,_,I.lset (its':=its++its2) hH e (by simp) (r.append r2) ?_,rfl,q⟩;rw[yaq];omega
def rCat:R2:=fun x y H Q=>∃ l b xs zs,x=.ref l∧y=.ref b∧H l=some (.lst xs)∧H b=some (.lst zs)∧xs.length+zs.length≤sizeLine∧∀ p,H p=none→Q (.ref p) (upd H p (.lst (xs++zs)))
theorem zoC:OpR X (binaryOp .Add) rCat:=by
  intro pins s σ H x y v u Q I rx ry h;obtain ⟨l,b,xs,zs,rfl,rfl,hH,hB,hz,q⟩:=h;cases rx
  cases ry
  obtain ⟨z,its,n,r,hl,e⟩:=I.lstM hH;obtain ⟨z2,its2,n2,r2,hl2,e2⟩:=I.lstM hB;refine PySem.P.add_list e e2 ?_ (by rw[yar,yar];omega);have ea:its.toArray++its2.toArray=(its++its2).toArray:=by simp
  rw[ea];exact ⟨.ref _,_,I.lnew (t':=s.toks) (r.append r2) (by rw[yaq];omega),rfl,q _ I.fresh⟩
end
end L2
namespace L2
open PySem PySem.Spec PyProof.Rows
section
variable {κ:Type}[DecidableEq κ]
def valV (kvs:List (κ×V))(k:κ):Option V:=(kvs.find? fun kv=>decide (kv.1=k)).map (·.2)
def putK (kvs:List (κ×V))(k:κ)(v:V):List (κ×V):=
  if (kvs.any fun kv=>decide (kv.1=k))=true then kvs.map (fun kv=>if kv.1=k then (kv.1,v) else kv) else kvs++[(k,v)]
theorem zco {p:κ×V}{r:List (κ×V)}{k:κ}(e:p.1=k):valV (p::r) k=some p.2:=by simp[valV,yby,e]
theorem zbk {p:κ×V}{r:List (κ×V)}{k:κ}(e:¬ p.1=k):valV (p::r) k=valV r k:=by simp[valV,yby,e]
theorem zgC (k:κ):∀ kvs:List (κ×V),(kvs.any fun kv=>decide (kv.1=k))=(valV kvs k).isSome
  | []=>rfl
  | p::r=>by
    rw[ybb];by_cases e:p.1=k
    · simp only[zco e,yal e,Bool.true_or,Option.isSome_some]
    · rw[zbk e,yai e,Bool.false_or];exact zgC k r
theorem zdT (kvs:List (κ×V))(k:κ)(v:V):(putK kvs k v).length≤kvs.length+1:=by
  unfold putK;split
  · rw[yab];omega
  · rw[yaq,yaI,ybp];omega
theorem zea {kvs:List (κ×V)}{k:κ}(v:V)(h:valV kvs k=none):putK kvs k v=kvs++[(k,v)]:=by
  unfold putK;rw[zgC,h];exact if_neg (by decide)
theorem RelO.isSome_eq {o:Option V}{u:Option Value}(r:RelO o u):o.isSome=u.isSome:=by
  cases o with
  | none=>cases u with
    | none=>rfl
    | some _=>exact (show False from r).elim
  | some _=>cases u with
    | none=>exact (show False from r).elim
    | some _=>rfl
theorem KV.val {kvs:List (κ×V)}{vs:List (κ×Value)}(r:KV kvs vs)(k:κ):RelO (valV kvs k) (valueAt vs k):=by
  unfold KV at r
  induction r with
  | nil=>exact True.intro
  | @cons p q ps qs h t ih=>
    obtain ⟨h1,h2⟩:=h;by_cases e:p.1=k
    · have e':q.1=k:=h1.symm.trans e
      have b:valueAt (q::qs) k=some q.2:=by simp[valueAt,yby,e']
      rw[zco e,b];exact h2
    · have e':¬ q.1=k:=fun z=>e (h1.trans z)
      have b:valueAt (q::qs) k=valueAt qs k:=by simp[valueAt,yby,e']
      rw[zbk e,b];exact ih
theorem KV.any {kvs:List (κ×V)}{vs:List (κ×Value)}(r:KV kvs vs)(k:κ):(kvs.any fun kv=>decide (kv.1=k))=vs.any fun kv=>decide (kv.1=k):=by
  unfold KV at r
  induction r with
  | nil=>rfl
  | cons h t ih=>rw[ybb,ybb,ih,h.1]
theorem KV.repl {kvs:List (κ×V)}{vs:List (κ×Value)}(r:KV kvs vs)(k:κ){y:V}{u:Value}(ry:RelV y u) :
    KV (kvs.map fun kv=>if kv.1=k then (kv.1,y) else kv) (vs.map fun kv=>if kv.1=k then (kv.1,u) else kv):=by
  unfold KV at r ⊢
  induction r with
  | nil=>exact .nil
  | @cons p q ps qs h t ih=>
    rw[yau,yau];refine .cons ?_ ih;obtain ⟨h1,h2⟩:=h;by_cases e:p.1=k
    · rw[if_pos e,if_pos (h1.symm.trans e)];exact ⟨h1,ry⟩
    · rw[if_neg e,if_neg (fun z=>e (h1.trans z))];exact ⟨h1,h2⟩
theorem KV.put {kvs:List (κ×V)}{vs:List (κ×Value)}(r:KV kvs vs)(k:κ){y:V}{u:Value}(ry:RelV y u):KV (putK kvs k y) (stored vs k u):=by
  unfold putK stored;rw[r.any k];by_cases e:(vs.any fun kv=>decide (kv.1=k))=true
  · rw[if_pos e,if_pos e];exact r.repl k ry
  · rw[if_neg e,if_neg e];exact Paired.snoc r ⟨rfl,ry⟩
theorem KV.length {kvs:List (κ×V)}{vs:List (κ×Value)}(r:KV kvs vs):kvs.length=vs.length:=Paired.length r
end
theorem zl5 {P:Program}{w:World}{k:Key}{u:Value}(r:RelV (kV k) u):(zbr P w).is k u=true:=by
  cases k with
  | inl i=>obtain ⟨t,e⟩:=(show ∃ t,u=Value.int i t from r);subst e;exact ziA P w i t
  | inr x=>obtain ⟨t,e⟩:=(show ∃ t,u=Value.str x t from r);subst e;exact ziz P w x t
theorem zhQ {P:Program}{w:World}:∀{ks:List Key} {us:List Value},Vals (ks.map kV) us→ItemsAre (zbr P w) ks us
  | [],_,r=>by rw[ybM]at r;cases r;exact .nil
  | k::ks,_,r=>by
    rw[yau]at r;cases r with
    | cons h t=>exact .cons (zl5 h) (zhQ t)
abbrev KT (H:Hp):List (List Key×V)→List (List Key×Addr×Value)→Prop:=Paired fun p q=>p.1=q.1∧H q.2.1=some (.tup (p.1.map kV))∧RelV p.2 q.2.2
theorem KT.val {H:Hp}{kvs:List (List Key×V)}{xs:List (List Key×Addr×Value)}(r:KT H kvs xs)(k:List Key):RelO (valV kvs k) ((atKey xs k).map (·.2)):=by
  induction r with
  | nil=>exact True.intro
  | @cons p q ps qs h t ih=>
    obtain ⟨h1,_,h2⟩:=h;by_cases e:p.1=k
    · have e':q.1=k:=h1.symm.trans e
      have b:atKey (q::qs) k=some q.2:=by simp[atKey,yby,e']
      rw[zco e,b];exact h2
    · have e':¬ q.1=k:=fun z=>e (h1.trans z)
      have b:atKey (q::qs) k=atKey qs k:=by simp[atKey,yby,e']
      rw[zbk e,b];exact ih
theorem KT.repl {H:Hp}{kvs:List (List Key×V)}{xs:List (List Key×Addr×Value)}(r:KT H kvs xs)(k:List Key){y:V}{u:Value}(ry:RelV y u) :
    KT H (kvs.map fun kv=>if kv.1=k then (kv.1,y) else kv) (xs.map (putAt k u)):=by
  induction r with
  | nil=>exact .nil
  | @cons p q ps qs h t ih=>
    rw[yau,yau];refine .cons ?_ ih;obtain ⟨h1,h2,h3⟩:=h;unfold putAt;by_cases e:p.1=k
    · rw[if_pos e,if_pos (h1.symm.trans e)];exact ⟨h1,h2,ry⟩
    · rw[if_neg e,if_neg (fun z=>e (h1.trans z))];exact ⟨h1,h2,h3⟩
theorem KT.put {H:Hp}{kvs:List (List Key×V)}{xs:List (List Key×Addr×Value)}(r:KT H kvs xs)(k:List Key){b:Addr}{y:V}{u:Value}(hb:H b=some (.tup (k.map kV)))(ry:RelV y u) :
    KT H (putK kvs k y) (storedH xs k b u):=by
  have e:(kvs.any fun kv=>decide (kv.1=k))=(atKey xs k).isSome:=by
    rw[zgC,(r.val k).isSome_eq,Option.isSome_map]
  unfold putK storedH;rw[e];by_cases q:(atKey xs k).isSome=true
  · rw[if_pos q,if_pos q];exact r.repl k ry
  · rw[if_neg q,if_neg q];exact Paired.snoc r ⟨rfl,hb,ry⟩
theorem KT.keeps {H H':Hp}{kvs:List (List Key×V)}{xs:List (List Key×Addr×Value)}(r:KT H kvs xs)(ht:∀ b ys,H b=some (.tup ys)→H' b=some (.tup ys)):KT H' kvs xs:=
  Paired.mapP r fun _ _ z=>⟨z.1,ht _ _ z.2.1,z.2.2⟩
section
variable {P:Program}{w:World}{H:Hp}{h:Heap}{a:Addr}
theorem zqq {u:HO}(ok:HOk P w H h)(e:Rd H a u):za9 P w H h a u:=e.ok ok
theorem znX {kvs:List (Key×V)}(ok:HOk P w H h)(e:Rd H a (.dK kvs)):kvs.length≤sizeLine∧(a == sysModules)=false∧∃ vs,KV kvs vs∧h.DictOf (zbr P w) a vs:=
  show za9 P w H h a (.dK kvs) from zqq ok e
theorem zrn {kvs:List (Key×V)}(ok:HOk P w H h)(e:H a=some (.dK kvs)):kvs.length≤sizeLine∧(a == sysModules)=false∧∃ vs,KV kvs vs∧h.DictOf (zbr P w) a vs:=znX ok (.inl e)
theorem zjI {ks:List Key}(ok:HOk P w H h)(e:H a=some (.tup (ks.map kV))):(tupleKind (zbr P w)).is h ks a:=by
  obtain ⟨_,its,r,o,h1,h2,n,h3⟩:=(show za9 P w H h a (.tup (ks.map kV)) from ok a _ e);exact ⟨o,its.toArray,n,h1,h2,h3,by simpa using zhQ r⟩
theorem znV {kvs:List (List Key×V)}(ok:HOk P w H h)(e:Rd H a (.dT kvs)):kvs.length≤sizeLine∧(a == sysModules)=false∧
    ∃ xs,KT H kvs xs∧h.DictOfH (tupleKind (zbr P w)) a xs:=by
  obtain ⟨z,y,xs,r,o,es,ep,h1,h2,h3,h4,h5⟩:=(show za9 P w H h a (.dT kvs) from zqq ok e);refine ⟨z,y,xs,r,o,es,ep,h1,h2,h3,h4,fun x hx=>?_,h5⟩;have all:∀{l:List (List Key×V)} {m:List (List Key×Addr×Value)},KT H l m→∀ x∈m,(tupleKind (zbr P w)).is h x.1 x.2.1:=by
    intro l m q
    induction q with
    | nil=>intro x hx;exact nomatch hx
    | @cons p q ps qs hq t ih=>
      intro x hx;rcases yam.mp hx with e | hx
      · subst e
        exact zjI ok (by rw[← hq.1];exact hq.2.1)
      · exact ih x hx
  exact all r x hx
theorem zrU {kvs:List (List Key×V)}(ok:HOk P w H h)(e:H a=some (.dT kvs)):kvs.length≤sizeLine∧(a == sysModules)=false∧
    ∃ xs,KT H kvs xs∧h.DictOfH (tupleKind (zbr P w)) a xs:=znV ok (.inl e)
end
def DGet (H:Hp)(a:Addr)(y:V)(r:Option V):Prop:=
  (∃ kvs k,Rd H a (.dK kvs)∧y=kV k∧r=valV kvs k)∨∃ kvs k b,Rd H a (.dT kvs)∧y=.ref b∧H b=some (.tup (k.map kV))∧r=valV kvs k
def DPut (H:Hp)(a:Addr)(y v:V)(H':Hp):Prop:=
  (∃ kvs k,H a=some (.dK kvs)∧y=kV k∧kvs.length < sizeLine∧H'=upd H a (.dK (putK kvs k v)))∨
  ∃ kvs k b,H a=some (.dT kvs)∧y=.ref b∧H b=some (.tup (k.map kV))∧kvs.length < sizeLine∧H'=upd H a (.dT (putK kvs k v))
theorem DGet.k {H:Hp}{a:Addr}{kvs:List (Key×V)}{k:Key}(e:H a=some (.dK kvs)):DGet H a (kV k) (valV kvs k):=.inl ⟨kvs,k,.inl e,rfl,rfl⟩
theorem DGet.t {H:Hp}{a b:Addr}{kvs:List (List Key×V)}{k:List Key}(e:H a=some (.dT kvs))(eb:H b=some (.tup (k.map kV))):DGet H a (.ref b) (valV kvs k):=.inr ⟨kvs,k,b,.inl e,rfl,eb,rfl⟩
theorem DPut.k {H:Hp}{a:Addr}{kvs:List (Key×V)}{k:Key}{v:V}(e:H a=some (.dK kvs))(hl:kvs.length < sizeLine):DPut H a (kV k) v (upd H a (.dK (putK kvs k v))):=.inl ⟨kvs,k,e,rfl,hl,rfl⟩
theorem DPut.t {H:Hp}{a b:Addr}{kvs:List (List Key×V)}{k:List Key}{v:V}(e:H a=some (.dT kvs))(eb:H b=some (.tup (k.map kV)))(hl:kvs.length < sizeLine) :
    DPut H a (.ref b) v (upd H a (.dT (putK kvs k v))):=.inr ⟨kvs,k,b,e,rfl,eb,hl,rfl⟩
section
variable {X:Cx}{pins:List (Addr×Obj)}{σ:St}{H:Hp}{s:Shared}{a:Addr}{y v:V}{u r:Value}{o:Option V}{A:Around}{E:Value→Shared→Prop}
theorem Inv.big (I:Inv X pins σ H s):sysModules < s.heap.objs.size:=by
  have h:mainGlobals < s.heap.objs.size:=(I.mod.glob.keeps I.bk).lt;exact Nat.lt_trans (by decide) h
theorem zmw {Q:Value→Shared→Prop}(hu:A.units+1 < cLine)(I:Inv X pins σ H s)(g:DGet H a y (some v))(ry:RelV y u)(h:∀ w' s',Inv X pins σ H s'→RelV v w'→Q w' s') :
    wpAny (model X.prog X.w) A (getItem (.ref a) u) Q E s:=by
  rcases g with ⟨kvs,k,e,ey,l⟩ | ⟨kvs,k,b,e,ey,eb,l⟩
  · subst ey
    obtain ⟨z,hd,vs,rel,dd⟩:=znX I.hok e;obtain ⟨w',hw,rw'⟩:=RelO.some_of (v:=v) (o:=valueAt vs k) (by rw[l];exact rel.val k);exact wpAny_getItem_of (zl5 ry) dd.mapOf hw (h w' _ (I.tok _) rw')
  · subst ey
    cases (show u=Value.ref b from ry)
    obtain ⟨z,hd,xs,rel,dd⟩:=znV I.hok e;obtain ⟨w',hw,rw'⟩:=RelO.some_of (v:=v) (o:=(atKey xs k).map (·.2)) (by rw[l];exact rel.val k);obtain ⟨p,hp,hp2⟩:=ybl.mp hw;refine wpAny_getItem_heap (tupleKind_room_in1 hu) (zjI I.hok eb) dd hp ?_;rw[hp2];exact h w' _ (I.tok _) rw'
theorem zpQ {Q:Value→Shared→Prop}(hu:A.units+1 < cLine)(I:Inv X pins σ H s)(g:DGet H a y o)(ry:RelV y u)(h:∀ s',Inv X pins σ H s'→Q (.bool (!o.isSome)) s') :
    wpAny (model X.prog X.w) A (compareOp .NotIn u (.ref a)) Q E s:=by
  rcases g with ⟨kvs,k,e,ey,l⟩ | ⟨kvs,k,b,e,ey,eb,l⟩
  · subst ey
    obtain ⟨z,hd,vs,rel,dd⟩:=znX I.hok e;refine wpAny_notIn_of (zl5 ry) hd dd.mapOf ?_;rw[← (rel.val k).isSome_eq,← l];exact h _ (I.tok _)
  · subst ey
    cases (show u=Value.ref b from ry)
    obtain ⟨z,hd,xs,rel,dd⟩:=znV I.hok e;refine wpAny_notIn_heap (tupleKind_room_in1 hu) (zjI I.hok eb) hd dd ?_;have q:=(rel.val k).isSome_eq;rw[Option.isSome_map]at q;rw[← q,← l];exact h _ (I.tok _)
theorem ziP {h':Heap}{t':Nat}{ob:HO}(I:Inv X pins σ H s)(mu:Mut (H a))(hs:Heap.SameBut a s.heap h')(he:∃ q,h'.get? a=some q)(new:za9 X.prog X.w (upd H a ob) h' a ob) :
    Inv X pins σ (upd H a ob) { s with heap:=h',toks:=t' }:=
  I.write (x:=a) (e:=a) mu (.inl rfl) (fun b q hb z=>(hs.2 b hb).trans z) he new
theorem zoJ {P:Program}{w:World}{H':Hp}{h':Heap}{kvs:List (Key×V)}{vs:List (Key×Value)}(z:kvs.length≤sizeLine)(hd:(a == sysModules)=false)(rel:KV kvs vs)(dd:h'.DictOf (zbr P w) a vs) :
    za9 P w H' h' a (.dK kvs):=⟨z,hd,vs,rel,dd⟩
theorem zmv {H':Hp}{Q:Unit→Shared→Prop}(hu:A.units+1 < cLine)(I:Inv X pins σ H s)(g:DPut H a y v H')(ry:RelV y u)(rv:RelV v r)(h:∀ s',Inv X pins σ H' s'→Q () s') :
    wpAny (model X.prog X.w) A (setItem (.ref a) u r) Q E s:=by
  rcases g with ⟨kvs,k,e,ey,l,eH⟩ | ⟨kvs,k,b,e,ey,eb,l,eH⟩
  · subst ey eH
    obtain ⟨z,hd,vs,rel,dd⟩:=zrn I.hok e;have hz:vs.length≤sizeLine:=by rw[← rel.length];exact z
    have hl:(putK kvs k v).length≤sizeLine:=by have:=zdT kvs k v;omega
    refine wpAny_setItem_pairs (hsz:=hz) (zl5 ry) dd fun h' dd' hs=>h _ ?_;have he:∃ q,h'.get? a=some q:=let ⟨q,_,_,hq,_⟩:=dd';⟨q,hq⟩;exact ziP I (by rw[e];exact True.intro) hs he (zoJ hl hd (rel.put k rv) dd')
  · subst ey eH
    cases (show u=Value.ref b from ry)
    obtain ⟨z,hd,xs,rel,dd⟩:=zrU I.hok e;have hz:xs.length≤sizeLine:=by rw[← Paired.length rel];exact z
    have hl:(putK kvs k v).length≤sizeLine:=by have:=zdT kvs k v;omega
    refine wpAny_setItem_heap (hsz:=hz) (tupleKind_room_in1 hu) (zjI I.hok eb) dd fun h' dd' hs=>h _ ?_;obtain ⟨q,es,ep,hq,h2,h3,h4,_,h5⟩:=dd';refine ziP I (by rw[e];exact True.intro) hs ⟨q,hq⟩ ⟨hl,hd,_,(rel.put k eb rv).keeps fun c ys ec=>?_,q,es,ep,hq,h2,h3,h4,h5⟩;rw[zag (zqQ ec e (fun z=>nomatch z))];exact ec
end
def NoSl (i:Expr):Prop:=∀ ov iv,subscripted i false ov iv=operate [ov,iv] (getItem ov iv)
theorem zoX {prog:Program}{w:World}{A:Around}{E:Value→Shared→Prop}{s:Shared}{env:Env}{value slice:Expr}{pos:Pos}{T id:String}{Q:Value→Shared→Prop}
    (hl:typeLookup (.type T) "__getitem__" = pure (some (.builtin id))) (hs:NoSl slice)
    (h:wpAny (model prog w) A (eval value env) (fun o s₁=>wpAny (model prog w) A (eval slice env) (fun i s₂=>s₂.TypeIs o T∧wpAny (model prog w) A (getItem o i) Q E s₂) E s₁) E s) :
    wpAny (model prog w) A (eval (.Subscript value slice pos) env) Q E s:=by
  refine Subscript_ (wpAny_mono h (fun o s₁ h₁=>wpAny_mono h₁ (fun i s₂ h₂=>?_) fun _ _ x=>x) fun _ _ x=>x);obtain ⟨hT,h₂⟩:=h₂;unfold subscriptTail;refine wpAny_bind ?_;rw[getitemInPython_of_ne hT.not_modules];refine wpAny_bind (wpAny_specialOf hT hl ?_);have fin:wpAny (model prog w) A (subscripted slice false o i) (fun r s₃=>wpAny (model prog w) A (letTemporaryGo value o r >>= fun _=>pure r) Q E s₃) E s₂:=by
    rw[hs o i];exact wpAny_operating (wpAny_mono h₂ (fun r s₃ h₃=>wpAny_bind (wpAny_letTemporaryGo (wpAny_pure h₃))) fun _ _ x=>x)
  first
    | exact wpAny_pure (wpAny_bind fin)
    | exact wpAny_bind (wpAny_pure (wpAny_bind fin))
    | exact wpAny_bind fin
theorem ziO {X:Cx}{pins:List (Addr×Obj)}{σ:St}{H:Hp}{s:Shared}{a:Addr}{y:V}{o:Option V}(I:Inv X pins σ H s)(g:DGet H a y o):s.TypeIs (.ref a) "dict":=by
  rcases g with ⟨kvs,k,e,_,_⟩ | ⟨kvs,k,b,e,_,_,_⟩
  · obtain ⟨_,_,vs,_,dd⟩:=znX I.hok e
    exact dd.typeIs
  · obtain ⟨_,_,xs,_,dd⟩:=znV I.hok e
    exact dd.typeIs
def zrD (td ty:TE):TE:=fun σ H Q=>td σ H fun x H1=>ty σ H1 fun y H2=>∃ a v,x=.ref a∧DGet H2 a y (some v)∧Q v H2
def zrG (td ty tv:TE):TS:=fun D σ H=>tv σ H fun v H1=>td σ H1 fun x H2=>ty σ H2 fun y H3=>∃ a H4,x=.ref a∧DPut H3 a y v H4∧D.nx σ H4
section
variable {X:Cx}{o i e value:Expr}{pos pos' tpos:Pos}{td ty tv:TE}
theorem zdR (hu:X.A.units+1 < cLine)(ho:PE X o td)(hi:PE X i ty)(hs:NoSl i):PE X (.Subscript o i pos) (zrD td ty):=by
  intro pins s σ H Q I h;refine zoX PySem.F.slot_dict_getitem.lookup hs (thn (ho pins s σ H _ I h) fun u s1 zq0=>?_);obtain ⟨x,H1,I1,rx,q1⟩:=zq0;refine thn (hi pins s1 σ H1 _ I1 q1) fun iv s2 zq1=>?_;obtain ⟨y,H2,I2,ry,a,v,ex,g,q2⟩:=zq1;subst ex;obtain rfl:u=Value.ref a:=rx;exact ⟨ziO I2 g,zmw hu I2 g ry fun w' s3 I3 rw'=>⟨v,H2,I3,rw',q2⟩⟩
theorem zfx (hu:X.A.units+1 < cLine)(ho:PE X o td)(hi:PE X i ty)(hv:PE X value tv)(hs:swapsWith value (some (.Subscript o i pos')) pos.line X.env=pure false) :
    PS X (.Assign [.Subscript o i pos'] value pos) (zrG td ty tv):=by
  intro pins s σ H D I h;refine wpAny_Assign_Subscript (thn (hv pins s σ H _ I h) fun r s1 zq0=>?_) hs;obtain ⟨v,H1,I1,rv,q1⟩:=zq0;refine thn (ho pins s1 σ H1 _ I1 q1) fun u s2 zq1=>?_;obtain ⟨x,H2,I2,rx,q2⟩:=zq1;refine thn (hi pins s2 σ H2 _ I2 q2) fun iv s3 zq2=>?_;obtain ⟨y,H3,I3,ry,a,H4,ex,g,q3⟩:=zq2;subst ex;obtain rfl:u=Value.ref a:=rx;exact zmv hu I3 g ry rv fun s4 I4=>⟨σ,H4,I4,q3⟩
end
theorem zjM {P:Program}{w:World}{H:Hp}(h:Heap)(hb:sysModules < h.objs.size):za9 P w H (h.push { cls:=.type "dict",data:=.dict #[] }) h.objs.size (.dK []):=
  ⟨yaJ _,beq_eq_false_iff_ne.mpr (Ne.symm (yao hb)),[],.nil,Heap.DictOf.new h⟩
theorem znW {P:Program}{w:World}{H:Hp}(h:Heap)(hb:sysModules < h.objs.size):za9 P w H (h.push { cls:=.type "dict",data:=.dict #[] }) h.objs.size (.dT []):=
  ⟨yaJ _,beq_eq_false_iff_ne.mpr (Ne.symm (yao hb)),[],.nil,_,#[],0,yaB _ rfl,⟨rfl,rfl,rfl⟩,rfl,rfl,ybq⟩
def zqc:TE:=fun _ H Q=>∀ p,H p=none→Q (.ref p) (upd H p (.dK []))
def zqb:TE:=fun _ H Q=>∀ p,H p=none→Q (.ref p) (upd H p (.dT []))
section
variable {X:Cx}{pos:Pos}
theorem znd:PE X (.Dict [] [] pos) zqc:=fun pins s σ H Q I h=>
  wpAny_Dict_empty ⟨.ref s.heap.objs.size,_,I.laid (a:=s.heap.objs.size) (o:=.dK []) (t':=s.toks) (fun _ _ q=>yah _ q) (yaa _) (zjM s.heap I.big),rfl,h _ (I.hok.fresh (yaa _))⟩
theorem znc:PE X (.Dict [] [] pos) zqb:=fun pins s σ H Q I h=>
  wpAny_Dict_empty ⟨.ref s.heap.objs.size,_,I.laid (a:=s.heap.objs.size) (o:=.dT []) (t':=s.toks) (fun _ _ q=>yah _ q) (yaa _) (znW s.heap I.big),rfl,h _ (I.hok.fresh (yaa _))⟩
end
def zkW:List (TE×TE)→St→Hp→(List (V×V)→Hp→Prop)→Prop
  | [],_,H,Q=>Q [] H
  | (tk,tv)::r,σ,H,Q=>tk σ H fun x H1=>tv σ H1 fun y H2=>zkW r σ H2 fun ps H3=>Q ((x,y)::ps) H3
abbrev VV:List (V×V)→List (Value×Value)→Prop:=Paired fun p q=>RelV p.1 q.1∧RelV p.2 q.2
def PPs (X:Cx)(pos:Pos)(keys:List (Option Expr))(values:List Expr)(trs:List (TE×TE)):Prop:=
  ∀(pins:List (Addr×Obj)) (s:Shared) (σ:St) (H:Hp) (Q:List (V×V)→Hp→Prop),Inv X pins σ H s→zkW trs σ H Q→
    wpAny (model X.prog X.w) X.A (evalPairs (pairTrees keys values X.env pos)) (fun vs s'=>∃ ps H',Inv X pins σ H' s'∧VV ps vs∧Q ps H') X.xe s
theorem zo9 {X:Cx}{pos:Pos}:PPs X pos [] [] []:=fun pins s σ H Q I h=>pairTrees_nil_walk ⟨[],H,I,.nil,h⟩
theorem zgY {X:Cx}{pos:Pos}{k v:Expr}{ks:List (Option Expr)}{vs:List Expr}{tk tv:TE}{trs:List (TE×TE)}(hk:PE X k tk)(hv:PE X v tv)(hr:PPs X pos ks vs trs) :
    PPs X pos (some k::ks) (v::vs) ((tk,tv)::trs):=fun pins s σ H Q I h=>
  pairTrees_cons_walk (thn (hk pins s σ H _ I h) fun u s1 ⟨x,H1,I1,rx,q1⟩=>thn (hv pins s1 σ H1 _ I1 q1) fun w2 s2 ⟨y,H2,I2,ry,q2⟩=>
    thn (hr pins s2 σ H2 _ I2 q2) fun ws s3 ⟨ps,H3,I3,rel,q3⟩=>⟨(x,y)::ps,H3,I3,.cons ⟨rx,ry⟩ rel,q3⟩)
def zeT (kvs more:List (Key×V)):List (Key×V):=more.foldl (fun acc kv=>putK acc kv.1 kv.2) kvs
theorem KV.merge:∀{more:List (Key×V)} {rs:List (Key×Value)} {kvs:List (Key×V)} {vs:List (Key×Value)},KV more rs→KV kvs vs→KV (zeT kvs more) (merged vs rs):=by
  intro more rs kvs vs r;unfold KV at r
  induction r generalizing kvs vs with
  | nil=>intro q;exact q
  | @cons p q ps qs h t ih=>
    intro r0;have e:KV (putK kvs p.1 p.2) (stored vs q.1 q.2):=by
      have:=r0.put p.1 h.2;rw[← h.1];exact this
    exact ih e
theorem zel:∀(more kvs:List (Key×V)),(zeT kvs more).length≤kvs.length+more.length
  | [],kvs=>by show kvs.length≤kvs.length+0;omega
  | p::r,kvs=>by
    have h1:=zel r (putK kvs p.1 p.2);have h2:=zdT kvs p.1 p.2;show (zeT (putK kvs p.1 p.2) r).length≤_;rw[yaI];omega
theorem zgx {P:Program}{w:World}:∀{kvs:List (Key×V)} {ws:List (Value×Value)},VV (kvs.map fun kv=>(kV kv.1,kv.2)) ws→∃ rs,Carries (zbr P w) ws rs∧KV kvs rs
  | [],_,r=>by rw[ybM]at r;cases r;exact ⟨[],True.intro,.nil⟩
  | p::kvs,_,r=>by
    rw[yau]at r;cases r with
    | @cons a b as bs h t=>
      obtain ⟨rs,c,q⟩:=zgx (P:=P) (w:=w) t;obtain ⟨b1,b2⟩:=b;exact ⟨(p.1,b2)::rs,⟨zl5 h.1,rfl,c⟩,.cons ⟨rfl,h.2⟩ q⟩
def zrC (trs:List (TE×TE)):TE:=fun σ H Q=>∀ p,H p=none→zkW trs σ (upd H p (.dK [])) fun ps H2=>H2 p=some (.dK [])∧∃ kvs:List (Key×V),ps=kvs.map (fun kv=>(kV kv.1,kv.2))∧kvs.length≤15∧Q (.ref p) (upd H2 p (.dK (zeT [] kvs)))
theorem zpe {X:Cx}{pos:Pos}{keys:List (Option Expr)}{values:List Expr}{trs:List (TE×TE)}(h:PPs X pos keys values trs)(hall:keys.all (·.isSome)=true)(hl:keys.length=values.length)(h0:keys≠[])
    (h15:keys.length≤15):PE X (.Dict keys values pos) (zrC trs):=by
  intro pins s σ H Q I q;have hn:=I.hok.fresh (yaa s.heap.objs.size);have I1:=I.laid (a:=s.heap.objs.size) (o:=.dK []) (h':=s.heap.push { cls:=.type "dict",data:=.dict #[] }) (t':=s.toks) (fun _ _ q=>yah _ q) (yaa _) (zjM s.heap I.big);refine wpAny_Dict_walk (knd:=zbr X.prog X.w) hall hl h0 h15 (thn (h pins _ σ _ _ I1 (q _ hn)) fun ws s2 zq0=>?_);obtain ⟨ps,H2,I2,rel,e,kvs,ep,lk,q2⟩:=zq0;subst ep;obtain ⟨rs,c,rk⟩:=zgx (P:=X.prog) (w:=X.w) rel;obtain ⟨z,hd,vs0,r0,dd⟩:=zrn I2.hok e;cases r0
  refine ⟨rs,c,dd,fun h' dd' hs=>⟨.ref s.heap.objs.size,_,?_,rfl,q2⟩⟩;have hz:(zeT [] kvs).length≤sizeLine:=by
    have h1:=zel kvs [];rw[ybp]at h1;rw[sizeLine_eq];omega
  have he:∃ q,h'.get? s.heap.objs.size=some q:=let ⟨q,_,_,hq,_⟩:=dd';⟨q,hq⟩;exact ziP I2 (by rw[e];exact True.intro) hs he (zoJ hz hd (rk.merge .nil) dd')
end L2
namespace Att
open PySem PySem.W PySem.Calls PyProof.Rows
theorem zfK {P:Params}{h:Heap}:∀(ns:List Int) (vs:List Value),WellAll P h vs (ns.map WData.int)→IntsAre vs ns:=by
  intro ns
  induction ns with
  | nil=>
    intro vs w;rw[ybM]at w;cases w
    exact .nil
  | cons n ns ih=>
    intro vs w;rw[yau]at w;cases w with
    | cons a b=>
      cases a
      exact .cons _ _ (ih _ b)
theorem zlh {l:OpenLaw}{n:Nat}(hn:l.most=some n){P:Params}{h:Heap}{args:List WData}{vals:List Value}
    (hpre:l.row.toRowW.claim.pre args=true) (hwl:WellAll P h vals args) :
    ∃ a vs ns,vals=[Value.ref a]∧args=[WData.list (ns.map WData.int)]∧h.get? a=some { cls:=.type "list",data:=.seq vs.toArray }∧IntsAre vs ns∧ns.length≤n:=by
  have hsh:WShape.hasAll [] args [.list .int]=true:=(pre_splitW hpre).1;have hc:l.pre.holds [] { args:=args }=true:=(pre_splitW hpre).2;obtain ⟨d,r,rfl,h1,h2⟩:=hasAllW_cons hsh;obtain rfl:=hasAllW_nil h2;obtain ⟨xs,rfl,h3⟩:=hasW_list h1;obtain ⟨ns,rfl⟩:=items_int h3;have hlen:ns.length≤n:=by
    unfold OpenLaw.pre at hc;have h4:(WTm.not (.lt (.lit (.int (n:Int))) (.len (.arg 0)))).holds [] { args:=[.list (ns.map .int)] }=true:=by
      have h4:=(holds_andW hc).1;rw[hn]at h4;exact h4
    have h5:=condW_of h4 (w_not (w_lt w_lit (w_len_list (w_arg rfl))));rw[yab]at h5;refine Nat.le_of_not_lt fun q=>?_;have q':(n:Int) < ((ns.length:Nat):Int):=by omega
    first
      | (rw[yal q']at h5;exact absurd h5 (by decide))
      | (simp at h5;omega)
  cases hwl with
  | cons w1 w2=>
    cases w2
    cases w1 with
    | list ho hall=>exact ⟨_,_,ns,rfl,rfl,ho,zfK ns _ hall,hlen⟩
theorem zln (l:OpenLaw)(args:List WData):l.row.toRowW.claim.post args (.bool true) args=true:=
  postW_of (r:=l.row.toRowW) (X:=(true == true))
    (show WShape.has [] (.bool true) .bool=true by first | rfl | decide | simp[WShape.has,WShape.arms,WShape.armsAll])
    (show (WTm.eq .res (.lit (.bool true))).value [] { args:=args,res:=some (.bool true),after:=args }=some (.bool (true == true)) from w_eq_bool (w_res rfl) w_lit) rfl
theorem attach_call {l:OpenLaw}{n:Nat}{q:Program}{loose:List Str}{XP:(Str→Option Value)→Heap→Prop}{YP:World→Heap→Prop}{d:DefRec}
    (hn:l.most=some n) (hdf:d.params.defaults=[])
    (call:∀(w:World) (s₀ s₁:Shared) (mg mb:Str→Option Value) (fa:Addr) (o:Obj) (pm cd doc:Value) (a:Addr) (vs:List Value) (ns:List Int),
      Ground q loose [] XP w s₀ mg mb s₁.heap→YP w s₁.heap→
      s₁.heap.get? fa=some o→o.data=.func (docDef d.name d.params d.body d.scope pm cd doc)→s₁.heap.CodeRec cd d.name→mg d.name=some (.ref fa)→
      s₁.heap.get? a=some { cls:=.type "list",data:=.seq vs.toArray }→IntsAre vs ns→ns.length≤n→s₁.gens=#[]→
      codeAny (model l.prog w) callerA (.call (.ref fa) ⟨[.ref a],[]⟩) (fun r s'=>r=.ok (.ret (.bool true))∧OldK s₁.heap s'.heap∧s'.os=s₁.os∧AllBare s'.gens) s₁) :
    WalkO q loose XP YP l.row.toRowW d [] (fun f vs=>PySem.call f vs):=by
  intro w s₀ s₁ mg mb G Y fa o pm cd doc dV kV ho hd hcd hD hmg hg args vals as hpre hlay hrd hwl hlo;obtain rfl:dV=.none:=Dflts.none hD hdf;obtain rfl:kV=.none:=Dflts.noKw hD;obtain ⟨a,vs,ns,rfl,rfl,hobj,hints,hlen⟩:=zlh hn hpre hwl;refine enter_call (codeAny_mono (call w s₀ s₁ mg mb fa o pm cd doc a vs ns G Y ho (fd_plain hd) hcd hmg hobj hints hlen hg) fun r s' hq=>?_);obtain ⟨rfl,h2,h3,h4⟩:=hq;exact ⟨.inl ⟨.bool true,.bool true,[],rfl,fun _=>rfl,.bool true,zln l _,fun _=>⟨List.Pairwise.nil,fun _ hm=>(nomatch hm)⟩⟩,h2,h3,h4⟩
end Att
namespace L2
open PySem PySem.Spec PyProof.Rows
theorem zhr:∀{vs:List Value} {ns:List Int},IntsAre vs ns→Vals (ns.map V.int) vs
  | _,_,.nil=>.nil
  | _,_,.cons n t h=>.cons ⟨t,rfl⟩ (zhr h)
end L2
namespace L2
open PySem PySem.Spec PyProof.Rows
def zdV (s:Stmt)(j:Nat):Stmt:=match s with
  | .ClassDef _ _ _ body _ _ _ _ _ _ _=>body.getD j (.Pass ⟨0,0,0,0⟩)
  | _=>.Pass ⟨0,0,0,0⟩
def zbD (s:Stmt):Arguments:=match s with
  | .FunctionDef _ a _ _ _ _ _ _ _ _=>a
  | _=>{ posonlyargs:=[],args:=[],vararg:=none,kwonlyargs:=[],kw_defaults:=[],kwarg:=none,defaults:=[] }
def zaW (s:Stmt):List Stmt:=match s with
  | .FunctionDef _ _ b _ _ _ _ _ _ _=>b
  | _=>[]
def zah (s:Stmt):Scope:=match s with
  | .FunctionDef _ _ _ _ _ _ sc _ _ _=>sc
  | _=>{ kind:=.function,names:=[],isGenerator:=false,isCoroutine:=false }
abbrev CX0:CXT:=fun _ _ _ _ _ _=>False
abbrev E0:XK:=fun _ _ _=>False
theorem zlq {X:Cx}:zdO CX0 X E0:=fun _ _ _ _ _ _ _ h=>h.elim
structure Fun (K:Frag)(x qual:Str)(st:Stmt)(f:Addr)(fd:FuncData):Prop where
  ex:∃(oc:Value) (od:Option Addr) (kV doc pm:Value) (an:Option Addr) (cdv ct:Value) (osl:Array (Option Value)),
    fd=fnOf x qual (zbD st) (zaW st) (zah st) .none kV doc pm an cdv ct∧K.lookup f=some ⟨oc,od,.func fd,osl⟩∧codeIn K cdv qual=true
  kp:keepIn K (.ref f)=true
section
variable {P:Program}{w:World}{K:Frag}{mg:Str→Option Value}{base:Heap}
theorem Fun.ok {x qual:Str}{st:Stmt}{f:Addr}{fd:FuncData}{N ps:List Str}{k:Nat}{sp:Sp}(F:Fun K x qual st f fd)(S:zap N ps (zah st))(len:∀ vs H Q E,sp vs H Q E→vs.length=ps.length)
    (hbody:∀(cdv:Value) (A:Around) (outer:List Env) (s:Shared) (H:Hp) (vs:List V) (Q:VK) (E:XK),Room k (A.deeper (envOfC qual (zah st) s.heap.objs.size f cdv))→sp vs H Q E→
      ∃ t,PSs (cxOf CX0 P w K mg base N qual (zah st) f cdv A outer s H E).nox (zaW st) t∧t { nx:=fun _ H'=>Q .non H',rt:=Q } (zcO N vs) H):FnOk P w K mg base CX0 (k+1) f fd ps sp:=by
  obtain ⟨oc,od,kV,doc,pm,an,cdv,ct,osl,rfl,lk,hcd⟩:=F.ex;refine znU lk hcd S len fun A outer s H vs Q E hr hsp=>?_;obtain ⟨t,h,q⟩:=hbody cdv A outer s H vs Q E hr hsp;exact ⟨t,h.nox,q⟩
theorem Fun.binds {x qual:Str}{st:Stmt}{f:Addr}{fd:FuncData}{ps:List Str}(F:Fun K x qual st f fd)
    (h:∀(kV doc pm:Value) (an:Option Addr) (cdv ct:Value) (us:List Value),us.length=ps.length→bindArgs (fnOf x qual (zbD st) (zaW st) (zah st) .none kV doc pm an cdv ct) ⟨us,[]⟩=pure (ps.zip us)):zcZ K fd ps []:=by
  obtain ⟨oc,od,kV,doc,pm,an,cdv,ct,osl,rfl,lk,hcd⟩:=F.ex;exact .all (h kV doc pm an cdv ct)
theorem zfM {x qual:Str}{st:Stmt}{f:Addr}{oc:Value}{od an:Option Addr}{osl:Array (Option Value)}{kV doc pm cdv ct:Value}(l:K.lookup f=some ⟨oc,od,.func (fnOf x qual (zbD st) (zaW st) (zah st) .none kV doc pm an cdv ct),osl⟩)
    (c:codeIn K cdv qual=true) (k:keepIn K (.ref f)=true):Fun K x qual st f (fnOf x qual (zbD st) (zaW st) (zah st) .none kV doc pm an cdv ct):=⟨⟨oc,od,kV,doc,pm,an,cdv,ct,osl,rfl,l,c⟩,k⟩
end
theorem zeE {A:Around}{k:Nat}(hr:Room k A):A.units+1 < cLine:=ya2 (ycu (by decide:1≤64) _) hr.units
theorem zaq {n:Nat}(h:n≤1000):n < sizeLine:=ya2 h (by decide)
section
variable {X:Cx}
theorem pv (i:Nat){x:Str}{pos:Pos}(hN:X.N[i]?=some x:=by rfl)(hv:Vis X.env.scope x:=by first | exact Or.inl rfl | exact Or.inr (Or.inl rfl) | exact Or.inr (Or.inr rfl))(hd:(x == ("__debug__" : Str))=false:=by decide)
    (hcd:(x == ("__classdict__" : Str))=false:=by decide):PE X (.Name x pos) (tVar i):=zqy hN hv hd hcd
end
theorem iteF {A B:Prop}(h:B):if false=true then A else B:=by
  rw[if_neg yaz];exact h
theorem iteT {A B:Prop}(h:A):if true=true then A else B:=by
  rw[if_pos rfl];exact h
theorem ite2 {c A B:Prop}[Decidable c](h1:c→A)(h2:¬ c→B):if c then A else B:=by
  by_cases h:c
  · rw[if_pos h]
    exact h1 h
  · rw[if_neg h]
    exact h2 h
theorem zfJ {c A B:Prop}[Decidable c](hc:c)(h:B):if (!decide c)=true then A else B:=by
  rw[yal hc];exact iteF h
def Same (H H':Hp):Prop:=∀ b o,H b=some o→H' b=some o
theorem Same.trans {H H1 H2:Hp}(a:Same H H1)(b:Same H1 H2):Same H H2:=fun c o h=>b c o (a c o h)
theorem Same.free {H H':Hp}(e:Same H H'){l:Addr}(h:H' l=Option.none):H l=Option.none:=by
  cases q:H l with
  | none=>rfl
  | some o=>
    rw[e l o q]at h;cases h
theorem Same.seq {K:Frag}{H H':Hp}{a:Addr}{xs:List V}(e:Same H H')(h:SqL K H a xs):SqL K H' a xs:=by
  rcases h with (h | ⟨o,h⟩) | h
  · exact .inl (.inl (e _ _ h))
  · exact .inl (.inr ⟨o,e _ _ h⟩)
  · exact .inr h
end L2
namespace Tim
open PySem PyProof.Rows
set_option autoImplicit false
section
variable {prog:Program}{w:World}{A:Around}{E:Value→Shared→Prop}{s:Shared}{κ:KeyKind}{kd:SortKind}{a₀:Array Keyed}
def LtG (prog:Program)(w:World)(A:Around)(s:Shared)(κ:KeyKind)(kd:SortKind):Prop:=
 ∀(E:Value→Shared→Prop) (x y:Value) (a b:κ.α) (Q:Bool→Shared→Prop),κ.keyOf x=some a→κ.keyOf y=some b→Q (κ.blt a b) s→wpAny (model prog w) A (keyLt' kd x y) Q E s
def ky (κ:KeyKind)(p:Keyed):κ.α:=(κ.keyOf p.1).getD κ.dflt
def Keyd (κ:KeyKind)(p:Keyed):Prop:=∃ a,κ.keyOf p.1=some a
theorem Keyd.eq {p:Keyed}(h:Keyd κ p):κ.keyOf p.1=some (ky κ p):=by
 obtain ⟨a,e⟩:=h;unfold ky;rw[e];rfl
theorem lt_G {x y:Keyed}{st:SortSt}{Q:Option Bool→SortSt→Prop}(hO:LtG prog w A s κ kd)(hk:kindOf st=kd)(hx:Keyd κ x)(hy:Keyd κ y)(h:Q (some (κ.blt (ky κ x) (ky κ y))) st):wpS (model prog w) A E s (lt' x y) Q st:=by
 rw[lt'_eq];refine wpS_bind (wpS_get ?_);rw[hk];refine wpS_bind (wpS_lift (wpAny_attempt (hO _ x.1 y.1 _ _ _ hx.eq hy.eq ⟨rfl,?_⟩)));exact wpS_pure h
theorem za8 {xs:Array Keyed}{i:Nat}{st:SortSt}{Q:Keyed→SortSt→Prop}(hi:i < xs.size)(h:Q xs[i] st):wpS (model prog w) A E s (elem' xs i) Q st:=by
 rw[elem'_eq,yaW hi];exact wpS_pure h
structure TB (κ:KeyKind)(kd:SortKind)(n:Nat)(st:SortSt):Prop where
 kind:kindOf st=kd
 keys:∀ p∈(arrOf st).toList,Keyd κ p
 failed:failedOf st=none
 size:(arrOf st).size=n
def kAt (κ:KeyKind)(xs:Array Keyed)(i:Nat):κ.α:=match xs[i]? with
 | some p=>ky κ p
 | none=>κ.dflt
theorem zba {xs:Array Keyed}{i:Nat}(h:i < xs.size):kAt κ xs i=ky κ xs[i]:=by
 unfold kAt;rw[yaW h]
theorem zbj {xs ys:Array Keyed}{i j:Nat}(h:xs[i]?=ys[j]?):kAt κ xs i=kAt κ ys j:=by
 unfold kAt;rw[h]
theorem zhP {i j n:Nat}{st:SortSt}{Q:Option Bool→SortSt→Prop}(hO:LtG prog w A s κ kd)(hB:TB κ kd n st)(hi:i < n)(hj:j < n)(h:Q (some (κ.blt (kAt κ (arrOf st) i) (kAt κ (arrOf st) j))) st):wpS (model prog w) A E s (ltAt' i j) Q st:=by
 have hi':i < (arrOf st).size:=by rw[hB.size];exact hi
 have hj':j < (arrOf st).size:=by rw[hB.size];exact hj
 rw[ltAt'_eq];refine wpS_bind (wpS_get ?_);refine wpS_bind (za8 hi' (wpS_bind (za8 hj' ?_)));refine lt_G hO hB.kind (hB.keys _ (by simp)) (hB.keys _ (by simp)) ?_;rw[zba hi',zba hj']at h;exact h
def Up (κ:KeyKind)(xs:Array Keyed)(lo hi:Nat):Prop:=∀ i j,lo≤i→i≤j→j < hi→κ.kle (kAt κ xs i) (kAt κ xs j)
def Dn (κ:KeyKind)(xs:Array Keyed)(lo hi:Nat):Prop:=∀ i j,lo≤i→i≤j→j < hi→κ.kle (kAt κ xs j) (kAt κ xs i)
structure Off (xs ys:Array Keyed)(lo hi:Nat):Prop where
 perm:ys.Perm xs
 out:∀ k,k < lo∨hi≤k→ys[k]?=xs[k]?
theorem Off.refl (xs:Array Keyed)(lo hi:Nat):Off xs xs lo hi:=⟨Array.Perm.refl _,fun _ _=>rfl⟩
theorem Off.trans {xs ys zs:Array Keyed}{lo hi:Nat}(a:Off xs ys lo hi)(b:Off ys zs lo hi):Off xs zs lo hi:=⟨b.perm.trans a.perm,fun k h=>(b.out k h).trans (a.out k h)⟩
theorem Off.wide {xs ys:Array Keyed}{lo hi lo' hi':Nat}(a:Off xs ys lo hi)(h1:lo'≤lo)(h2:hi≤hi'):Off xs ys lo' hi':=⟨a.perm,fun k h=>a.out k (by omega)⟩
theorem Off.size {xs ys:Array Keyed}{lo hi:Nat}(a:Off xs ys lo hi):ys.size=xs.size:=a.perm.size_eq
theorem TB.off {n lo hi:Nat}{st:SortSt}{ys:Array Keyed}(hB:TB κ kd n st)(h:Off (arrOf st) ys lo hi):TB κ kd n (setArr st ys):=
 ⟨hB.kind,fun p hp=>hB.keys p ((ycv.mp h.perm).mem_iff.mp hp),hB.failed,h.size.trans hB.size⟩
theorem zcI {xs:Array Keyed}{i j:Nat}(hj:j≤xs.size):Off xs (mirror xs i j ((j - i) / 2)) i j:=⟨mirror_perm _ _ _ _,fun k hk=>by rw[getElem?_mirror_all hj,if_neg (by omega)]⟩
theorem zeD {xs:Array Keyed}{i j k:Nat}(hj:j≤xs.size)(hk:i≤k∧k < j):kAt κ (mirror xs i j ((j - i) / 2)) k=kAt κ xs (i+j - 1 - k):=by
 apply zbj;rw[getElem?_mirror_all hj,if_pos hk]
theorem ziI {xs ys:Array Keyed}{lo hi k:Nat}(h:Off xs ys lo hi)(hk:k < lo∨hi≤k):kAt κ ys k=kAt κ xs k:=zbj (h.out k hk)
theorem zhf {xs:Array Keyed}{i j:Nat}(hj:j≤xs.size)(he:∀ k,i≤k→k < j→kAt κ xs k=kAt κ xs (j - 1))(k:Nat):kAt κ (mirror xs i j ((j - i) / 2)) k=kAt κ xs k:=by
 by_cases hk:i≤k∧k < j
 ·rw[zeD hj hk,he _ (by omega) (by omega),he k hk.1 hk.2]
 ·exact ziI (zcI hj) (by omega)
theorem zgB {i j:Nat}{st:SortSt}{Q:Unit→SortSt→Prop}(h:Q () (setArr st (mirror (arrOf st) i j ((j - i) / 2)))):wpS (model prog w) A E s (reverseSlice' i j) Q st:=by
 rw[reverseSlice'_eq];exact wpS_modify h
theorem zcN {σ:Type}{n:String}{Q:Unit→σ→Prop}{st:σ}(h:Q () st):wpS (model prog w) A E s (liftM (rule n):StateT σ Sem Unit) Q st:=wpS_lift (wpAny_rule ⟨rfl,h⟩)
end
end Tim
namespace Tim
open PySem PyProof.Rows
set_option autoImplicit false
section
variable {prog:Program}{w:World}{A:Around}{E:Value→Shared→Prop}{s:Shared}{κ:KeyKind}{kd:SortKind}
def zi0 (κ:KeyKind)(st:SortSt)(lo least nrem:Nat)(r:Option Nat)(st':SortSt):Prop:=
 ∃ n ys,r=some n∧least≤n∧n≤nrem∧st'=setArr st ys∧Off (arrOf st) ys lo (lo+n)∧Up κ ys lo (lo+n)
theorem zp4 {xs:Array Keyed}{lo:Nat}:Up κ xs lo (lo+1):=fun i j h1 h2 h3=>by
 have:i=j:=by omega
 subst this;exact KeyOrd.kle_refl _
theorem Up.more {xs:Array Keyed}{lo hi:Nat}(h:Up κ xs lo hi)(hlo:lo < hi)(hn:κ.kle (kAt κ xs (hi - 1)) (kAt κ xs hi)):Up κ xs lo (hi+1):=fun i j h1 h2 h3=>by
 by_cases hj:j < hi
 ·exact h i j h1 h2 hj
 ·have e:j=hi:=by omega
  subst e;by_cases hi':i=j
  ·subst hi';exact KeyOrd.kle_refl _
  ·exact KeyOrd.kle_trans (h i (j - 1) h1 (by omega) (by omega)) hn
theorem Dn.more {xs:Array Keyed}{lo hi:Nat}(h:Dn κ xs lo hi)(hlo:lo < hi)(hn:κ.kle (kAt κ xs hi) (kAt κ xs (hi - 1))):Dn κ xs lo (hi+1):=fun i j h1 h2 h3=>by
 by_cases hj:j < hi
 ·exact h i j h1 h2 hj
 ·have e:j=hi:=by omega
  subst e;by_cases hi':i=j
  ·subst hi';exact KeyOrd.kle_refl _
  ·exact KeyOrd.kle_trans hn (h i (j - 1) h1 (by omega) (by omega))
theorem zod {st:SortSt}{N lo n nrem:Nat}{Q:Option (Option Nat)×Nat→SortSt→Prop}(hO:LtG prog w A s κ kd)(hB:TB κ kd N st)(hlo:lo+nrem≤N)(h1:1≤n)(hn:n≤nrem)(hU:Up κ (arrOf st) lo (lo+n))
  (h:∀ m,n≤m→m≤nrem→Up κ (arrOf st) lo (lo+m)→(m < nrem→κ.klt (kAt κ (arrOf st) (lo+m)) (kAt κ (arrOf st) (lo+m - 1)))→Q (none,m) st) :
  wpS (model prog w) A E s (forIn [n:nrem] ((none,n):Option (Option Nat)×Nat) fun _ __s=>do
   let __x ← ltAt' (lo+__s.snd) (lo+__s.snd - 1)
   match __x with
   | some smaller=>if smaller=true then pure (ForInStep.done (none,__s.snd)) else pure (ForInStep.yield (none,__s.snd+1))
   | _=>pure (ForInStep.done (some none,__s.snd))) Q st:=by
 refine wpS_forRange (I:=fun i c st'=>st'=st∧c=(none,i)∧n≤i∧i≤nrem∧Up κ (arrOf st) lo (lo+i)) ?_ ?_ ⟨rfl,rfl,yaa _,hn,hU⟩
 ·rintro i c st' hi1 hi2 ⟨rfl,rfl,h3,h4,hU'⟩;refine wpS_bind (zhP hO hB (by omega) (by omega) ?_);dsimp only;cases e:κ.blt (kAt κ (arrOf st') (lo+i)) (kAt κ (arrOf st') (lo+i - 1)) with
  | true=>exact wpS_pure (h i h3 h4 hU' fun _=>e)
  | false=>exact wpS_pure ⟨rfl,rfl,by omega,by omega,hU'.more (by omega) e⟩
 ·rintro c st' ⟨rfl,rfl,h3,h4,hU'⟩;exact h _ h3 h4 hU' fun z=>absurd z (by omega)
theorem zkG {st:SortSt}{N lo n nrem:Nat}{Q:Option Nat→SortSt→Prop}{k:Option (Option Nat)×Nat→StateT SortSt Sem (Option Nat)}(hk:∀ m,k (none,m)=pure (some m))(hO:LtG prog w A s κ kd)(hB:TB κ kd N st)(hlo:lo+nrem≤N)(h1:1≤n)(hn:n≤nrem)(hD:Dn κ (arrOf st) lo (lo+n))
  (h:∀ r st',zi0 κ st lo n nrem r st'→Q r st') :
  wpS (model prog w) A E s (do
   reverseSlice' lo (lo+n)
   let c ← forIn [n:nrem] ((none,n):Option (Option Nat)×Nat) fun _ __s=>do
    let __x ← ltAt' (lo+__s.snd) (lo+__s.snd - 1)
    match __x with
    | some smaller=>if smaller=true then pure (ForInStep.done (none,__s.snd)) else pure (ForInStep.yield (none,__s.snd+1))
    | _=>pure (ForInStep.done (some none,__s.snd))
   k c) Q st:=by
 have hz:lo+n≤(arrOf st).size:=by rw[hB.size];omega
 have hoff:=zcI (xs:=arrOf st) (i:=lo) (j:=lo+n) hz;refine wpS_bind (zgB ?_);refine wpS_bind (zod hO (hB.off hoff) hlo h1 hn (fun i j q1 q2 q3=>?_) fun m m1 m2 hU _=>?_)
 ·rw[zeD hz (by omega),zeD hz (by omega)];exact hD _ _ (by omega) (by omega) (by omega)
 ·rw[hk];exact wpS_pure (h _ _ ⟨m,_,rfl,m1,m2,rfl,hoff.wide (yaa _) (by omega),hU⟩)
theorem zkH {st:SortSt}{N lo n nrem:Nat}{Q:Option (Option Nat)×Nat×Nat→SortSt→Prop}(hO:LtG prog w A s κ kd)(hB:TB κ kd N st)(hlo:lo+nrem≤N)(h1:1≤n)(hn:n≤nrem)(hD:Dn κ (arrOf st) lo (lo+n))
  (h:∀ m neq ys,n≤m→m≤nrem→neq < m→Off (arrOf st) ys lo (lo+m)→Dn κ ys lo (lo+m)→(∀ k,lo+m - (neq+1)≤k→k < lo+m→kAt κ ys k=kAt κ ys (lo+m - 1))→Q (none,m,neq) (setArr st ys)) :
  wpS (model prog w) A E s (forIn [n:nrem] ((none,n,0):Option (Option Nat)×Nat×Nat) fun _ __s=>do
   let __x ← ltAt' (lo+__s.snd.fst) (lo+__s.snd.fst - 1)
   match __x with
   | some smaller=>
    if smaller=true then
     if __s.snd.snd > 0 then do
      let _ ← reverseSlice' (lo+__s.snd.fst - (__s.snd.snd+1)) (lo+__s.snd.fst)
      pure (ForInStep.yield (none,__s.snd.fst+1,0))
     else pure (ForInStep.yield (none,__s.snd.fst+1,0))
    else do
     let __x ← ltAt' (lo+__s.snd.fst - 1) (lo+__s.snd.fst)
     match __x with
     | some larger=>
      if larger=true then pure (ForInStep.done (none,__s.snd.fst,__s.snd.snd))
      else pure (ForInStep.yield (none,__s.snd.fst+1,__s.snd.snd+1))
     | _=>pure (ForInStep.done (some none,__s.snd.fst,__s.snd.snd))
   | _=>pure (ForInStep.done (some none,__s.snd.fst,__s.snd.snd))) Q st:=by
 refine wpS_forRange (I:=fun i c st'=>∃ neq ys,st'=setArr st ys∧c=(none,i,neq)∧n≤i∧i≤nrem∧neq < i∧Off (arrOf st) ys lo (lo+i)∧Dn κ ys lo (lo+i)∧∀ k,lo+i - (neq+1)≤k→k < lo+i→kAt κ ys k=kAt κ ys (lo+i - 1)) ?_ ?_ ⟨0,arrOf st,rfl,rfl,yaa _,hn,h1,Off.refl _ _ _,hD,fun k q1 q2=>by rw[show k=lo+n - 1 by omega]⟩
 ·rintro i c st' hi1 hi2 ⟨neq,ys,rfl,rfl,h3,h4,h5,ho,hD',he⟩;have hB':TB κ kd N (setArr st ys):=hB.off ho;have hz:lo+i≤ys.size:=by rw[ho.size,hB.size];omega
  dsimp only;refine wpS_bind (zhP hO hB' (by omega) (by omega) ?_);dsimp only;cases e:κ.blt (kAt κ ys (lo+i)) (kAt κ ys (lo+i - 1)) with
  | true=>
   simp only[if_true];by_cases hq:neq > 0
   ·rw[if_pos hq];have hoff:=zcI (xs:=ys) (i:=lo+i - (neq+1)) (j:=lo+i) hz;have hk:=zhf (κ:=κ) hz he;refine wpS_bind (zgB (wpS_pure ⟨0,_,rfl,rfl,by omega,by omega,by omega,ho.wide (yaa _) (by omega) |>.trans (hoff.wide (by omega) (by omega)),?_,fun k q1 q2=>by rw[show k=lo+(i+1) - 1 by omega]⟩));have:Dn κ (mirror ys (lo+i - (neq+1)) (lo+i) ((lo+i - (lo+i - (neq+1))) / 2)) lo (lo+i):=fun a b q1 q2 q3=>by rw[hk,hk];exact hD' a b q1 q2 q3
    exact this.more (by omega) (by rw[hk,hk];exact KeyOrd.kle_of_klt e)
   ·rw[if_neg hq];exact wpS_pure ⟨0,ys,rfl,rfl,by omega,by omega,by omega,ho.wide (yaa _) (by omega),hD'.more (by omega) (KeyOrd.kle_of_klt e),fun k q1 q2=>by rw[show k=lo+(i+1) - 1 by omega]⟩
  | false=>
   simp only[yaK,if_false];refine wpS_bind (zhP hO hB' (by omega) (by omega) ?_);dsimp only;cases e2:κ.blt (kAt κ ys (lo+i - 1)) (kAt κ ys (lo+i)) with
   | true=>exact wpS_pure (h i neq ys h3 h4 h5 ho hD' he)
   | false=>
    have eq:kAt κ ys (lo+i)=kAt κ ys (lo+i - 1):=κ.total _ _ e e2;refine wpS_pure ⟨neq+1,ys,rfl,rfl,by omega,by omega,by omega,ho.wide (yaa _) (by omega),hD'.more (by omega) (by rw[eq];exact KeyOrd.kle_refl _),fun k q1 q2=>?_⟩;rw[show lo+(i+1) - 1=lo+i by omega,eq];by_cases hk:k=lo+i
    ·rw[hk];exact eq
    ·exact he k (by omega) (by omega)
 ·rintro c st' ⟨neq,ys,rfl,rfl,h3,h4,h5,ho,hD',he⟩;exact h _ neq ys h3 h4 h5 ho hD' he
theorem zi4 {st:SortSt}{N lo n nrem m neq:Nat}{ys:Array Keyed}{Q:Option Nat→SortSt→Prop}{t:StateT SortSt Sem (Option Nat)}(hB:TB κ kd N st)(hlo:lo+nrem≤N)(m1:n+1≤m)(m2:m≤nrem)(m3:neq < m)
  (ho:Off (arrOf st) ys lo (lo+m)) (hD:Dn κ ys lo (lo+m)) (he:∀ k,lo+m - (neq+1)≤k→k < lo+m→kAt κ ys k=kAt κ ys (lo+m - 1)) (h:∀ r st',zi0 κ st lo (n+1) nrem r st'→Q r st')
  (ht:∀ st',TB κ kd N st'→Dn κ (arrOf st') lo (lo+m)→(∀ r st'',zi0 κ st' lo m nrem r st''→Q r st'')→wpS (model prog w) A E s t Q st') :
  wpS (model prog w) A E s (if neq > 0 then do
   let _ ← reverseSlice' (lo+m - (neq+1)) (lo+m)
   t else t) Q (setArr st ys):=by
 have hz:lo+m≤ys.size:=by rw[ho.size,hB.size];omega
 have back:∀ zs,Off (arrOf st) zs lo (lo+m)→∀ r st',zi0 κ (setArr st zs) lo m nrem r st'→Q r st':=fun zs hz r st' hr=>by
  obtain ⟨q,vs,e1,e2,e3,e4,e5,e6⟩:=hr;exact h r st' ⟨q,vs,e1,by omega,e3,e4,(hz.wide (yaa _) (by omega)).trans e5,e6⟩
 by_cases hq:neq > 0
 ·rw[if_pos hq];have hoff:=zcI (xs:=ys) (i:=lo+m - (neq+1)) (j:=lo+m) hz;have hk:=zhf (κ:=κ) hz he;have ho2:=ho.trans (hoff.wide (by omega) (yaa _));refine wpS_bind (zgB ?_);refine ht _ (hB.off ho2) (fun a b q1 q2 q3=>?_) (back _ ho2);show κ.kle (kAt κ (mirror ys (lo+m - (neq+1)) (lo+m) ((lo+m - (lo+m - (neq+1))) / 2)) b) (kAt κ (mirror ys (lo+m - (neq+1)) (lo+m) ((lo+m - (lo+m - (neq+1))) / 2)) a);rw[hk,hk];exact hD a b q1 q2 q3
 ·rw[if_neg hq];exact ht _ (hB.off ho) hD (back _ ho)
theorem zih {st:SortSt}{N lo nrem:Nat}{Q:Option Nat→SortSt→Prop}(hO:LtG prog w A s κ kd)(hB:TB κ kd N st)(hlo:lo+nrem≤N)(h1:1≤nrem)(h:∀ r st',zi0 κ st lo 1 nrem r st'→Q r st') :
  wpS (model prog w) A E s (countRun' lo nrem) Q st:=by
 rw[countRun'_eq];refine wpS_bind (zod hO hB hlo (yaa 1) h1 zp4 fun m m1 m2 hU hnext=>?_);dsimp only;by_cases hm:m=nrem
 ·rw[if_pos (by simpa using hm)];exact wpS_pure (h _ _ ⟨m,arrOf st,rfl,m1,m2,rfl,Off.refl _ _ _,hU⟩)
 ·rw[if_neg (by simpa using hm)];have hnx:=hnext (by omega);by_cases hm1:m > 1
  ·rw[if_pos hm1];refine wpS_bind (zhP hO hB (by omega) (by omega) ?_);cases e:κ.blt (kAt κ (arrOf st) lo) (kAt κ (arrOf st) (lo+m - 1)) with
   | true=>
    simp only[if_true];exact wpS_pure (h _ _ ⟨m,arrOf st,rfl,m1,m2,rfl,Off.refl _ _ _,hU⟩)
   | false=>
    simp only[yaK,if_false];have hz:lo+m≤(arrOf st).size:=by rw[hB.size];omega
    have hoff:=zcI (xs:=arrOf st) (i:=lo) (j:=lo+m) hz;have all:∀ k,lo≤k→k < lo+m→kAt κ (arrOf st) k=kAt κ (arrOf st) (lo+m - 1):=fun k q1 q2=>
     KeyOrd.kle_antisymm (hU k (lo+m - 1) q1 (by omega) (by omega)) (KeyOrd.kle_trans (show κ.kle (kAt κ (arrOf st) (lo+m - 1)) (kAt κ (arrOf st) lo) from e) (hU lo k (yaa _) q1 q2))
    have hk:=zhf (κ:=κ) hz all;refine wpS_bind (zgB ?_);have fin:∀ r st',zi0 κ (setArr st (mirror (arrOf st) lo (lo+m) ((lo+m - lo) / 2))) lo (m+1) nrem r st'→Q r st':=fun r st' hr=>by
     obtain ⟨q,vs,e1,e2,e3,e4,e5,e6⟩:=hr;exact h r st' ⟨q,vs,e1,by omega,e3,e4,(hoff.wide (yaa _) (by omega)).trans e5,e6⟩
    refine wpS_bind (zcN (wpS_bind (zkH hO (hB.off hoff) hlo (by omega) (by omega) ?_ fun m' neq ys p1 p2 p3 ho hD' he=>?_)))
    rotate_left
    ·dsimp only;exact zi4 (n:=m) (hB.off hoff) hlo p1 p2 p3 ho hD' he fin fun st' hB' hDD hh=>zkG (fun _=>rfl) hO hB' hlo (by omega) p2 hDD hh
    ·have d0:Dn κ (arrOf st) lo (lo+m):=fun a b q1 q2 q3=>by rw[all a q1 (by omega),all b (by omega) q3];exact KeyOrd.kle_refl _
     have d1:=d0.more (by omega) (KeyOrd.kle_of_klt hnx);intro a b q1 q2 q3;show κ.kle (kAt κ (mirror (arrOf st) lo (lo+m) ((lo+m - lo) / 2)) b) (kAt κ (mirror (arrOf st) lo (lo+m) ((lo+m - lo) / 2)) a);rw[hk,hk];exact d1 a b q1 q2 (by omega)
  ·rw[if_neg hm1];have e1:m=1:=by omega
   subst e1;have fin:∀ r st',zi0 κ st lo (1+1) nrem r st'→Q r st':=fun r st' hr=>by
    obtain ⟨q,vs,e1,e2,e3,e4,e5,e6⟩:=hr;exact h r st' ⟨q,vs,e1,by omega,e3,e4,e5,e6⟩
   refine wpS_bind (zcN (wpS_bind (zkH hO hB hlo (by omega) (by omega) ?_ fun m' neq ys p1 p2 p3 ho hD' he=>?_)))
   rotate_left
   ·dsimp only;exact zi4 (n:=1) hB hlo p1 p2 p3 ho hD' he fin fun st' hB' hDD hh=>zkG (fun _=>rfl) hO hB' hlo (by omega) p2 hDD hh
   ·intro a b q1 q2 q3;by_cases hab:a=b
    ·subst hab;exact KeyOrd.kle_refl _
    ·have ea:a=lo+1 - 1:=by omega
     have eb:b=lo+1:=by omega
     rw[ea,eb];exact KeyOrd.kle_of_klt hnx
end
end Tim
namespace Tim
open PySem PyProof.Rows
set_option autoImplicit false
section
variable {prog:Program}{w:World}{A:Around}{E:Value→Shared→Prop}{s:Shared}{κ:KeyKind}{kd:SortKind}
theorem zke {xs:Array Keyed}{src dst hi:Nat}(hs:src < xs.size)(hd:dst≤src)(hh:src < hi):Off xs (bubble xs src (src - dst)) dst hi:=
 ⟨bubble_perm _ _ _,fun k hk=>by
  rw[getElem?_bubble hs _ (by omega)];rw[if_neg (by omega),if_neg (by omega)]⟩
theorem zgr {xs:Array Keyed}{src dst:Nat}(hs:src < xs.size)(hd:dst≤src)(k:Nat):kAt κ (bubble xs src (src - dst)) k=if k=dst then kAt κ xs src else if dst < k∧k≤src then kAt κ xs (k - 1) else kAt κ xs k:=by
 have e:=getElem?_bubble hs (src - dst) (by omega) k;rw[show src - (src - dst)=dst by omega]at e;by_cases h1:k=dst
 ·rw[if_pos h1]at e ⊢;exact zbj e
 ·rw[if_neg h1]at e ⊢;by_cases h2:dst < k∧k≤src
  ·rw[if_pos h2]at e ⊢;exact zbj e
  ·rw[if_neg h2]at e ⊢;exact zbj e
theorem zgA {st:SortSt}{N lo n ok:Nat}{Q:Bool→SortSt→Prop}(hO:LtG prog w A s κ kd)(hB:TB κ kd N st)(hlo:lo+n≤N)(hok:ok≤n)(hU:Up κ (arrOf st) lo (lo+ok))
  (h:∀ ys,Off (arrOf st) ys lo (lo+n)→Up κ ys lo (lo+n)→Q true (setArr st ys)):wpS (model prog w) A E s (binarySort' lo n ok) Q st:=by
 rw[binarySort'_eq];refine wpS_bind (wpS_mono (wpS_forRange (I:=fun k c st'=>c=(none,())∧∃ ys,st'=setArr st ys∧Off (arrOf st) ys lo (lo+n)∧Up κ ys lo (lo+min k n))
  (Q:=fun c st'=>c=(none,())∧∃ ys,st'=setArr st ys∧Off (arrOf st) ys lo (lo+n)∧Up κ ys lo (lo+n)) ?step ?fin ?init) ?post)
 case post=>
  rintro c st' ⟨rfl,ys,rfl,ho,hu⟩;exact wpS_pure (h ys ho hu)
 case init=>
  refine ⟨rfl,arrOf st,rfl,Off.refl _ _ _,fun i j h1 h2 h3=>?_⟩;by_cases hz:j < lo+ok
  ·exact hU i j h1 h2 hz
  ·have:i=j:=by omega
   subst this;exact KeyOrd.kle_refl _
 case fin=>
  rintro c st' ⟨rfl,ys,rfl,ho,hu⟩;refine ⟨rfl,ys,rfl,ho,?_⟩;rwa[show min (max (max ok 1) n) n=n by omega]at hu
 case step=>
  rintro k c st' hk1 hk2 ⟨rfl,ys,rfl,ho,hu⟩;rw[show min k n=k by omega]at hu;have hB':TB κ kd N (setArr st ys):=hB.off ho;have hz:ys.size=N:=by rw[ho.size,hB.size]
  refine wpS_bind (wpS_mono (wpS_forRange (I:=fun x c st''=>st''=setArr st ys∧∃ l r,c=(none,l,r)∧l≤r∧r≤k∧r - l≤k - x∧
    (∀ i,i < l→κ.kle (kAt κ ys (lo+i)) (kAt κ ys (lo+k)))∧(∀ i,r≤i→i < k→κ.klt (kAt κ ys (lo+k)) (kAt κ ys (lo+i))))
   (Q:=fun c st''=>st''=setArr st ys∧∃ l r,c=(none,l,r)∧l≤k∧
    (∀ i,i < l→κ.kle (kAt κ ys (lo+i)) (kAt κ ys (lo+k)))∧(∀ i,l≤i→i < k→κ.klt (kAt κ ys (lo+k)) (kAt κ ys (lo+i)))) ?istep ?ifin ?iinit) ?ipost)
  case iinit=>exact ⟨rfl,0,k,rfl,by omega,by omega,by omega,fun i hi=>by omega,fun i h1 h2=>by omega⟩
  case ifin=>
   rintro c st'' ⟨rfl,l,r,rfl,hlr,hrk,hm,a1,a2⟩;have:l=r:=by omega
   subst this;exact ⟨rfl,l,l,rfl,hrk,a1,a2⟩
  case istep=>
   rintro x c st'' _ hxk ⟨rfl,l,r,rfl,hlr,hrk,hm,a1,a2⟩;dsimp only;by_cases hge:l ≥ r
   ·rw[if_pos hge];have:l=r:=by omega
    subst this;exact wpS_pure ⟨rfl,l,l,rfl,hrk,a1,a2⟩
   ·rw[if_neg hge];refine wpS_bind (zhP hO hB' (by omega) (by omega) ?_);dsimp only;cases e:κ.blt (kAt κ ys (lo+k)) (kAt κ ys (lo+(l+r) / 2)) with
    | true=>
     refine wpS_pure ⟨rfl,l,(l+r) / 2,rfl,by omega,by omega,by omega,a1,fun i h1 h2=>?_⟩;exact KeyOrd.klt_of_klt_of_kle e (hu _ _ (by omega) (by omega) (by omega))
    | false=>
     refine wpS_pure ⟨rfl,(l+r) / 2+1,r,rfl,by omega,by omega,by omega,fun i h1=>?_,a2⟩;exact KeyOrd.kle_trans (hu (lo+i) (lo+(l+r) / 2) (by omega) (by omega) (by omega)) (show κ.kle (kAt κ ys (lo+(l+r) / 2)) (kAt κ ys (lo+k)) from e)
  case ipost=>
   rintro c st'' ⟨rfl,l,r,rfl,hlk,a1,a2⟩;dsimp only;rw[moveDown'_eq];refine wpS_bind (wpS_modify (wpS_pure ⟨rfl,_,rfl,ho.trans ((zke (hi:=lo+n) (by rw[hz];omega) (by omega) (by omega)).wide (by omega) (yaa _)),?_⟩));rw[show min (k+1) n=k+1 by omega];intro i j h1 h2 h3;show κ.kle (kAt κ (bubble ys (lo+k) (lo+k - (lo+l))) i) (kAt κ (bubble ys (lo+k) (lo+k - (lo+l))) j);rw[zgr (by rw[hz];omega) (by omega),zgr (by rw[hz];omega) (by omega)];have lowS:∀ i,lo≤i→i < lo+l→κ.kle (kAt κ ys i) (kAt κ ys (lo+k)):=fun i q1 q2=>by
    have:=a1 (i - lo) (by omega);rw[show lo+(i - lo)=i by omega]at this;exact this
   have highS:∀ i,lo+l≤i→i < lo+k→κ.kle (kAt κ ys (lo+k)) (kAt κ ys i):=fun i q1 q2=>by
    have:=a2 (i - lo) (by omega) (by omega);rw[show lo+(i - lo)=i by omega]at this;exact KeyOrd.kle_of_klt this
   by_cases i1:i=lo+l
   ·rw[if_pos i1];by_cases j1:j=lo+l
    ·rw[if_pos j1];exact KeyOrd.kle_refl _
    ·rw[if_neg j1,if_pos (by omega)];exact highS _ (by omega) (by omega)
   ·rw[if_neg i1];by_cases i2:lo+l < i∧i≤lo+k
    ·rw[if_pos i2,if_neg (by omega),if_pos (by omega)];exact hu _ _ (by omega) (by omega) (by omega)
    ·rw[if_neg i2];by_cases j1:j=lo+l
     ·rw[if_pos j1];exact lowS i h1 (by omega)
     ·rw[if_neg j1];by_cases j2:lo+l < j∧j≤lo+k
      ·rw[if_pos j2];exact hu _ _ h1 (by omega) (by omega)
      ·rw[if_neg j2];exact hu _ _ h1 h2 (by omega)
end
end Tim
namespace Tim
open PySem PyProof.Rows
set_option autoImplicit false
section
variable {M:Model}{A:Around}{E:Value→Shared→Prop}{s:Shared}{st:SortSt}{n hint:Nat}{p:Nat→Bool}
abbrev C2:=Option (Option Nat)×Nat×Nat
theorem zmP {Q:C2→SortSt→Prop}{f:Nat→C2→StateT SortSt Sem (ForInStep C2)}(hn:hint < n)(hp:p hint=true)
  (f1:∀ x l o,o ≥ n - hint→f x (none,l,o)=pure (.done (none,l,o)))
  (f2:∀ x l o (R:ForInStep C2→SortSt→Prop),o < n - hint→(p (hint+o)=true→R (.yield (none,o,2 * o+1)) st)→(p (hint+o)=false→R (.done (none,l,o)) st)→wpS M A E s (f x (none,l,o)) R st)
  (h:∀ l o,l < o→hint+l < n→p (hint+l)=true→(o < n - hint→p (hint+o)=false)→Q (none,l,o) st):wpS M A E s (forIn [:n] ((none,0,1):C2) f) Q st:=by
 refine wpS_forRange (I:=fun i c st'=>st'=st∧∃ l o,c=(none,l,o)∧l < o∧i+1≤o∧hint+l < n∧p (hint+l)=true) ?_ ?_ ⟨rfl,0,1,rfl,by omega,by omega,by omega,hp⟩
 ·rintro i c st' _ hi ⟨rfl,l,o,rfl,h1,h2,h3,h4⟩;by_cases ho:o ≥ n - hint
  ·rw[f1 i l o ho];exact wpS_pure (h l o h1 h3 h4 fun z=>absurd z (by omega))
  ·refine f2 i l o _ (by omega) (fun e=>?_) fun e=>?_
   ·exact ⟨rfl,o,2 * o+1,rfl,by omega,by omega,by omega,e⟩
   ·exact h l o h1 h3 h4 fun _=>e
 ·rintro c st' ⟨rfl,l,o,rfl,h1,h2,h3,h4⟩;exact h l o h1 h3 h4 fun z=>absurd z (by omega)
theorem zoN {Q:C2→SortSt→Prop}{f:Nat→C2→StateT SortSt Sem (ForInStep C2)}(hn:hint < n)(hp:p hint=false)
  (f1:∀ x l o,o ≥ hint+1→f x (none,l,o)=pure (.done (none,l,o)))
  (f2:∀ x l o (R:ForInStep C2→SortSt→Prop),o < hint+1→(p (hint - o)=false→R (.yield (none,o,2 * o+1)) st)→(p (hint - o)=true→R (.done (none,l,o)) st)→wpS M A E s (f x (none,l,o)) R st)
  (h:∀ l o,l < o→l≤hint→p (hint - l)=false→(o < hint+1→p (hint - o)=true)→Q (none,l,o) st):wpS M A E s (forIn [:n] ((none,0,1):C2) f) Q st:=by
 refine wpS_forRange (I:=fun i c st'=>st'=st∧∃ l o,c=(none,l,o)∧l < o∧i+1≤o∧l≤hint∧p (hint - l)=false) ?_ ?_ ⟨rfl,0,1,rfl,by omega,by omega,by omega,hp⟩
 ·rintro i c st' _ hi ⟨rfl,l,o,rfl,h1,h2,h3,h4⟩;by_cases ho:o ≥ hint+1
  ·rw[f1 i l o ho];exact wpS_pure (h l o h1 h3 h4 fun z=>absurd z (by omega))
  ·refine f2 i l o _ (by omega) (fun e=>?_) fun e=>?_
   ·exact ⟨rfl,o,2 * o+1,rfl,by omega,by omega,by omega,e⟩
   ·exact h l o h1 h3 h4 fun _=>e
 ·rintro c st' ⟨rfl,l,o,rfl,h1,h2,h3,h4⟩;exact h l o h1 h3 h4 fun z=>absurd z (by omega)
theorem zi3 {Q:Option Nat→SortSt→Prop}{lo hi:Nat}{f:Nat→C2→StateT SortSt Sem (ForInStep C2)}{k:C2→StateT SortSt Sem (Option Nat)}
  (anti:∀ i j,i≤j→j < n→p j=true→p i=true) (h1:lo≤hi) (h2:hi≤n) (hl:∀ i,i < lo→p i=true) (hh:∀ i,hi≤i→i < n→p i=false)
  (f1:∀ x l r,l ≥ r→f x (none,l,r)=pure (.done (none,l,r)))
  (f2:∀ x l r (R:ForInStep C2→SortSt→Prop),l < r→r≤n→(p (l+(r - l) / 2)=true→R (.yield (none,l+(r - l) / 2+1,r)) st)→(p (l+(r - l) / 2)=false→R (.yield (none,l,l+(r - l) / 2)) st)→wpS M A E s (f x (none,l,r)) R st)
  (hk:∀ l r,k (none,l,r)=pure (some r))
  (h:∀ m,m≤n→(∀ i,i < m→p i=true)→(∀ i,m≤i→i < n→p i=false)→Q (some m) st):wpS M A E s (do let c ← forIn [:n] ((none,lo,hi):C2) f;k c) Q st:=by
 refine wpS_bind (wpS_mono (wpS_forRange (I:=fun x c st'=>st'=st∧∃ l r,c=(none,l,r)∧l≤r∧r≤n∧r - l≤n - x∧(∀ i,i < l→p i=true)∧∀ i,r≤i→i < n→p i=false)
  (Q:=fun c st'=>st'=st∧∃ m,c=(none,m,m)∧m≤n∧(∀ i,i < m→p i=true)∧∀ i,m≤i→i < n→p i=false) ?_ ?_ ⟨rfl,lo,hi,rfl,h1,h2,by omega,hl,hh⟩) ?_)
 ·rintro x c st' _ hx ⟨rfl,l,r,rfl,a1,a2,a3,a4,a5⟩;by_cases hge:l ≥ r
  ·rw[f1 x l r hge];have:l=r:=by omega
   subst this;exact wpS_pure ⟨rfl,l,rfl,a2,a4,a5⟩
  ·refine f2 x l r _ (by omega) a2 (fun e=>?_) fun e=>?_
   ·exact ⟨rfl,_,r,rfl,by omega,a2,by omega,fun i hi=>anti i _ (by omega) (by omega) e,a5⟩
   ·refine ⟨rfl,l,_,rfl,by omega,by omega,by omega,a4,fun i q1 q2=>?_⟩;cases z:p i with
    | false=>rfl
    | true=>rw[anti _ i q1 q2 z]at e;cases e
 ·rintro c st' ⟨rfl,l,r,rfl,a1,a2,a3,a4,a5⟩;have:l=r:=by omega
  subst this;exact ⟨rfl,l,rfl,a2,a4,a5⟩
 ·rintro c st' ⟨rfl,m,rfl,a2,a4,a5⟩;rw[hk];exact wpS_pure (h m a2 a4 a5)
end
def ziK:Bool→Keyed→Array Keyed→Nat→Nat→Nat→StateT SortSt Sem (Option Nat):=sortPriv% PySem.Builtin.gallop
section
variable {prog:Program}{w:World}{A:Around}{E:Value→Shared→Prop}{s:Shared}{κ:KeyKind}{kd:SortKind}
def bey (κ:KeyKind)(left:Bool)(key:Keyed)(arr:Array Keyed)(base i:Nat):Bool:=if left=true then κ.blt (kAt κ arr (base+i)) (ky κ key) else !κ.blt (ky κ key) (kAt κ arr (base+i))
theorem zcC {st:SortSt}{left:Bool}{key:Keyed}{arr:Array Keyed}{base n hint:Nat}{Q:Option Nat→SortSt→Prop}(hO:LtG prog w A s κ kd)(hkd:kindOf st=kd)(hkey:Keyd κ key)(hks:∀ q∈arr.toList,Keyd κ q)
  (hz:base+n≤arr.size) (hn:hint < n) (hU:Up κ arr base (base+n))
  (h:∀ m,m≤n→(∀ i,i < m→bey κ left key arr base i=true)→(∀ i,m≤i→i < n→bey κ left key arr base i=false)→Q (some m) st):wpS (model prog w) A E s (ziK left key arr base n hint) Q st:=by
 have anti:∀ i j,i≤j→j < n→bey κ left key arr base j=true→bey κ left key arr base i=true:=by
  intro i j hij hj;have hle:=hU (base+i) (base+j) (by omega) (by omega) (by omega);unfold bey;cases left with
  | true=>
   simp only[if_true];intro e;exact KeyOrd.klt_of_kle_of_klt hle e
  | false=>
   simp only[yaK,if_false];intro e;cases z:κ.blt (ky κ key) (kAt κ arr (base+i)) with
   | false=>rfl
   | true=>
    have:κ.blt (ky κ key) (kAt κ arr (base+j))=true:=KeyOrd.klt_of_klt_of_kle z hle;rw[this]at e;cases e
 have hb:∀ i (R:Option Bool→SortSt→Prop),i < n→R (some (bey κ left key arr base i)) st→wpS (model prog w) A E s (do
   let x ← elem' arr (base+i)
   if left=true then lt' x key else do
    let r ← lt' key x
    pure (Option.map (fun b=>!b) r)) R st:=fun i R hi hR=>by
  have hi':base+i < arr.size:=by omega
  refine wpS_bind (za8 hi' ?_);have hkx:Keyd κ arr[base+i]:=hks _ (by simp);unfold bey at hR;rw[zba hi']at hR;cases left with
  | true=>
   rw[if_pos rfl]at hR ⊢;exact lt_G hO hkd hkx hkey hR
  | false=>
   rw[if_neg (by decide)]at hR ⊢;exact wpS_bind (lt_G hO hkd hkey hkx (wpS_pure hR))
 refine wpS_bind (hb hint _ hn ?_);dsimp only;generalize bey κ left key arr base=p at *;cases e0:p hint with
 | true=>
  simp only[if_true];refine wpS_bind (zmP (p:=p) hn e0 (fun x l o ho=>?_) (fun x l o R ho r1 r2=>?_) fun l o a1 a2 a3 a4=>?_)
  ·dsimp only;rw[if_pos ho]
  ·dsimp only;rw[if_neg (by omega)];refine wpS_bind (hb (hint+o) _ (by omega) ?_);dsimp only;cases e:p (hint+o) with
   | true=>exact wpS_pure (r1 e)
   | false=>exact wpS_pure (r2 e)
  ·dsimp only;refine zi3 (p:=p) anti (by omega) (by omega) (fun i hi=>anti i (hint+l) (by omega) a2 a3) (fun i q1 q2=>?_) (fun x l r hge=>?_) (fun x l r R q1 q2 r1 r2=>?_) (fun _ _=>rfl) h
   ·by_cases ho:o < n - hint
    ·cases z:p i with
     | false=>rfl
     | true=>
      have:=anti (hint+o) i (by omega) q2 z;rw[a4 ho]at this;cases this
    ·exact absurd q2 (by omega)
   ·dsimp only;rw[if_pos hge]
   ·dsimp only;rw[if_neg (by omega)];refine wpS_bind (hb _ _ (by omega) ?_);dsimp only;cases e:p (l+(r - l) / 2) with
    | true=>exact wpS_pure (r1 e)
    | false=>exact wpS_pure (r2 e)
 | false=>
  simp only[yaK,if_false];refine wpS_bind (zoN (p:=p) hn e0 (fun x l o ho=>?_) (fun x l o R ho r1 r2=>?_) fun l o a1 a2 a3 a4=>?_)
  ·dsimp only;rw[if_pos ho]
  ·dsimp only;rw[if_neg (by omega)];refine wpS_bind (hb (hint - o) _ (by omega) ?_);dsimp only;cases e:p (hint - o) with
   | true=>exact wpS_pure (r2 e)
   | false=>exact wpS_pure (r1 e)
  ·dsimp only;refine zi3 (p:=p) anti (by omega) (by omega) (fun i hi=>?_) (fun i q1 q2=>?_) (fun x l r hge=>?_) (fun x l r R q1 q2 r1 r2=>?_) (fun _ _=>rfl) h
   ·by_cases ho:o < hint+1
    ·exact anti i (hint - o) (by omega) (by omega) (a4 ho)
    ·exact absurd hi (by omega)
   ·cases z:p i with
    | false=>rfl
    | true=>
     have:=anti (hint - l) i (by omega) q2 z;rw[a3]at this;cases this
   ·dsimp only;rw[if_pos hge]
   ·dsimp only;rw[if_neg (by omega)];refine wpS_bind (hb _ _ (by omega) ?_);dsimp only;cases e:p (l+(r - l) / 2) with
    | true=>exact wpS_pure (r1 e)
    | false=>exact wpS_pure (r2 e)
end
end Tim
namespace Tim
open PySem PyProof.Rows
set_option autoImplicit false
section
variable {κ:KeyKind}
def le (κ:KeyKind)(x y:Keyed):Prop:=κ.kle (ky κ x) (ky κ y)
theorem le_refl (x:Keyed):le κ x x:=KeyOrd.kle_refl _
theorem le_trans {x y z:Keyed}(h1:le κ x y)(h2:le κ y z):le κ x z:=KeyOrd.kle_trans h1 h2
abbrev SL (κ:KeyKind)(l:List Keyed):Prop:=l.Pairwise (le κ)
theorem SL.drop {l:List Keyed}(h:SL κ l)(n:Nat):SL κ (l.drop n):=h.sublist (yb6 n l)
theorem SL.take {l:List Keyed}(h:SL κ l)(n:Nat):SL κ (l.take n):=h.sublist (List.take_sublist n l)
theorem zep {xs:Array Keyed}{i:Nat}(h:i < xs.size):xs.toList.drop i=xs[i]::xs.toList.drop (i+1):=by
 have h':i < xs.toList.length:=by simpa using h
 rw[yb7 h'];simp
theorem zdf {xs:Array Keyed}{i:Nat}(hs:SL κ xs.toList)(h:i < xs.size):∀ y∈xs.toList.drop i,le κ xs[i] y:=by
 intro y hy;have q:=hs.drop i;rw[zep h]at q hy;rcases yam.mp hy with rfl | hy
 ·exact le_refl _
 ·exact (yb8.mp q).1 y hy
theorem zd2 {xs:Array Keyed}{i k:Nat}{x:Keyed}(h:x∈(xs.toList.drop i).take k):∃ j,j < k∧i+j < xs.size∧xs[i+j]?=some x:=by
 obtain ⟨j,hj,e⟩:=List.mem_iff_getElem.mp h;have hj':=hj;rw[yan,yaN,yav]at hj';refine ⟨j,by omega,by omega,?_⟩;rw[List.getElem_take,List.getElem_drop]at e;rw[yaW (by omega)];simpa using e
theorem zcY {xs:Array Keyed}{i:Nat}{x:Keyed}(h:xs[i]?=some x):kAt κ xs i=ky κ x:=by
 unfold kAt;rw[h]
theorem zgD {xs:Array Keyed}(hs:SL κ xs.toList)(lo hi:Nat)(hh:hi≤xs.size):Up κ xs lo hi:=by
 intro i j h1 h2 h3;have hj:j < xs.size:=by omega
 have hi:i < xs.size:=by omega
 rw[zba hi,zba hj];refine zdf hs hi _ ?_;rw[List.mem_iff_getElem];refine ⟨j - i,by rw[yaN,yav];omega,?_⟩;rw[List.getElem_drop];simp[show i+(j - i)=j by omega]
theorem zpx {xs:Array Keyed}(h:Up κ xs 0 xs.size):SL κ xs.toList:=by
 rw[SL,ybd];intro i j hi hj hij;have hi':i < xs.size:=by simpa using hi
 have hj':j < xs.size:=by simpa using hj
 have:=h i j (yaJ _) (by omega) hj';rw[zba hi',zba hj']at this;simpa [le] using this
structure MI (κ:KeyKind)(a b:Array Keyed)(out:Array Keyed)(ia ib:Nat):Prop where
 perm:(out.toList++(a.toList.drop ia++b.toList.drop ib)).Perm (a.toList++b.toList)
 srt:SL κ out.toList
 low:∀ x∈out.toList,∀ y∈a.toList.drop ia++b.toList.drop ib,le κ x y
variable {a b out:Array Keyed}{ia ib:Nat}
theorem MI.goA {out':Array Keyed}{k:Nat}(h:MI κ a b out ia ib)(sa:SL κ a.toList)(ho:out'.toList=out.toList++(a.toList.drop ia).take k)(hle:∀ x∈(a.toList.drop ia).take k,∀ y∈b.toList.drop ib,le κ x y):MI κ a b out' (ia+k) ib:=by
 have e:a.toList.drop ia=(a.toList.drop ia).take k++a.toList.drop (ia+k):=by
  rw[← ybz,yaO]
 have s1:=sa.drop ia;rw[e]at s1;obtain ⟨p1,p2,p3⟩:=yaE.mp s1;refine ⟨?_,?_,?_⟩
 ·have q:=h.perm;rw[e]at q;rw[ho];simpa [yaL] using q
 ·rw[ho];exact yaE.mpr ⟨h.srt,p1,fun x hx y hy=>h.low x hx y (yaT _ (ybA hy))⟩
 ·intro x hx y hy;rw[ho]at hx;rcases yaj.mp hx with hx | hx
  ·refine h.low x hx y ?_;rcases yaj.mp hy with hy | hy
   ·refine yaT _ ?_;rw[e];exact yaC _ hy
   ·exact yaC _ hy
  ·rcases yaj.mp hy with hy | hy
   ·exact p3 x hx y hy
   ·exact hle x hx y hy
theorem MI.goB {out':Array Keyed}{k:Nat}(h:MI κ a b out ia ib)(sb:SL κ b.toList)(ho:out'.toList=out.toList++(b.toList.drop ib).take k)(hle:∀ x∈(b.toList.drop ib).take k,∀ y∈a.toList.drop ia,le κ x y):MI κ a b out' ia (ib+k):=by
 have e:b.toList.drop ib=(b.toList.drop ib).take k++b.toList.drop (ib+k):=by
  rw[← ybz,yaO]
 have s1:=sb.drop ib;rw[e]at s1;obtain ⟨p1,p2,p3⟩:=yaE.mp s1;refine ⟨?_,?_,?_⟩
 ·have q:=h.perm;rw[e]at q;rw[ho];refine List.Perm.trans ?_ q;rw[yaL];refine List.Perm.append_left _ ?_;rw[← yaL,← yaL];exact List.Perm.append_right _ ybN
 ·rw[ho];exact yaE.mpr ⟨h.srt,p1,fun x hx y hy=>h.low x hx y (yaC _ (ybA hy))⟩
 ·intro x hx y hy;rw[ho]at hx;rcases yaj.mp hx with hx | hx
  ·refine h.low x hx y ?_;rcases yaj.mp hy with hy | hy
   ·exact yaT _ hy
   ·refine yaC _ ?_;rw[e];exact yaC _ hy
  ·rcases yaj.mp hy with hy | hy
   ·exact hle x hx y hy
   ·exact p3 x hx y hy
theorem zd1 {xs:Array Keyed}{i:Nat}(h:i < xs.size):(xs.toList.drop i).take 1=[xs[i]]:=by
 rw[zep h];rfl
theorem MI.pa (h:MI κ a b out ia ib)(sa:SL κ a.toList)(hia:ia < a.size)(hle:∀ y∈b.toList.drop ib,le κ a[ia] y):MI κ a b (out.push a[ia]) (ia+1) ib:=
 h.goA (k:=1) sa (by rw[zd1 hia,ybO]) (by
  rw[zd1 hia];intro x hx;rw[yag.mp hx];exact hle)
theorem MI.pb (h:MI κ a b out ia ib)(sb:SL κ b.toList)(hib:ib < b.size)(hle:∀ y∈a.toList.drop ia,le κ b[ib] y):MI κ a b (out.push b[ib]) ia (ib+1):=
 h.goB (k:=1) sb (by rw[zd1 hib,ybO]) (by
  rw[zd1 hib];intro x hx;rw[yag.mp hx];exact hle)
structure zb1 (κ:KeyKind)(a b m:Array Keyed):Prop where
 perm:m.toList.Perm (a.toList++b.toList)
 srt:SL κ m.toList
theorem zeH {xs:Array Keyed}{i k:Nat}:(xs.extract i (i+k)).toList=(xs.toList.drop i).take k:=by
 rw[yb9,yca,Nat.add_sub_cancel_left]
theorem zeI {xs:Array Keyed}{i:Nat}:(xs.extract i xs.size).toList=xs.toList.drop i:=by
 rw[yb9,yca];exact yas (by rw[yaN,yav];exact yaa _)
theorem MI.done (h:MI κ a b out ia ib)(sa:SL κ a.toList)(hib:b.size≤ib):zb1 κ a b (out++a.extract ia a.size++b.extract ib b.size):=by
 have e:b.toList.drop ib=[]:=yaX (by rw[yav];exact hib);have e2:(out++a.extract ia a.size++b.extract ib b.size).toList=out.toList++(a.toList.drop ia++b.toList.drop ib):=by
  rw[yaP,yaP,zeI,zeI,yaL]
 refine ⟨by rw[e2];exact h.perm,?_⟩;rw[e2,e,yay];refine yaE.mpr ⟨h.srt,sa.drop ia,fun x hx y hy=>h.low x hx y (yaT _ hy)⟩
theorem MI.doneA (h:MI κ a b out ia ib)(sb:SL κ b.toList)(hia:a.size≤ia):zb1 κ a b (out++a.extract ia a.size++b.extract ib b.size):=by
 have e:a.toList.drop ia=[]:=yaX (by rw[yav];exact hia);have e2:(out++a.extract ia a.size++b.extract ib b.size).toList=out.toList++(a.toList.drop ia++b.toList.drop ib):=by
  rw[yaP,yaP,zeI,zeI,yaL]
 refine ⟨by rw[e2];exact h.perm,?_⟩;rw[e2,e,List.nil_append];refine yaE.mpr ⟨h.srt,sb.drop ib,fun x hx y hy=>h.low x hx y (yaC _ hy)⟩
theorem MI.last (h:MI κ a b out ia ib)(sa:SL κ a.toList)(sb:SL κ b.toList)(hl:∀ y∈b.toList,∀ x∈a.toList.drop ia,le κ y x):zb1 κ a b (out++b.extract ib b.size++a.extract ia a.size):=by
 have e2:(out++b.extract ib b.size++a.extract ia a.size).toList=out.toList++(b.toList.drop ib++a.toList.drop ia):=by
  rw[yaP,yaP,zeI,zeI,yaL]
 refine ⟨?_,?_⟩
 ·rw[e2];exact (List.Perm.append_left _ ybN).trans h.perm
 ·rw[e2];refine yaE.mpr ⟨h.srt,yaE.mpr ⟨sb.drop ib,sa.drop ia,fun x hx y hy=>hl x (ybB hx) y hy⟩,fun x hx y hy=>h.low x hx y ?_⟩;rcases yaj.mp hy with q | q
  ·exact yaC _ q
  ·exact yaT _ q
end
end Tim
namespace Tim
open PySem PyProof.Rows
set_option autoImplicit false
def zjB:Array Keyed→Array Keyed→StateT SortSt Sem (Array Keyed):=sortPriv% PySem.Builtin.mergeLo
def zj2:Nat→StateT SortSt Sem Unit:=sortPriv% PySem.Builtin.setMinGallop
structure SG (st st':SortSt):Prop where
 kind:kindOf st'=kindOf st
 arr:arrOf st'=arrOf st
 pend:pendingOf st'=pendingOf st
 failed:failedOf st'=failedOf st
theorem SG.refl (st:SortSt):SG st st:=⟨rfl,rfl,rfl,rfl⟩
theorem SG.trans {s1 s2 s3:SortSt}(h:SG s1 s2)(g:SG s2 s3):SG s1 s3:=⟨g.kind.trans h.kind,g.arr.trans h.arr,g.pend.trans h.pend,g.failed.trans h.failed⟩
section
variable {prog:Program}{w:World}{A:Around}{E:Value→Shared→Prop}{s:Shared}{κ:KeyKind}{kd:SortKind}
theorem zcn {g:Nat}{st st0:SortSt}{Q:Unit→SortSt→Prop}(hg:SG st0 st)(h:∀ st',SG st0 st'→Q () st'):wpS (model prog w) A E s (zj2 g) Q st:=by
 refine wpS_modify (h _ (hg.trans ⟨rfl,rfl,rfl,rfl⟩))
theorem mp2 {P g:Prop}(k:P)(m:P→g):g:=m k
set_option maxHeartbeats 4000000 in
theorem zjU {st:SortSt}{a b:Array Keyed}{Q:Array Keyed→SortSt→Prop}(hO:LtG prog w A s κ kd)(hkd:kindOf st=kd)(ka:∀ q∈a.toList,Keyd κ q)(kb:∀ q∈b.toList,Keyd κ q)(sa:SL κ a.toList)(sb:SL κ b.toList)
  (ha:0 < a.size) (hb:0 < b.size) (h0:∀ y∈a.toList,le κ b[0] y) (hl:∀ y∈b.toList,∀ i,i+1=a.size→∀ x∈a.toList.drop i,le κ y x)
  (h:∀ m st',zb1 κ a b m→SG st st'→Q m st'):wpS (model prog w) A E s (zjB a b) Q st:=by
 have m0:MI κ a b #[b[0]] 0 1:=by
  have z:MI κ a b #[] 0 0:=⟨by simp,by simp,by simp⟩;have:=z.pb sb hb (by simpa using h0);simpa using this
 refine wpS_bind (zcN ?_);dsimp only;refine wpS_bind (za8 hb ?_);by_cases e1:1=b.size
 ·rw[if_pos (by simpa using e1)];exact wpS_pure (h _ _ (m0.done sa (by omega)) (SG.refl st))
 rw[if_neg (by simpa using e1)];by_cases e2:0+1=a.size
 ·rw[if_pos (by simpa using e2)];exact wpS_pure (h _ _ (m0.last sa sb (fun y hy x hx=>hl y hy 0 e2 x hx)) (SG.refl st))
 rw[if_neg (by simpa using e2)];refine wpS_bind (wpS_get ?_);refine wpS_bind (wpS_mono (wpS_forRange (I:=fun i c st'=>SG st st'∧∃ out ia ib g,c=(none,out,ia,ib,g)∧MI κ a b out ia ib∧ia+1 < a.size∧ib < b.size∧i+1≤ia+ib)
  (Q:=fun c st'=>SG st st'∧∃ m r,c=(some m,r)∧zb1 κ a b m) ?step ?fin ⟨SG.refl st,_,0,1,_,rfl,m0,by omega,by omega,by omega⟩) ?post)
 case post=>
  rintro c st' ⟨g,m,r,rfl,hm⟩;exact wpS_pure (h m st' hm g)
 case fin=>
  rintro c st' ⟨g,out,ia,ib,gg,rfl,hm,q1,q2,q3⟩;exact absurd q3 (by omega)
 case step=>
  rintro i c st1 _ hi ⟨g1,out,ia,ib,gg,rfl,hm,q1,q2,q3⟩;dsimp only;refine wpS_bind (wpS_mono (wpS_forRange (I:=fun x c st'=>st'=st1∧∃ out' ia' ib' ca cb,c=(none,out',ia',ib',ca,cb)∧MI κ a b out' ia' ib'∧ia'+1 < a.size∧ib' < b.size∧ia+ib+x≤ia'+ib')
   (Q:=fun c st'=>st'=st1∧((∃ m r,c=(some m,r)∧zb1 κ a b m)∨∃ out' ia' ib' ca cb,c=(none,out',ia',ib',ca,cb)∧MI κ a b out' ia' ib'∧ia'+1 < a.size∧ib' < b.size∧ia+ib+1≤ia'+ib')) ?istep ?ifin ⟨rfl,out,ia,ib,0,0,rfl,hm,q1,q2,by omega⟩) ?ipost)
  case ifin=>
   rintro c st' ⟨rfl,out',ia',ib',ca,cb,rfl,hm',r1,r2,r3⟩;exact ⟨rfl,.inr ⟨out',ia',ib',ca,cb,rfl,hm',r1,r2,by omega⟩⟩
  case istep=>
   rintro x c st' _ hx ⟨rfl,out',ia',ib',ca,cb,rfl,hm',r1,r2,r3⟩;dsimp only;refine wpS_bind (za8 r2 (wpS_bind (za8 (show ia' < a.size by omega) (wpS_bind (lt_G hO (by rw[g1.kind];exact hkd) (kb _ (by simp)) (ka _ (by simp)) ?_)))));dsimp only;cases e:κ.blt (ky κ b[ib']) (ky κ (a[ia']'(by omega))) with
   | true=>
    simp only[if_true];have hm2:=hm'.pb sb r2 (fun y hy=>le_trans (show le κ b[ib'] (a[ia']'(by omega)) from KeyOrd.kle_of_klt e) (zdf sa (by omega) y hy));refine wpS_bind (za8 r2 ?_);by_cases z:ib'+1=b.size
    ·rw[if_pos (by simpa using z)];exact wpS_pure ⟨rfl,.inl ⟨_,_,rfl,hm2.done sa (by omega)⟩⟩
    ·rw[if_neg (by simpa using z)];split
     ·exact wpS_pure ⟨rfl,.inr ⟨_,_,_,_,_,rfl,hm2,by omega,by omega,by omega⟩⟩
     ·exact wpS_pure ⟨rfl,_,_,_,_,_,rfl,hm2,by omega,by omega,by omega⟩
   | false=>
    simp only[yaK,if_false];have hm2:=hm'.pa sa (show ia' < a.size by omega) (fun y hy=>le_trans (show le κ (a[ia']'(by omega)) b[ib'] from e) (zdf sb r2 y hy));refine wpS_bind (za8 (show ia' < a.size by omega) ?_);by_cases z:ia'+1+1=a.size
    ·rw[if_pos (by simpa using z)];exact wpS_pure ⟨rfl,.inl ⟨_,_,rfl,hm2.last sa sb (fun y hy x hx=>hl y hy _ z x hx)⟩⟩
    ·rw[if_neg (by simpa using z)];split
     ·exact wpS_pure ⟨rfl,.inr ⟨_,_,_,_,_,rfl,hm2,by omega,by omega,by omega⟩⟩
     ·exact wpS_pure ⟨rfl,_,_,_,_,_,rfl,hm2,by omega,by omega,by omega⟩
  case ipost=>
   rintro c st' ⟨rfl,⟨m,r,rfl,hmm⟩ | ⟨out,ia',ib',ca,cb,rfl,hm,q1,q2,q4⟩⟩
   ·exact wpS_pure ⟨g1,m,_,rfl,hmm⟩
   dsimp only;refine wpS_bind (zcN ?_);refine wpS_bind (wpS_mono (wpS_forRange (I:=fun x c st''=>SG st st''∧∃ out1 ia1 ib1 gg ca cb,c=(none,out1,ia1,ib1,gg,ca,cb)∧MI κ a b out1 ia1 ib1∧ia1+1 < a.size∧ib1 < b.size∧ia+ib+1≤ia1+ib1)
    (Q:=fun c st''=>SG st st''∧((∃ m r,c=(some m,r)∧zb1 κ a b m)∨∃ out1 ia1 ib1 gg ca cb,c=(none,out1,ia1,ib1,gg,ca,cb)∧MI κ a b out1 ia1 ib1∧ia1+1 < a.size∧ib1 < b.size∧ia+ib+1≤ia1+ib1)) ?jstep ?jfin ⟨g1,_,_,_,_,_,_,rfl,hm,q1,q2,q4⟩) ?jpost)
   case jfin=>
    rintro c st'' ⟨g2,out1,ia1,ib1,gg1,ca1,cb1,rfl,r⟩;exact ⟨g2,.inr ⟨_,_,_,_,_,_,rfl,r⟩⟩
   case jpost=>
    rintro c st'' ⟨g2,⟨m,r,rfl,hmm⟩ | ⟨out1,ia1,ib1,gg1,ca1,cb1,rfl,hm1,t1,t2,t3⟩⟩
    ·exact wpS_pure ⟨g2,m,_,rfl,hmm⟩
    ·dsimp only;exact wpS_bind (zcn g2 fun st3 g3=>wpS_pure ⟨g3,_,_,_,_,rfl,hm1,t1,t2,by omega⟩)
   case jstep=>
    rintro x c st'' _ hx ⟨g2,out1,ia1,ib1,gg1,ca1,cb1,rfl,hm1,t1,t2,t3⟩;dsimp only;apply mp2
    case m=>
     intro key;by_cases hg:gg1 > 1
     ·rw[if_pos hg];generalize gg1 - 1=gg2
      revert gg2
      exact key
     ·rw[if_neg hg];generalize gg1=gg2
      revert gg2
      exact key
    intro gg2;refine wpS_bind (zcn g2 fun st3 g3=>?_);refine wpS_bind (za8 t2 (wpS_bind (zcC hO (by rw[g3.kind];exact hkd) (kb _ (by simp)) ka (by omega) (by omega) (zgD sa _ _ (by omega)) fun k k1 k2 k3=>?_)));dsimp only;have hmk:MI κ a b (out1++a.extract ia1 (ia1+k)) (ia1+k) ib1:=hm1.goA sa (by rw[yaP,zeH]) fun x hx y hy=>by
     obtain ⟨j,j1,j2,j3⟩:=zd2 hx;have q:=k2 j j1;unfold bey at q;rw[if_neg (by decide),zcY j3,ybC]at q;exact le_trans (show le κ x b[ib1] from q) (zdf sb t2 y hy)
    have bk:∀ hq:ia1+k < a.size,∀ y∈a.toList.drop (ia1+k),le κ b[ib1] y:=fun hq y hy=>by
     have q:=k3 k (yaa _) (by omega);unfold bey at q;rw[if_neg (by decide),zba hq,ycw]at q;exact le_trans (show le κ b[ib1] a[ia1+k] from KeyOrd.kle_of_klt q) (zdf sa hq y hy)
    apply mp2
    case m=>
     by_cases hk:k > 0
     ·by_cases z:ia1+k+1=a.size
      ·intro h;clear h;rw[if_pos hk,if_pos (by simpa using z)];exact wpS_pure ⟨g3,.inl ⟨_,_,rfl,hmk.last sa sb (fun y hy x hx=>hl y hy _ z x hx)⟩⟩
      have z0:¬(ia1+k+1 == a.size)=true:=by simpa using z
      by_cases z':ia1+k=a.size
      ·intro h;clear h;rw[if_pos hk,if_neg z0,if_pos (by simpa using z')];exact wpS_pure ⟨g3,.inl ⟨_,_,rfl,hmk.doneA sb (by omega)⟩⟩
      have z1:¬(ia1+k == a.size)=true:=by simpa using z'
      have u2:=bk (by omega);have w1:ia1+k+1 < a.size:=by omega
      have w3:ia+ib+1≤ia1+k+ib1:=by omega
      intro key;rw[if_pos hk,if_neg z0,if_neg z1];refine (?_:MI κ a b (out1++a.extract ia1 (ia1+k)) (ia1+k) ib1→(∀ y∈a.toList.drop (ia1+k),le κ (b[ib1]'t2) y)→ia1+k+1 < a.size→ia+ib+1≤ia1+k+ib1→_) hmk u2 w1 w3;generalize out1++a.extract ia1 (ia1+k)=out2;generalize ia1+k=ja;generalize k=cnt
      revert out2 ja cnt
      exact key
     ·have e0:k=0:=by omega
      have u2:=bk (by omega);rw[e0,ybr]at u2;intro key;rw[if_neg hk];refine (?_:MI κ a b out1 ia1 ib1→(∀ y∈a.toList.drop ia1,le κ (b[ib1]'t2) y)→ia1+1 < a.size→ia+ib+1≤ia1+ib1→_) hm1 u2 t1 t3;generalize k=cnt;generalize ia1=ja;generalize out1=out2;exact key out2 ja cnt
    intro out2 ja cnt hm2 u2 w1 w3;refine wpS_bind (za8 t2 ?_);have hm3:=hm2.pb sb t2 u2;by_cases z2:ib1+1=b.size
    ·rw[if_pos (by simpa using z2)];exact wpS_pure ⟨g3,.inl ⟨_,_,rfl,hm3.done sa (by omega)⟩⟩
    ·rw[if_neg (by simpa using z2)];refine wpS_bind (za8 (show ja < a.size by omega) (wpS_bind (zcC hO (by rw[g3.kind];exact hkd) (ka _ (by simp)) kb (by omega) (by omega) (zgD sb _ _ (by omega)) fun k' c1 c2 c3=>?_)));dsimp only;have ge5:∀ hq:ib1+1+k' < b.size,le κ (a[ja]'(by omega)) b[ib1+1+k']:=fun hq=>by
      have q:=c3 k' (yaa _) (by omega);unfold bey at q;rw[if_pos rfl,zba hq]at q;exact q
     have hm4:MI κ a b (out2.push b[ib1]++b.extract (ib1+1) (ib1+1+k')) ja (ib1+1+k'):=hm3.goB sb (by rw[yaP (ys:=b.extract (ib1+1) (ib1+1+k')),zeH (xs:=b)]) fun x hx y hy=>by
      obtain ⟨j,j1,j2,j3⟩:=zd2 hx;have q:=c2 j j1;unfold bey at q;rw[if_pos rfl,zcY j3]at q;exact le_trans (show le κ x (a[ja]'(by omega)) from KeyOrd.kle_of_klt q) (zdf sa (by omega) y hy)
     by_cases hk':k' > 0
     ·rw[if_pos hk'];by_cases z3:ib1+1+k'=b.size
      ·rw[if_pos (by simpa using z3)];exact wpS_pure ⟨g3,.inl ⟨_,_,rfl,hm4.done sa (by omega)⟩⟩
      ·rw[if_neg (by simpa using z3)];refine wpS_bind (za8 (show ja < a.size by omega) ?_);have hm5:=hm4.pa sa (show ja < a.size by omega) fun y hy=>le_trans (show le κ (a[ja]'(by omega)) (b[ib1+1+k']'(by omega)) from ge5 (by omega)) (zdf sb (by omega) y hy);by_cases z4:ja+1+1=a.size
       ·rw[if_pos (by simpa using z4)];exact wpS_pure ⟨g3,.inl ⟨_,_,rfl,hm5.last sa sb (fun y hy x hx=>hl y hy _ z4 x hx)⟩⟩
       ·rw[if_neg (by simpa using z4)];split
        ·exact wpS_pure ⟨g3,.inr ⟨_,_,_,_,_,_,rfl,hm5,by omega,by omega,by omega⟩⟩
        ·exact wpS_pure ⟨g3,_,_,_,_,_,_,rfl,hm5,by omega,by omega,by omega⟩
     ·rw[if_neg hk'];have e0:k'=0:=by omega
      subst e0
      replace hm4:=hm3
      refine wpS_bind (za8 (show ja < a.size by omega) ?_);have hm5:=hm4.pa sa (show ja < a.size by omega) fun y hy=>le_trans (show le κ (a[ja]'(by omega)) (b[ib1+1]'(by omega)) from ge5 (by omega)) (zdf sb (by omega) y hy);by_cases z4:ja+1+1=a.size
      ·rw[if_pos (by simpa using z4)];exact wpS_pure ⟨g3,.inl ⟨_,_,rfl,hm5.last sa sb (fun y hy x hx=>hl y hy _ z4 x hx)⟩⟩
      ·rw[if_neg (by simpa using z4)];split
       ·exact wpS_pure ⟨g3,.inr ⟨_,_,_,_,_,_,rfl,hm5,by omega,by omega,by omega⟩⟩
       ·exact wpS_pure ⟨g3,_,_,_,_,_,_,rfl,hm5,by omega,by omega,by omega⟩
end
end Tim
namespace Tim
open PySem PyProof.Rows
set_option autoImplicit false
section
variable {κ:KeyKind}{a b out:Array Keyed}{na nb:Nat}
structure MH (κ:KeyKind)(a b:Array Keyed)(out:Array Keyed)(na nb:Nat):Prop where
 perm:((a.toList.take na++b.toList.take nb)++out.toList.reverse).Perm (a.toList++b.toList)
 srt:SL κ out.toList.reverse
 high:∀ x∈out.toList.reverse,∀ y∈a.toList.take na++b.toList.take nb,le κ y x
theorem zex {l:List Keyed}{n m:Nat}(h:n≤m):l.take m=l.take n++(l.take m).drop n:=by
 have e:(l.take m).take n=l.take n:=by rw[List.take_take,ybs h]
 rw[← e,yaO]
theorem MH.goA {out':Array Keyed}{n:Nat}(h:MH κ a b out na nb)(sa:SL κ a.toList)(hn:n≤na)(ho:out'.toList.reverse=(a.toList.take na).drop n++out.toList.reverse)(hle:∀ x∈(a.toList.take na).drop n,∀ y∈b.toList.take nb,le κ y x):MH κ a b out' n nb:=by
 have e:=zex (l:=a.toList) hn;have s1:=sa.take na;rw[e]at s1;obtain ⟨p1,p2,p3⟩:=yaE.mp s1;refine ⟨?_,?_,?_⟩
 ·refine List.Perm.trans ?_ h.perm;rw[ho,e,← yaL];refine List.Perm.append_right _ ?_;rw[yaL,yaL,← e];exact List.Perm.append_left _ ybN
 ·rw[ho];exact yaE.mpr ⟨p2,h.srt,fun x hx y hy=>h.high y hy x (yaT _ (ybB hx))⟩
 ·intro x hx y hy;rw[ho]at hx;rcases yaj.mp hx with hx | hx
  ·rcases yaj.mp hy with hy | hy
   ·exact p3 y hy x hx
   ·exact hle x hx y hy
  ·refine h.high x hx y ?_;rcases yaj.mp hy with hy | hy
   ·refine yaT _ ?_;rw[e];exact yaT _ hy
   ·exact yaC _ hy
theorem MH.goB {out':Array Keyed}{n:Nat}(h:MH κ a b out na nb)(sb:SL κ b.toList)(hn:n≤nb)(ho:out'.toList.reverse=(b.toList.take nb).drop n++out.toList.reverse)(hle:∀ x∈(b.toList.take nb).drop n,∀ y∈a.toList.take na,le κ y x):MH κ a b out' na n:=by
 have e:=zex (l:=b.toList) hn;have s1:=sb.take nb;rw[e]at s1;obtain ⟨p1,p2,p3⟩:=yaE.mp s1;refine ⟨?_,?_,?_⟩
 ·refine List.Perm.trans (List.Perm.of_eq ?_) h.perm;rw[ho,← yaL,yaL (a.toList.take na),← e]
 ·rw[ho];exact yaE.mpr ⟨p2,h.srt,fun x hx y hy=>h.high y hy x (yaC _ (ybB hx))⟩
 ·intro x hx y hy;rw[ho]at hx;rcases yaj.mp hx with hx | hx
  ·rcases yaj.mp hy with hy | hy
   ·exact hle x hx y hy
   ·exact p3 y hy x hx
  ·refine h.high x hx y ?_;rcases yaj.mp hy with hy | hy
   ·exact yaT _ hy
   ·refine yaC _ ?_;rw[e];exact yaT _ hy
theorem zem {xs:Array Keyed}{n:Nat}(h0:0 < n)(h:n≤xs.size):(xs.toList.take n).drop (n - 1)=[xs[n - 1]'(by omega)]:=by
 have h':n - 1 < xs.size:=by omega
 rw[ycb,show n - (n - 1)=1 by omega,zep h'];rfl
theorem zey {xs:Array Keyed}{n:Nat}(hs:SL κ xs.toList)(h0:0 < n)(h:n≤xs.size):∀ y∈xs.toList.take n,le κ y (xs[n - 1]'(by omega)):=by
 intro y hy;have q:=hs.take n;rw[zex (l:=xs.toList) (show n - 1≤n by omega),zem h0 h]at q hy;rcases yaj.mp hy with hy | hy
 ·exact (yaE.mp q).2.2 y hy _ (yag.mpr rfl)
 ·rw[yag.mp hy];exact le_refl _
theorem MH.pa (h:MH κ a b out na nb)(sa:SL κ a.toList)(h0:0 < na)(hn:na≤a.size)(hle:∀ y∈b.toList.take nb,le κ y (a[na - 1]'(by omega))):MH κ a b (out.push (a[na - 1]'(by omega))) (na - 1) nb:=
 h.goA (n:=na - 1) sa (by omega) (by rw[zem h0 hn,ybO,ycc];rfl) (by
  rw[zem h0 hn];intro x hx;rw[yag.mp hx];exact hle)
theorem MH.pb (h:MH κ a b out na nb)(sb:SL κ b.toList)(h0:0 < nb)(hn:nb≤b.size)(hle:∀ y∈a.toList.take na,le κ y (b[nb - 1]'(by omega))):MH κ a b (out.push (b[nb - 1]'(by omega))) na (nb - 1):=
 h.goB (n:=nb - 1) sb (by omega) (by rw[zem h0 hn,ybO,ycc];rfl) (by
  rw[zem h0 hn];intro x hx;rw[yag.mp hx];exact hle)
theorem zdF {xs:Array Keyed}{n:Nat}:(xs.extract 0 n).toList=xs.toList.take n:=by
 rw[yb9,yca,ycd,Nat.sub_zero]
theorem zmm {xs:Array Keyed}{n m:Nat}:(xs.extract n m).toList=(xs.toList.take m).drop n:=by
 rw[yb9,yca,ycb]
theorem MH.done (h:MH κ a b out na nb)(sb:SL κ b.toList)(hna:na=0):zb1 κ a b (a.extract 0 na++b.extract 0 nb++out.reverse):=by
 have e2:(a.extract 0 na++b.extract 0 nb++out.reverse).toList=(a.toList.take na++b.toList.take nb)++out.toList.reverse:=by
  rw[yaP,yaP,zdF,zdF,ybP]
 refine ⟨by rw[e2];exact h.perm,?_⟩;rw[e2];subst hna;refine yaE.mpr ⟨?_,h.srt,fun x hx y hy=>h.high y hy x hx⟩;rw[yce,List.nil_append];exact sb.take nb
theorem MH.doneB (h:MH κ a b out na nb)(sa:SL κ a.toList)(hnb:nb=0):zb1 κ a b (a.extract 0 na++b.extract 0 nb++out.reverse):=by
 have e2:(a.extract 0 na++b.extract 0 nb++out.reverse).toList=(a.toList.take na++b.toList.take nb)++out.toList.reverse:=by
  rw[yaP,yaP,zdF,zdF,ybP]
 refine ⟨by rw[e2];exact h.perm,?_⟩;rw[e2];subst hnb;refine yaE.mpr ⟨?_,h.srt,fun x hx y hy=>h.high y hy x hx⟩;rw[yce,yay];exact sa.take na
theorem MH.first (h:MH κ a b out na nb)(sa:SL κ a.toList)(sb:SL κ b.toList)(hl:∀ y∈b.toList.take nb,∀ x∈a.toList,le κ y x):zb1 κ a b (b.extract 0 nb++a.extract 0 na++out.reverse):=by
 have e2:(b.extract 0 nb++a.extract 0 na++out.reverse).toList=(b.toList.take nb++a.toList.take na)++out.toList.reverse:=by
  rw[yaP,yaP,zdF,zdF,ybP]
 refine ⟨?_,?_⟩
 ·rw[e2];exact (List.Perm.append_right _ ybN).trans h.perm
 ·rw[e2];refine yaE.mpr ⟨yaE.mpr ⟨sb.take nb,sa.take na,fun x hx y hy=>hl x hx y (ybA hy)⟩,h.srt,fun x hx y hy=>h.high y hy x ?_⟩;rcases yaj.mp hx with q | q
  ·exact yaC _ q
  ·exact yaT _ q
end
def zjC:Array Keyed→Array Keyed→StateT SortSt Sem (Array Keyed):=sortPriv% PySem.Builtin.mergeHi
end Tim
namespace Tim
open PySem PyProof.Rows
set_option autoImplicit false
section
variable {prog:Program}{w:World}{A:Around}{E:Value→Shared→Prop}{s:Shared}{κ:KeyKind}{kd:SortKind}
set_option maxHeartbeats 4000000 in
theorem zjV {st:SortSt}{a b:Array Keyed}{Q:Array Keyed→SortSt→Prop}(hO:LtG prog w A s κ kd)(hkd:kindOf st=kd)(ka:∀ q∈a.toList,Keyd κ q)(kb:∀ q∈b.toList,Keyd κ q)(sa:SL κ a.toList)(sb:SL κ b.toList)
  (ha:0 < a.size) (hb:0 < b.size) (h0:∀ y∈a.toList,le κ b[0] y) (hl:∀ y∈b.toList,le κ y (a[a.size - 1]'(by omega)))
  (h:∀ m st',zb1 κ a b m→SG st st'→Q m st'):wpS (model prog w) A E s (zjC a b) Q st:=by
 have fst:∀ n,n≤1→∀ y∈b.toList.take n,∀ x∈a.toList,le κ y x:=fun n hn y hy x hx=>by
  have hy':y∈b.toList.take 1:=by
   rcases ybD n 1 with z | z
   ·rw[show n=0 by omega]at hy;simp at hy
   ·rwa[show n=1 by omega]at hy
  have e:b.toList.take 1=[b[0]]:=by
   have:=zd1 hb;rwa[ycd]at this
  rw[e]at hy';rw[yag.mp hy'];exact h0 x hx
 have m0:MH κ a b #[a[a.size - 1]'(by omega)] (a.size - 1) b.size:=by
  have z:MH κ a b #[] a.size b.size:=⟨by
   rw[yas (by simp),yas (by simp)];simp,by simp,by simp⟩
  have:=z.pa sa ha (yaa _) (fun y hy=>hl y (ybA hy));simpa using this
 refine wpS_bind (zcN ?_);dsimp only;refine wpS_bind (za8 (show a.size - 1 < a.size by omega) ?_);by_cases e1:a.size - 1=0
 ·rw[if_pos (by simpa using e1)];exact wpS_pure (h _ _ (m0.done sb e1) (SG.refl st))
 rw[if_neg (by simpa using e1)];by_cases e2:b.size=1
 ·rw[if_pos (by simpa using e2)];exact wpS_pure (h _ _ (m0.first sa sb (fst _ (by omega))) (SG.refl st))
 rw[if_neg (by simpa using e2)];refine wpS_bind (wpS_get ?_);refine wpS_bind (wpS_mono (wpS_forRange (I:=fun i c st'=>SG st st'∧∃ na nb out g,c=(none,na,nb,out,g)∧MH κ a b out na nb∧0 < na∧na≤a.size∧1 < nb∧nb≤b.size∧i+1+(na+nb)≤a.size+b.size)
  (Q:=fun c st'=>SG st st'∧∃ m r,c=(some m,r)∧zb1 κ a b m) ?step ?fin ⟨SG.refl st,_,_,_,_,rfl,m0,by omega,by omega,by omega,by omega,by omega⟩) ?post)
 case post=>
  rintro c st' ⟨g,m,r,rfl,hm⟩;exact wpS_pure (h m st' hm g)
 case fin=>
  rintro c st' ⟨g,na,nb,out,gg,rfl,hm,q1,q2,q3,q4,q5⟩;exact absurd q5 (by omega)
 case step=>
  rintro i c st1 _ hi ⟨g1,na,nb,out,gg,rfl,hm,q1,q2,q3,q4,q5⟩;dsimp only;refine wpS_bind (wpS_mono (wpS_forRange (I:=fun x c st'=>st'=st1∧∃ na' nb' out' ca cb,c=(none,na',nb',out',ca,cb)∧MH κ a b out' na' nb'∧0 < na'∧na'≤a.size∧1 < nb'∧nb'≤b.size∧x+(na'+nb')≤na+nb)
   (Q:=fun c st'=>st'=st1∧((∃ m r,c=(some m,r)∧zb1 κ a b m)∨∃ na' nb' out' ca cb,c=(none,na',nb',out',ca,cb)∧MH κ a b out' na' nb'∧0 < na'∧na'≤a.size∧1 < nb'∧nb'≤b.size∧1+(na'+nb')≤na+nb)) ?istep ?ifin ⟨rfl,na,nb,out,0,0,rfl,hm,q1,q2,q3,q4,by omega⟩) ?ipost)
  case ifin=>
   rintro c st' ⟨rfl,na',nb',out',ca,cb,rfl,hm',r1,r2,r3,r4,r5⟩;exact ⟨rfl,.inr ⟨_,_,_,ca,cb,rfl,hm',r1,r2,r3,r4,by omega⟩⟩
  case istep=>
   rintro x c st' _ hx ⟨rfl,na',nb',out',ca,cb,rfl,hm',r1,r2,r3,r4,r5⟩;dsimp only;refine wpS_bind (za8 (show nb' - 1 < b.size by omega) (wpS_bind (za8 (show na' - 1 < a.size by omega) (wpS_bind (lt_G hO (by rw[g1.kind];exact hkd) (kb _ (by simp)) (ka _ (by simp)) ?_)))));dsimp only;cases e:κ.blt (ky κ (b[nb' - 1]'(by omega))) (ky κ (a[na' - 1]'(by omega))) with
   | true=>
    simp only[if_true];have hm2:=hm'.pa sa r1 r2 (fun y hy=>le_trans (zey sb (by omega) r4 y hy) (show le κ (b[nb' - 1]'(by omega)) (a[na' - 1]'(by omega)) from KeyOrd.kle_of_klt e));refine wpS_bind (za8 (show na' - 1 < a.size by omega) ?_);by_cases z:na' - 1=0
    ·rw[if_pos (by simpa using z)];exact wpS_pure ⟨rfl,.inl ⟨_,_,rfl,hm2.done sb z⟩⟩
    ·rw[if_neg (by simpa using z)];split
     ·exact wpS_pure ⟨rfl,.inr ⟨_,_,_,_,_,rfl,hm2,by omega,by omega,by omega,by omega,by omega⟩⟩
     ·exact wpS_pure ⟨rfl,_,_,_,_,_,rfl,hm2,by omega,by omega,by omega,by omega,by omega⟩
   | false=>
    simp only[yaK,if_false];have hm2:=hm'.pb sb (by omega) r4 (fun y hy=>le_trans (zey sa r1 r2 y hy) (show le κ (a[na' - 1]'(by omega)) (b[nb' - 1]'(by omega)) from e));refine wpS_bind (za8 (show nb' - 1 < b.size by omega) ?_);by_cases z:nb' - 1=1
    ·rw[if_pos (by simpa using z)];exact wpS_pure ⟨rfl,.inl ⟨_,_,rfl,hm2.first sa sb (fst _ (by omega))⟩⟩
    ·rw[if_neg (by simpa using z)];split
     ·exact wpS_pure ⟨rfl,.inr ⟨_,_,_,_,_,rfl,hm2,by omega,by omega,by omega,by omega,by omega⟩⟩
     ·exact wpS_pure ⟨rfl,_,_,_,_,_,rfl,hm2,by omega,by omega,by omega,by omega,by omega⟩
  case ipost=>
   rintro c st' ⟨rfl,⟨m,r,rfl,hmm⟩ | ⟨na',nb',out,ca,cb,rfl,hm,q1,q2,q3,q4,q6⟩⟩
   ·exact wpS_pure ⟨g1,m,_,rfl,hmm⟩
   dsimp only;refine wpS_bind (zcN ?_);refine wpS_bind (wpS_mono (wpS_forRange (I:=fun x c st''=>SG st st''∧∃ na1 nb1 out1 gg ca cb,c=(none,na1,nb1,out1,gg,ca,cb)∧MH κ a b out1 na1 nb1∧0 < na1∧na1≤a.size∧1 < nb1∧nb1≤b.size∧1+(na1+nb1)≤na+nb)
    (Q:=fun c st''=>SG st st''∧((∃ m r,c=(some m,r)∧zb1 κ a b m)∨∃ na1 nb1 out1 gg ca cb,c=(none,na1,nb1,out1,gg,ca,cb)∧MH κ a b out1 na1 nb1∧0 < na1∧na1≤a.size∧1 < nb1∧nb1≤b.size∧1+(na1+nb1)≤na+nb)) ?jstep ?jfin ⟨g1,_,_,_,_,_,_,rfl,hm,q1,q2,q3,q4,q6⟩) ?jpost)
   case jfin=>
    rintro c st'' ⟨g2,na1,nb1,out1,gg1,ca1,cb1,rfl,r⟩;exact ⟨g2,.inr ⟨_,_,_,_,_,_,rfl,r⟩⟩
   case jpost=>
    rintro c st'' ⟨g2,⟨m,r,rfl,hmm⟩ | ⟨na1,nb1,out1,gg1,ca1,cb1,rfl,hm1,t1,t2,t3,t4,t5⟩⟩
    ·exact wpS_pure ⟨g2,m,_,rfl,hmm⟩
    ·dsimp only;exact wpS_bind (zcn g2 fun st3 g3=>wpS_pure ⟨g3,_,_,_,_,rfl,hm1,t1,t2,t3,t4,by omega⟩)
   case jstep=>
    rintro x c st'' _ hx ⟨g2,na1,nb1,out1,gg1,ca1,cb1,rfl,hm1,t1,t2,t3,t4,t5⟩;dsimp only;apply mp2
    case m=>
     intro key;by_cases hg:gg1 > 1
     ·rw[if_pos hg];generalize gg1 - 1=gg2
      revert gg2
      exact key
     ·rw[if_neg hg];generalize gg1=gg2
      revert gg2
      exact key
    intro gg2;refine wpS_bind (zcn g2 fun st3 g3=>?_);refine wpS_bind (za8 (show nb1 - 1 < b.size by omega) (wpS_bind (zcC hO (by rw[g3.kind];exact hkd) (kb _ (by simp)) ka (by omega) (by omega) (zgD sa _ _ (by omega)) fun at0 k1 k2 k3=>?_)));dsimp only;have hmk:MH κ a b (out1++(a.extract at0 na1).reverse) at0 nb1:=hm1.goA sa k1 (by
     rw[yaP,ycc,ybP,ycx,zmm]) fun x hx y hy=>by
     rw[ycb]at hx;obtain ⟨j,j1,j2,j3⟩:=zd2 hx;have q:=k3 (at0+j) (by omega) (by omega);unfold bey at q;rw[if_neg (by decide),Nat.zero_add,zcY j3,ycw]at q;exact le_trans (zey sb (by omega) t4 y hy) (show le κ (b[nb1 - 1]'(by omega)) x from KeyOrd.kle_of_klt q)
    have hnb:nb1 - 1 < b.size:=by omega
    have bk:∀ y∈a.toList.take at0,le κ y (b[nb1 - 1]'hnb):=fun y hy=>by
     have hy':y∈(a.toList.drop 0).take at0:=by rw[ycd];exact hy
     obtain ⟨j,j1,j2,j3⟩:=zd2 hy';have q:=k2 j j1;unfold bey at q;rw[if_neg (by decide),zcY j3,ybC]at q;exact q
    apply mp2
    case m=>
     by_cases hk:na1 - at0 > 0
     ·by_cases z:at0=0
      ·intro h;clear h;rw[if_pos hk,if_pos (by simpa using z)];exact wpS_pure ⟨g3,.inl ⟨_,_,rfl,hmk.done sb z⟩⟩
      have w1:0 < at0:=by omega
      have w2:at0≤a.size:=by omega
      have w3:1+(at0+nb1)≤na+nb:=by omega
      have z0:¬(at0 == 0)=true:=by simpa using z
      intro key;rw[if_pos hk,if_neg z0];refine (?_:MH κ a b (out1++(a.extract at0 na1).reverse) at0 nb1→(∀ y∈a.toList.take at0,le κ y (b[nb1 - 1]'hnb))→0 < at0→at0≤a.size→1+(at0+nb1)≤na+nb→_) hmk bk w1 w2 w3;generalize out1++(a.extract at0 na1).reverse=out2;generalize na1 - at0=cnt;generalize at0=na2
      revert out2 cnt na2
      exact key
     ·have e0:at0=na1:=by omega
      rw[e0]at bk;intro key;rw[if_neg hk];refine (?_:MH κ a b out1 na1 nb1→(∀ y∈a.toList.take na1,le κ y (b[nb1 - 1]'hnb))→0 < na1→na1≤a.size→1+(na1+nb1)≤na+nb→_) hm1 bk t1 t2 t5;generalize na1 - at0=cnt;generalize na1=na2;generalize out1=out2;exact key out2 cnt na2
    intro out2 cnt na2 hm2 u2 w1 w2 w3;refine wpS_bind (za8 (show nb1 - 1 < b.size by omega) ?_);have hm3:=hm2.pb sb (by omega) (by omega) u2;by_cases z2:nb1 - 1=1
    ·rw[if_pos (by simpa using z2)];exact wpS_pure ⟨g3,.inl ⟨_,_,rfl,hm3.first sa sb (fst _ (by omega))⟩⟩
    ·rw[if_neg (by simpa using z2)];refine wpS_bind (za8 (show na2 - 1 < a.size by omega) (wpS_bind (zcC hO (by rw[g3.kind];exact hkd) (ka _ (by simp)) kb (by omega) (by omega) (zgD sb _ _ (by omega)) fun at' c1 c2 c3=>?_)));dsimp only;have lt5:∀ hq:0 < at',le κ (b[at' - 1]'(by omega)) (a[na2 - 1]'(by omega)):=fun hq=>by
      have q:=c2 (at' - 1) (by omega);unfold bey at q;rw[if_pos rfl,Nat.zero_add,zba (by omega)]at q;exact KeyOrd.kle_of_klt q
     have hm4:MH κ a b (out2.push (b[nb1 - 1]'(by omega))++(b.extract at' (nb1 - 1)).reverse) na2 at':=hm3.goB sb c1 (by
      rw[yaP (ys:=(b.extract at' (nb1 - 1)).reverse),ycc,ybP,ycx,zmm]) fun x hx y hy=>by
      rw[ycb]at hx;obtain ⟨j,j1,j2,j3⟩:=zd2 hx;have q:=c3 (at'+j) (by omega) (by omega);unfold bey at q;rw[if_pos rfl,Nat.zero_add,zcY j3]at q;exact le_trans (zey sa (by omega) (by omega) y hy) (show le κ (a[na2 - 1]'(by omega)) x from q)
     by_cases hk':nb1 - 1 - at' > 0
     ·rw[if_pos hk'];by_cases z3:at'=1
      ·rw[if_pos (by simpa using z3)];exact wpS_pure ⟨g3,.inl ⟨_,_,rfl,hm4.first sa sb (fst _ (by omega))⟩⟩
      rw[if_neg (by simpa using z3)];by_cases z3':at'=0
      ·rw[if_pos (by simpa using z3')];exact wpS_pure ⟨g3,.inl ⟨_,_,rfl,hm4.doneB sa z3'⟩⟩
      rw[if_neg (by simpa using z3')];refine wpS_bind (za8 (show na2 - 1 < a.size by omega) ?_);have hm5:=hm4.pa sa (by omega) (by omega) fun y hy=>le_trans (zey sb (by omega) (by omega) y hy) (lt5 (by omega));by_cases z4:na2 - 1=0
      ·rw[if_pos (by simpa using z4)];exact wpS_pure ⟨g3,.inl ⟨_,_,rfl,hm5.done sb z4⟩⟩
      ·rw[if_neg (by simpa using z4)];split
       ·exact wpS_pure ⟨g3,.inr ⟨_,_,_,_,_,_,rfl,hm5,by omega,by omega,by omega,by omega,by omega⟩⟩
       ·exact wpS_pure ⟨g3,_,_,_,_,_,_,rfl,hm5,by omega,by omega,by omega,by omega,by omega⟩
     ·rw[if_neg hk'];have e0:at'=nb1 - 1:=by omega
      subst e0
      replace hm4:=hm3
      refine wpS_bind (za8 (show na2 - 1 < a.size by omega) ?_);have hm5:=hm4.pa sa (by omega) (by omega) fun y hy=>le_trans (zey sb (by omega) (by omega) y hy) (lt5 (by omega));by_cases z4:na2 - 1=0
      ·rw[if_pos (by simpa using z4)];exact wpS_pure ⟨g3,.inl ⟨_,_,rfl,hm5.done sb z4⟩⟩
      ·rw[if_neg (by simpa using z4)];split
       ·exact wpS_pure ⟨g3,.inr ⟨_,_,_,_,_,_,rfl,hm5,by omega,by omega,by omega,by omega,by omega⟩⟩
       ·exact wpS_pure ⟨g3,_,_,_,_,_,_,rfl,hm5,by omega,by omega,by omega,by omega,by omega⟩
end
end Tim
namespace Tim
open PySem PyProof.Rows
set_option autoImplicit false
section
variable {κ:KeyKind}
def seg (xs:Array Keyed)(lo n:Nat):List Keyed:=(xs.toList.drop lo).take n
theorem zfs {xs:Array Keyed}{lo n i:Nat}(h:lo+n≤xs.size)(hi:i < n):(seg xs lo n)[i]?=xs[lo+i]?:=by
 unfold seg;rw[ybQ,if_pos hi,ycf,yaY]
theorem zb9 {xs:Array Keyed}{lo n:Nat}(h:lo+n≤xs.size):(seg xs lo n).length=n:=by
 unfold seg;rw[yan,yaN,yav];omega
theorem zos {xs:Array Keyed}{lo n:Nat}(h:lo+n≤xs.size)(hU:Up κ xs lo (lo+n)):SL κ (seg xs lo n):=by
 rw[SL,ybd];intro i j hi hj hij;have hi':=hi;have hj':=hj;rw[zb9 h]at hi' hj';have e1:(seg xs lo n)[i]=xs[lo+i]'(by omega):=by
  have:=zfs h hi';rw[yac hi,yaW (by omega)]at this;exact yad this
 have e2:(seg xs lo n)[j]=xs[lo+j]'(by omega):=by
  have:=zfs h hj';rw[yac hj,yaW (by omega)]at this;exact yad this
 rw[e1,e2];have:=hU (lo+i) (lo+j) (by omega) (by omega) (by omega);rw[zba (by omega),zba (by omega)]at this;exact this
theorem zj3 {xs:Array Keyed}{lo n m:Nat}:seg xs lo (n+m)=seg xs lo n++seg xs (lo+n) m:=by
 unfold seg;rw[List.take_add,ybz]
theorem zgP {xs:Array Keyed}{lo n:Nat}:(xs.extract lo (lo+n)).toList=seg xs lo n:=zeH
theorem zlg {xs:Array Keyed}{lo n:Nat}(h:lo+n≤xs.size):xs.toList=xs.toList.take lo++(seg xs lo n++xs.toList.drop (lo+n)):=by
 unfold seg;rw[← ybz,yaO,yaO]
def back (xs:Array Keyed)(lo:Nat)(m:Array Keyed):Array Keyed:=m.toList.zipIdx.foldl (fun a (q:Keyed×Nat)=>a.setIfInBounds (lo+q.2) q.1) xs
theorem ziY (lo:Nat):∀(l:List Keyed) (k:Nat) (xs:Array Keyed),lo+k+l.length≤xs.size→∀ i:Nat,
  ((l.zipIdx k).foldl (fun a (q:Keyed×Nat)=>a.setIfInBounds (lo+q.2) q.1) xs)[i]?=if lo+k≤i∧i < lo+k+l.length then l[i - (lo+k)]? else xs[i]?
 | [],k,xs,h,i=>by
  rw[if_neg (by simp only[ybp];omega)];rfl
 | x::l,k,xs,h,i=>by
  rw[yaI]at h;rw[List.zipIdx_cons,List.foldl_cons,ziY lo l (k+1) (xs.setIfInBounds (lo+k) x) (by rw[Array.size_setIfInBounds];omega) i,yaI];by_cases h1:lo+(k+1)≤i∧i < lo+(k+1)+l.length
  ·rw[if_pos h1,if_pos (by omega),show i - (lo+k)=(i - (lo+(k+1)))+1 by omega,ycg]
  ·rw[if_neg h1,Array.getElem?_setIfInBounds];by_cases h2:lo+k=i
   ·rw[if_pos h2,if_pos (by omega),if_pos (by omega)];subst h2;simp
   ·rw[if_neg h2,if_neg (by omega)]
theorem zmK {xs m:Array Keyed}{lo:Nat}(h:lo+m.size≤xs.size):(back xs lo m).toList=xs.toList.take lo++(m.toList++xs.toList.drop (lo+m.size)):=by
 apply ya4;intro i;have q:=ziY lo m.toList 0 xs (by rw[yav];omega) i;unfold back;rw[yaY,q,yav,ybr];have l1:(xs.toList.take lo).length=lo:=by rw[yan,yav];omega
 by_cases h1:i < lo
 ·rw[if_neg (by omega),yba (by rw[l1];exact h1),ybQ,if_pos h1,yaY]
 ·rw[ya3 (by rw[l1];omega),l1];by_cases h2:i < lo+m.size
  ·rw[if_pos (by omega),yba (by rw[yav];omega)]
  ·rw[if_neg (by omega),ya3 (by rw[yav];omega),yav,ycf,show lo+m.size+(i - lo - m.size)=i by omega,yaY]
theorem zeu {xs m:Array Keyed}{lo:Nat}(h:lo+m.size≤xs.size)(i:Nat):(back xs lo m)[i]?=if lo≤i∧i < lo+m.size then m[i - lo]? else xs[i]?:=by
 have q:=ziY lo m.toList 0 xs (by rw[yav];omega) i;rw[yav,ybr,yaY]at q;exact q
theorem zgO {xs:Array Keyed}{lo n:Nat}{p:Keyed}(h:lo+n≤xs.size)(hp:p∈seg xs lo n):∃ q,lo≤q∧q < lo+n∧xs[q]?=some p:=by
 obtain ⟨i,hi,e⟩:=yaR hp;have hi':=hi;rw[zb9 h]at hi';refine ⟨lo+i,by omega,by omega,?_⟩;rw[← zfs h hi',yac hi,e]
theorem zkg {xs m:Array Keyed}{sa na nb k nb':Nat}(hz:sa+na+nb≤xs.size)(ua:Up κ xs sa (sa+na))(ub:Up κ xs (sa+na) (sa+na+nb))(hk:k < na)(hnb:nb'≤nb)(hb0:0 < nb')
  (k2:∀ i,i < k→κ.kle (kAt κ xs (sa+i)) (kAt κ xs (sa+na))) (c3:∀ i,nb'≤i→i < nb→κ.kle (kAt κ xs (sa+na - 1)) (kAt κ xs (sa+na+i)))
  (hm:zb1 κ (xs.extract (sa+k) (sa+na)) (xs.extract (sa+na) (sa+na+nb')) m) :
  Off xs (back xs (sa+k) m) sa (sa+(na+nb))∧Up κ (back xs (sa+k) m) sa (sa+(na+nb)):=by
 have ex:(xs.extract (sa+k) (sa+na)).toList=seg xs (sa+k) (na - k):=by
  have:=zgP (xs:=xs) (lo:=sa+k) (n:=na - k);rwa[show sa+k+(na - k)=sa+na by omega]at this
 have ey:(xs.extract (sa+na) (sa+na+nb')).toList=seg xs (sa+na) nb':=zgP;have hp:=hm.perm;rw[ex,ey]at hp;have ms:m.size=na - k+nb':=by
  have:=hp.length_eq;rw[yav,yaq,zb9 (by omega),zb9 (by omega)]at this;exact this
 have hzm:sa+k+m.size≤xs.size:=by omega
 have bl:=zmK hzm;have mid:seg xs (sa+k) m.size=seg xs (sa+k) (na - k)++seg xs (sa+na) nb':=by
  rw[ms,zj3,show sa+k+(na - k)=sa+na by omega]
 have perm:(back xs (sa+k) m).toList.Perm xs.toList:=by
  have e:=zlg hzm;rw[mid]at e;refine (List.Perm.of_eq bl).trans (List.Perm.trans ?_ (List.Perm.of_eq e.symm));exact List.Perm.append_left _ (List.Perm.append_right _ hp)
 have inm:∀ i,sa+k≤i→i < sa+k+m.size→∃ q,sa+k≤q∧q < sa+na+nb'∧kAt κ (back xs (sa+k) m) i=kAt κ xs q:=by
  intro i h1 h2;have g:=zeu hzm i;rw[if_pos ⟨h1,h2⟩,yaW (show i - (sa+k) < m.size by omega)]at g;have hmem:m[i - (sa+k)]'(by omega)∈m.toList:=by simp
  rcases yaj.mp (hp.mem_iff.mp hmem) with z | z
  ·obtain ⟨q,q1,q2,e⟩:=zgO (by omega) z;exact ⟨q,q1,by omega,zbj (g.trans e.symm)⟩
  ·obtain ⟨q,q1,q2,e⟩:=zgO (by omega) z;exact ⟨q,by omega,q2,zbj (g.trans e.symm)⟩
 have outm:∀ i,(i < sa+k∨sa+k+m.size≤i)→kAt κ (back xs (sa+k) m) i=kAt κ xs i:=fun i h=>zbj (by rw[zeu hzm,if_neg (by omega)]);have am:∀ i q,sa≤i→i < sa+k→sa+k≤q→q < sa+na+nb→κ.kle (kAt κ xs i) (kAt κ xs q):=fun i q h1 h2 h3 h4=>by
  by_cases z:q < sa+na
  ·exact ua i q h1 (by omega) z
  ·have t:=k2 (i - sa) (by omega);rw[show sa+(i - sa)=i by omega]at t;exact KeyOrd.kle_trans t (ub _ q (yaa _) (by omega) h4)
 have mc:∀ q j,sa+k≤q→q < sa+na+nb'→sa+na+nb'≤j→j < sa+na+nb→κ.kle (kAt κ xs q) (kAt κ xs j):=fun q j h1 h2 h3 h4=>by
  by_cases z:q < sa+na
  ·have t:=c3 (j - (sa+na)) (by omega) (by omega);rw[show sa+na+(j - (sa+na))=j by omega]at t;exact KeyOrd.kle_trans (ua q (sa+na - 1) (by omega) (by omega) (by omega)) t
  ·exact ub q j (by omega) (by omega) h4
 refine ⟨⟨ycv.mpr perm,fun i hi=>by rw[zeu hzm,if_neg (by omega)]⟩,fun i j h1 h2 h3=>?_⟩;by_cases i1:i < sa+k
 ·rw[outm i (.inl i1)];by_cases j1:j < sa+k
  ·rw[outm j (.inl j1)];exact ua i j h1 h2 (by omega)
  ·by_cases j2:j < sa+k+m.size
   ·obtain ⟨q,q1,q2,e⟩:=inm j (by omega) j2;rw[e];exact am i q h1 i1 q1 (by omega)
   ·rw[outm j (.inr (by omega))];exact am i j h1 i1 (by omega) (by omega)
 ·by_cases i2:i < sa+k+m.size
  ·by_cases j2:j < sa+k+m.size
   ·by_cases e:i=j
    ·subst e;exact KeyOrd.kle_refl _
    ·have gi:=zeu hzm i;have gj:=zeu hzm j;rw[if_pos ⟨by omega,i2⟩]at gi;rw[if_pos ⟨by omega,j2⟩]at gj;rw[zbj gi,zbj gj,zba (show i - (sa+k) < m.size by omega),zba (show j - (sa+k) < m.size by omega)];have:=ybd.mp hm.srt (i - (sa+k)) (j - (sa+k)) (by rw[yav];omega) (by rw[yav];omega) (by omega);simpa [le] using this
   ·obtain ⟨q,q1,q2,e⟩:=inm i (by omega) i2;rw[e,outm j (.inr (by omega))];exact mc q j q1 q2 (by omega) (by omega)
  ·rw[outm i (.inr (by omega)),outm j (.inr (by omega))];exact ub i j (by omega) h2 (by omega)
theorem zkM {xs:Array Keyed}{sa na nb:Nat}(ua:Up κ xs sa (sa+na))(ub:Up κ xs (sa+na) (sa+na+nb))(hna:0 < na)(hle:κ.kle (kAt κ xs (sa+na - 1)) (kAt κ xs (sa+na))):Up κ xs sa (sa+(na+nb)):=by
 intro i j h1 h2 h3;by_cases z:j < sa+na
 ·exact ua i j h1 h2 z
 ·by_cases y:i < sa+na
  ·exact KeyOrd.kle_trans (ua i (sa+na - 1) h1 (by omega) (by omega)) (KeyOrd.kle_trans hle (ub (sa+na) j (yaa _) (by omega) (by omega)))
  ·exact ub i j (by omega) h2 (by omega)
end
end Tim
namespace Tim
open PySem PyProof.Rows
set_option autoImplicit false
theorem ziB (i:Nat):mergeAt' i=(do
 let s ← get
 let (some (sa,na,power),some (sb,nb,_)):=((pendingOf s)[i]?,(pendingOf s)[i+1]?) | unsupported "internal:list.sort.pending"
 set (setPending s (((pendingOf s).setIfInBounds i (sa,na+nb,power)).eraseIdxIfInBounds (i+1)))
 let some k ← ziK false (← elem' (arrOf s) sb) (arrOf s) sa na 0 | return false
 let (sa,na):=(sa+k,na - k)
 if na == 0 then return true
 let some nb ← ziK true (← elem' (arrOf s) (sa+na - 1)) (arrOf s) sb nb (nb - 1) | return false
 if nb == 0 then return true
 let x:=(arrOf s).extract sa sb
 let y:=(arrOf s).extract sb (sb+nb)
 let merged ← if na≤nb then zjB x y else zjC x y
 modify fun s=>setArr s (merged.toList.zipIdx.foldl (fun a (p,j)=>a.setIfInBounds (sa+j) p) (arrOf s))
 return (failedOf (← get)).isNone):=rfl
section
variable {prog:Program}{w:World}{A:Around}{E:Value→Shared→Prop}{s:Shared}{κ:KeyKind}{kd:SortKind}
theorem zoO {σ:Type}{x:σ}{Q:PUnit→σ→Prop}{st:σ}(h:Q ⟨⟩ x):wpS (model prog w) A E s (set x:StateT σ Sem PUnit) Q st:=by
 unfold wpS;rw[StateT.run_set];exact wpAny_pure ⟨rfl,h⟩
set_option maxHeartbeats 4000000 in
theorem zjW {st:SortSt}{N i sa na pa nb pb:Nat}{Q:Bool→SortSt→Prop}(hO:LtG prog w A s κ kd)(hB:TB κ kd N st)
  (h1:(pendingOf st)[i]?=some (sa,na,pa)) (h2:(pendingOf st)[i+1]?=some (sa+na,nb,pb)) (hna:0 < na) (hnb:0 < nb) (hz:sa+na+nb≤N)
  (ua:Up κ (arrOf st) sa (sa+na)) (ub:Up κ (arrOf st) (sa+na) (sa+na+nb))
  (h:∀ st',TB κ kd N st'→Off (arrOf st) (arrOf st') sa (sa+(na+nb))→Up κ (arrOf st') sa (sa+(na+nb))→pendingOf st'=((pendingOf st).setIfInBounds i (sa,na+nb,pa)).eraseIdxIfInBounds (i+1)→Q true st') :
  wpS (model prog w) A E s (mergeAt' i) Q st:=by
 have hsz:=hB.size;rw[ziB];refine wpS_bind (wpS_get ?_);rw[h1,h2];dsimp only;refine wpS_bind (zoO ?_);generalize hp:((pendingOf st).setIfInBounds i (sa,na+nb,pa)).eraseIdxIfInBounds (i+1)=pend at h;have same:∀ st',SG (setPending st pend) st'→TB κ kd N st'∧arrOf st'=arrOf st∧pendingOf st'=pend:=fun st' g=>by
  have ga:arrOf st'=arrOf st:=g.arr;refine ⟨⟨g.kind.trans hB.kind,by rw[ga];exact hB.keys,g.failed.trans hB.failed,by rw[ga];exact hB.size⟩,ga,g.pend⟩
 obtain ⟨B0,_,_⟩:=same _ (SG.refl _);have hbz:sa+na < (arrOf st).size:=by omega
 refine wpS_bind (za8 hbz ?_);refine wpS_bind (zcC hO B0.kind (hB.keys _ (by simp)) hB.keys (by omega) hna ua fun k k1 k2 k3=>?_);dsimp only;have kk:kAt κ (arrOf st) (sa+na)=ky κ (arrOf st)[sa+na]:=zba hbz;have k2':∀ i,i < k→κ.kle (kAt κ (arrOf st) (sa+i)) (kAt κ (arrOf st) (sa+na)):=fun i hi=>by
  have:=k2 i hi;unfold bey at this;simp only[yaK,if_false,ybC]at this;rw[kk];exact this
 have k3':∀ i,k≤i→i < na→κ.klt (kAt κ (arrOf st) (sa+na)) (kAt κ (arrOf st) (sa+i)):=fun i hi hj=>by
  have:=k3 i hi hj;unfold bey at this;simp only[yaK,if_false,ycw]at this;rw[kk];exact this
 by_cases e1:na - k=0
 ·rw[if_pos (by simpa using e1)];obtain ⟨b1,b2,b3⟩:=same _ (SG.refl _);refine wpS_pure (h _ b1 (by rw[b2];exact Off.refl _ _ _) ?_ b3);rw[b2];refine zkM ua ub hna ?_;have:=k2' (na - 1) (by omega);rwa[show sa+(na - 1)=sa+na - 1 by omega]at this
 rw[if_neg (by simpa using e1)];have e2:sa+k+(na - k) - 1=sa+na - 1:=by omega
 have hlz:sa+k+(na - k) - 1 < (arrOf st).size:=by omega
 refine wpS_bind (za8 hlz ?_);refine wpS_bind (zcC hO B0.kind (hB.keys _ (by simp)) hB.keys (by omega) (by omega) ub fun c c1 c2 c3=>?_);dsimp only;have ck:ky κ ((arrOf st)[sa+k+(na - k) - 1]'hlz)=kAt κ (arrOf st) (sa+na - 1):=by
  rw[← zba hlz,e2]
 have c2':∀ i,i < c→κ.klt (kAt κ (arrOf st) (sa+na+i)) (kAt κ (arrOf st) (sa+na - 1)):=fun i hi=>by
  have:=c2 i hi;unfold bey at this;simp only[if_true]at this;rw[← ck];exact this
 have c3':∀ i,c≤i→i < nb→κ.kle (kAt κ (arrOf st) (sa+na - 1)) (kAt κ (arrOf st) (sa+na+i)):=fun i hi hj=>by
  have:=c3 i hi hj;unfold bey at this;simp only[if_true]at this;rw[← ck];exact this
 by_cases e3:c=0
 ·rw[if_pos (by simpa using e3)];obtain ⟨b1,b2,b3⟩:=same _ (SG.refl _);refine wpS_pure (h _ b1 (by rw[b2];exact Off.refl _ _ _) ?_ b3);rw[b2];exact zkM ua ub hna (c3' 0 (by omega) hnb)
 rw[if_neg (by simpa using e3)];generalize hX:(arrOf st).extract (sa+k) (sa+na)=X;generalize hY:(arrOf st).extract (sa+na) (sa+na+c)=Y;have xl:X.toList=seg (arrOf st) (sa+k) (na - k):=by
  have:=zgP (xs:=arrOf st) (lo:=sa+k) (n:=na - k);rw[← hX];rwa[show sa+k+(na - k)=sa+na by omega]at this
 have yl:Y.toList=seg (arrOf st) (sa+na) c:=by rw[← hY];exact zgP
 have xz:X.size=na - k:=by
  have:=congrArg List.length xl;rwa[yav,zb9 (by omega)]at this
 have yz:Y.size=c:=by
  have:=congrArg List.length yl;rwa[yav,zb9 (by omega)]at this
 have xg:∀ i (hi:i < X.size),X[i]=(arrOf st)[sa+k+i]'(by omega):=fun i hi=>by
  have e:X[i]?=(arrOf st)[sa+k+i]?:=by
   rw[← yaY,xl];exact zfs (by omega) (by omega)
  rw[yaW hi,yaW (by omega)]at e;exact yad e
 have yg:∀ i (hi:i < Y.size),Y[i]=(arrOf st)[sa+na+i]'(by omega):=fun i hi=>by
  have e:Y[i]?=(arrOf st)[sa+na+i]?:=by
   rw[← yaY,yl];exact zfs (by omega) (by omega)
  rw[yaW hi,yaW (by omega)]at e;exact yad e
 have xm:∀ q∈X.toList,∃ i,k≤i∧i < na∧ky κ q=kAt κ (arrOf st) (sa+i)∧q∈(arrOf st).toList:=fun q hq=>by
  rw[xl]at hq;obtain ⟨j,j1,j2,e⟩:=zgO (by omega) hq;refine ⟨j - sa,by omega,by omega,?_,?_⟩
  ·rw[show sa+(j - sa)=j by omega,zcY e]
  ·rw[← yaY]at e;exact yaD e
 have ym:∀ q∈Y.toList,∃ i,i < c∧ky κ q=kAt κ (arrOf st) (sa+na+i)∧q∈(arrOf st).toList:=fun q hq=>by
  rw[yl]at hq;obtain ⟨j,j1,j2,e⟩:=zgO (by omega) hq;refine ⟨j - (sa+na),by omega,?_,?_⟩
  ·rw[show sa+na+(j - (sa+na))=j by omega,zcY e]
  ·rw[← yaY]at e;exact yaD e
 have kX:∀ q∈X.toList,Keyd κ q:=fun q hq=>by obtain ⟨_,_,_,_,z⟩:=xm q hq;exact hB.keys q z
 have kY:∀ q∈Y.toList,Keyd κ q:=fun q hq=>by obtain ⟨_,_,_,z⟩:=ym q hq;exact hB.keys q z
 have sX:SL κ X.toList:=by
  rw[xl];exact zos (by omega) (fun i j q1 q2 q3=>ua i j (by omega) q2 (by omega))
 have sY:SL κ Y.toList:=by
  rw[yl];exact zos (by omega) (fun i j q1 q2 q3=>ub i j q1 q2 (by omega))
 have y0:∀(hb:0 < Y.size),ky κ Y[0]=kAt κ (arrOf st) (sa+na):=fun hb=>by
  rw[yg 0 hb,← zba];rfl
 have lo0:∀(hb:0 < Y.size),∀ q∈X.toList,le κ Y[0] q:=fun hb q hq=>by
  obtain ⟨i,i1,i2,e,_⟩:=xm q hq;unfold le;rw[y0 hb,e];exact KeyOrd.kle_of_klt (k3' i i1 i2)
 have xlast:∀(ha:X.size - 1 < X.size),ky κ X[X.size - 1]=kAt κ (arrOf st) (sa+na - 1):=fun ha=>by
  rw[xg _ ha,← zba];congr 1;omega
 have hi0:∀(ha:X.size - 1 < X.size),∀ q∈Y.toList,le κ q X[X.size - 1]:=fun ha q hq=>by
  obtain ⟨i,i1,e,_⟩:=ym q hq;unfold le;rw[xlast ha,e];exact KeyOrd.kle_of_klt (c2' i i1)
 have fin:∀ m st',zb1 κ X Y m→SG (setPending st pend) st'→wpS (model prog w) A E s (do
   modify fun s=>setArr s (m.toList.zipIdx.foldl (fun a (q:Keyed×Nat)=>a.setIfInBounds (sa+k+q.2) q.1) (arrOf s))
   return (failedOf (← get)).isNone) Q st':=fun m st' hm g=>by
  obtain ⟨b1,b2,b3⟩:=same _ g;refine wpS_bind (wpS_modify ?_);refine wpS_bind (wpS_get ?_);have hf:failedOf (setArr st' (m.toList.zipIdx.foldl (fun a (q:Keyed×Nat)=>a.setIfInBounds (sa+k+q.2) q.1) (arrOf st')))=none:=b1.failed;rw[hf];rw[← hX,← hY]at hm;obtain ⟨o1,o2⟩:=zkg (by omega) ua ub (by omega) c1 (by omega) k2' c3' hm;refine wpS_pure (h _ ?_ ?_ ?_ b3)
  ·refine b1.off (lo:=sa) (hi:=sa+(na+nb)) ?_;rw[b2];exact o1
  ·show Off (arrOf st) (back (arrOf st') (sa+k) m) _ _;rw[b2];exact o1
  ·show Up κ (back (arrOf st') (sa+k) m) _ _;rw[b2];exact o2
 by_cases e4:na - k≤c
 ·rw[if_pos e4];refine wpS_bind ?_;refine zjU hO B0.kind kX kY sX sY (by omega) (by omega) (lo0 _) ?_ fun m st' hm g=>fin m st' hm g;intro q hq i hi x hx;have:x=X[X.size - 1]'(by omega):=by
   rw[show i=X.size - 1 by omega,zep (by omega),yaX (by rw[yav];omega)]at hx;exact yag.mp hx
  rw[this];exact hi0 _ q hq
 ·rw[if_neg e4];refine wpS_bind ?_;exact zjV hO B0.kind kX kY sX sY (by omega) (by omega) (lo0 _) (hi0 (by omega)) fun m st' hm g=>fin m st' hm g
end
end Tim
namespace Tim
open PySem PyProof.Rows
set_option autoImplicit false
section
variable {κ:KeyKind}{xs ys:Array Keyed}
def Runs (κ:KeyKind)(xs:Array Keyed):List (Nat×Nat×Nat)→Nat→Nat→Prop
 | [],a,b=>a=b
 | (s,n,_)::r,a,b=>s=a∧0 < n∧Up κ xs a (a+n)∧Runs κ xs r (a+n) b
theorem Runs.le:∀{l:List (Nat×Nat×Nat)} {a b:Nat},Runs κ xs l a b→a+l.length≤b
 | [],_,_,h=>by rw[show _=_ from h];simp
 | (s,n,p)::r,a,b,⟨_,h1,_,h2⟩=>by
  have:=Runs.le h2;rw[yaI];omega
theorem Runs.split:∀{l m:List (Nat×Nat×Nat)} {a b:Nat},Runs κ xs (l++m) a b→∃ c,Runs κ xs l a c∧Runs κ xs m c b
 | [],m,a,b,h=>⟨a,rfl,h⟩
 | (s,n,p)::r,m,a,b,⟨h0,h1,h2,h3⟩=>by
  obtain ⟨c,c1,c2⟩:=Runs.split (l:=r) h3;exact ⟨c,⟨h0,h1,h2,c1⟩,c2⟩
theorem Runs.glue:∀{l m:List (Nat×Nat×Nat)} {a b c:Nat},Runs κ xs l a c→Runs κ xs m c b→Runs κ xs (l++m) a b
 | [],m,a,b,c,h,g=>by rw[show a=c from h];exact g
 | (s,n,p)::r,m,a,b,c,⟨h0,h1,h2,h3⟩,g=>⟨h0,h1,h2,Runs.glue h3 g⟩
theorem Up.off {lo hi a b:Nat}(h:Up κ xs a b)(o:Off xs ys lo hi)(d:b≤lo∨hi≤a):Up κ ys a b:=fun i j h1 h2 h3=>by
 rw[ziI o (by omega),ziI o (by omega)];exact h i j h1 h2 h3
theorem Runs.off {lo hi:Nat}(o:Off xs ys lo hi):∀{l:List (Nat×Nat×Nat)} {a b:Nat},Runs κ xs l a b→(b≤lo∨hi≤a)→Runs κ ys l a b
 | [],_,_,h,_=>h
 | (s,n,p)::r,a,b,⟨h0,h1,h2,h3⟩,d=>by
  have:=Runs.le h3;exact ⟨h0,h1,h2.off o (by omega),Runs.off o h3 (by omega)⟩
theorem zhE {α:Type}{x y v:α}{post:List α}:∀ pre:List α,((pre++x::y::post).set pre.length v).eraseIdx (pre.length+1)=pre++v::post
 | []=>rfl
 | p::pre=>by
  rw[List.cons_append,yaI,List.set_cons_succ,List.eraseIdx_cons_succ,zhE pre,List.cons_append]
end
section
variable {prog:Program}{w:World}{A:Around}{E:Value→Shared→Prop}{s:Shared}{κ:KeyKind}{kd:SortKind}
structure SI (κ:KeyKind)(kd:SortKind)(a₀:Array Keyed)(lo:Nat)(st:SortSt):Prop where
 tb:TB κ kd a₀.size st
 perm:(arrOf st).Perm a₀
 le:lo≤a₀.size
 runs:Runs κ (arrOf st) (pendingOf st).toList 0 lo
theorem zc4 {a₀:Array Keyed}{st:SortSt}{lo i:Nat}{Q:Bool→SortSt→Prop}(hO:LtG prog w A s κ kd)(hI:SI κ kd a₀ lo st)(hi:i+1 < (pendingOf st).size)
  (h:∀ st',SI κ kd a₀ lo st'→Off (arrOf st) (arrOf st') 0 lo→(pendingOf st').size+1=(pendingOf st).size→Q true st'):wpS (model prog w) A E s (mergeAt' i) Q st:=by
 have hl:(pendingOf st).toList.length=(pendingOf st).size:=yav;obtain ⟨pre,x,y,post,e,hp⟩:∃ pre x y post,(pendingOf st).toList=pre++x::y::post∧pre.length=i:=by
  refine ⟨(pendingOf st).toList.take i,(pendingOf st).toList[i]'(by omega),(pendingOf st).toList[i+1]'(by omega),(pendingOf st).toList.drop (i+2),?_,?_⟩
  ·rw[← yb7,← yb7,yaO]
  ·rw[yan];omega
 obtain ⟨sa,na,pa⟩:=x;obtain ⟨sb,nb,pb⟩:=y;have hr:=hI.runs;rw[e]at hr;obtain ⟨c,r1,h0,h1,ua,h2,h3,ub,r2⟩:=hr.split;subst h0 h2;have l1:=r2.le;have l0:=hI.le;have g1:(pendingOf st)[i]?=some (sa,na,pa):=by
  rw[← yaY,e,← hp];simp
 have g2:(pendingOf st)[i+1]?=some (sa+na,nb,pb):=by
  rw[← yaY,e,← hp,ya3 (by omega),show pre.length+1 - pre.length=1 by omega];rfl
 refine zjW hO hI.tb g1 g2 h1 h3 (by omega) ua ub fun st' b1 b2 b3 b4=>?_;have e':(pendingOf st').toList=pre++(sa,na+nb,pa)::post:=by
  rw[b4,Array.toList_eraseIdxIfInBounds,Array.toList_setIfInBounds,e,← hp];exact zhE pre
 refine h st' ⟨b1,b2.perm.trans hI.perm,hI.le,?_⟩ (b2.wide (yaJ _) (by omega)) ?_
 ·rw[e'];refine (r1.off b2 (.inl (yaa _))).glue ⟨rfl,by omega,b3,?_⟩;have:=r2.off b2 (.inr (by omega));rwa[show sa+na+nb=sa+(na+nb) by omega]at this
 ·have z1:=congrArg List.length e;have z2:=congrArg List.length e';rw[yav,yaq,yaI]at z1 z2;rw[yaI]at z1;omega
end
end Tim
namespace Tim
open PySem PyProof.Rows
set_option autoImplicit false
section
variable {prog:Program}{w:World}{A:Around}{E:Value→Shared→Prop}{s:Shared}{κ:KeyKind}{kd:SortKind}
theorem Runs.modify {xs:Array Keyed}{p:Nat}:∀{l:List (Nat×Nat×Nat)} {a b:Nat} (i:Nat),Runs κ xs l a b→Runs κ xs (l.modify i fun x=>(x.fst,x.2.fst,p)) a b
 | [],_,_,i,h=>by
  cases i <;> exact h
 | (s,n,q)::r,a,b,0,h=>h
 | (s,n,q)::r,a,b,i+1,⟨h0,h1,h2,h3⟩=>⟨h0,h1,h2,Runs.modify i h3⟩
theorem SI.setp {a₀:Array Keyed}{lo hi:Nat}{st:SortSt}{p:Array (Nat×Nat×Nat)}(hI:SI κ kd a₀ lo st)(hz:hi≤a₀.size)(hr:Runs κ (arrOf st) p.toList 0 hi):SI κ kd a₀ hi (setPending st p):=
 ⟨⟨hI.tb.kind,hI.tb.keys,hI.tb.failed,hI.tb.size⟩,hI.perm,hz,hr⟩
theorem SI.pushed {a₀:Array Keyed}{st:SortSt}{lo n:Nat}(hI:SI κ kd a₀ lo st)(hn:0 < n)(hz:lo+n≤a₀.size)(hU:Up κ (arrOf st) lo (lo+n)):SI κ kd a₀ (lo+n) (setPending st ((pendingOf st).push (lo,n,0))):=by
 refine hI.setp hz ?_;rw[ybO];exact hI.runs.glue ⟨rfl,hn,hU,rfl⟩
theorem SI.marked {a₀:Array Keyed}{st:SortSt}{lo p:Nat}(hI:SI κ kd a₀ lo st):SI κ kd a₀ lo (setPending st ((pendingOf st).modify ((pendingOf st).size - 1) fun x=>(x.fst,x.2.fst,p))):=by
 refine hI.setp hI.le ?_;rw[Array.toList_modify];exact hI.runs.modify _
theorem zmT {c:Prop}[Decidable c]{n:Nat}(h:2≤n):(if c then n - 2 - 1 else n - 2)+1 < n:=by
 split <;> omega
theorem zig {a₀:Array Keyed}{st:SortSt}{Q:Unit→SortSt→Prop}(hO:LtG prog w A s κ kd)(hI:SI κ kd a₀ 0 st)(h2:2≤a₀.size)
  (h:∀ st',(arrOf st').Perm a₀→failedOf st'=none→Up κ (arrOf st') 0 a₀.size→Q () st'):wpS (model prog w) A E s sortRuns' Q st:=by
 rw[sortRuns'_eq];refine wpS_bind (wpS_get ?_);dsimp only;simp only[hI.tb.size];generalize minRun' a₀.size a₀.size 0=mr;refine wpS_bind (wpS_mono (wpS_forRange (I:=fun x c st'=>∃ lo,c=(none,lo)∧x≤lo∧SI κ kd a₀ lo st') (Q:=fun c st'=>c=(none,a₀.size)∧SI κ kd a₀ a₀.size st') ?step ?fin ⟨0,rfl,yaa _,hI⟩) ?post)
 case fin=>
  rintro c st' ⟨lo,rfl,hx,hI'⟩;have e:lo=a₀.size:=by
   have:=hI'.le;omega
  subst e;exact ⟨rfl,hI'⟩
 case step=>
  rintro x c st' _ hx ⟨lo,rfl,hxl,hI'⟩;have hle:=hI'.le;dsimp only;by_cases hlo:lo ≥ a₀.size
  ·rw[if_pos hlo];have e:lo=a₀.size:=by omega
   subst e;exact wpS_pure ⟨rfl,hI'⟩
  ·rw[if_neg hlo];refine wpS_bind (zih hO hI'.tb (by omega) (by omega) fun r st2 hr=>?_);obtain ⟨n,ys,rfl,n1,n2,rfl,ho,hU⟩:=hr;have hI2:SI κ kd a₀ lo (setArr st' ys):=⟨hI'.tb.off ho,ho.perm.trans hI'.perm,hle,hI'.runs.off ho (.inl (yaa _))⟩;dsimp only;by_cases hmr:n < mr
   ·rw[if_pos hmr];refine wpS_bind (zcN (wpS_bind (zgA hO hI2.tb (by omega) (by omega) hU fun zs oz uz=>?_)));simp only[ybR,yaK,if_false];have hI3:SI κ kd a₀ lo (setArr st' zs):=⟨hI2.tb.off oz,oz.perm.trans hI2.perm,hle,hI2.runs.off oz (.inl (yaa _))⟩;refine wpS_bind (wpS_get ?_);cases hb:(pendingOf (setArr st' zs)).back? with
    | none=>
     dsimp only;exact wpS_bind (wpS_modify (wpS_pure ⟨_,rfl,by omega,hI3.pushed (by omega) (by omega) uz⟩))
    | some x1=>
     obtain ⟨s1,n1',p1⟩:=x1;dsimp only;refine wpS_bind (wpS_mono (wpS_forRange (I:=fun _ c st5=>c=(none,())∧SI κ kd a₀ lo st5∧Up κ (arrOf st5) lo (lo+(min (a₀.size - lo) mr))) (Q:=fun c st5=>c=(none,())∧SI κ kd a₀ lo st5∧Up κ (arrOf st5) lo (lo+(min (a₀.size - lo) mr))) ?_ (fun _ _ z=>z) ⟨rfl,hI3,uz⟩) ?_)
     ·rintro i c st5 _ _ ⟨rfl,hI5,hU5⟩;refine wpS_bind (wpS_get ?_);by_cases h1:(pendingOf st5).size > 1
      ·rw[if_pos h1,yaW (by omega)];obtain ⟨q1,q2,q3⟩:=(pendingOf st5)[(pendingOf st5).size - 2]'(by omega);dsimp only;split
       ·exact wpS_pure ⟨rfl,hI5,hU5⟩
       ·refine wpS_bind (zc4 hO hI5 (by omega) fun st6 h3 h4 _=>?_);simp only[ybR,yaK,if_false];exact wpS_pure ⟨rfl,h3,hU5.off h4 (.inr (yaa _))⟩
      ·rw[if_neg h1];exact wpS_pure ⟨rfl,hI5,hU5⟩
     ·rintro c st5 ⟨rfl,hI5,hU5⟩;dsimp only;exact wpS_bind (wpS_modify (wpS_bind (wpS_modify (wpS_pure ⟨_,rfl,by omega,SI.pushed (SI.marked hI5) (by omega) (by omega) hU5⟩))))
   ·rw[if_neg hmr];refine wpS_bind (wpS_get ?_);cases hb:(pendingOf (setArr st' ys)).back? with
    | none=>
     dsimp only;exact wpS_bind (wpS_modify (wpS_pure ⟨_,rfl,by omega,hI2.pushed (by omega) (by omega) hU⟩))
    | some x1=>
     obtain ⟨s1,n1',p1⟩:=x1;dsimp only;refine wpS_bind (wpS_mono (wpS_forRange (I:=fun _ c st5=>c=(none,())∧SI κ kd a₀ lo st5∧Up κ (arrOf st5) lo (lo+n)) (Q:=fun c st5=>c=(none,())∧SI κ kd a₀ lo st5∧Up κ (arrOf st5) lo (lo+n)) ?_ (fun _ _ z=>z) ⟨rfl,hI2,hU⟩) ?_)
     ·rintro i c st5 _ _ ⟨rfl,hI5,hU5⟩;refine wpS_bind (wpS_get ?_);by_cases h1:(pendingOf st5).size > 1
      ·rw[if_pos h1,yaW (by omega)];obtain ⟨q1,q2,q3⟩:=(pendingOf st5)[(pendingOf st5).size - 2]'(by omega);dsimp only;split
       ·exact wpS_pure ⟨rfl,hI5,hU5⟩
       ·refine wpS_bind (zc4 hO hI5 (by omega) fun st6 h3 h4 _=>?_);simp only[ybR,yaK,if_false];exact wpS_pure ⟨rfl,h3,hU5.off h4 (.inr (yaa _))⟩
      ·rw[if_neg h1];exact wpS_pure ⟨rfl,hI5,hU5⟩
     ·rintro c st5 ⟨rfl,hI5,hU5⟩;dsimp only;exact wpS_bind (wpS_modify (wpS_bind (wpS_modify (wpS_pure ⟨_,rfl,by omega,SI.pushed (SI.marked hI5) (by omega) (by omega) hU5⟩))))
 case post=>
  rintro c st' ⟨rfl,hI'⟩;dsimp only;refine wpS_bind (wpS_mono (wpS_forRange (I:=fun x c st''=>c=(none,())∧SI κ kd a₀ a₀.size st''∧(pendingOf st'').size+x≤a₀.size+1) (Q:=fun c st''=>c=(none,())∧SI κ kd a₀ a₀.size st''∧(pendingOf st'').size≤1) ?_ ?_ ⟨rfl,hI',?_⟩) ?_)
  ·rintro x c st'' _ hx ⟨rfl,hJ,hz⟩;refine wpS_bind (wpS_get ?_);by_cases h1:(pendingOf st'').size≤1
   ·rw[if_pos h1];exact wpS_pure ⟨rfl,hJ,h1⟩
   ·rw[if_neg h1];refine wpS_bind (zc4 hO hJ ?_ fun st3 h3 _ h4=>?_)
    ·exact zmT (by omega)
    ·simp only[ybR,yaK,if_false];exact wpS_pure ⟨rfl,h3,by omega⟩
  ·rintro c st'' ⟨rfl,hJ,hz⟩;exact ⟨rfl,hJ,by omega⟩
  ·have:=hI'.runs.le;rw[yav]at this;omega
  ·rintro c st'' ⟨rfl,hJ,hz⟩;dsimp only;refine wpS_pure (h _ hJ.perm hJ.tb.failed ?_);have hr:=hJ.runs;rw[← yav]at hz
   match e:(pendingOf st'').toList,hz,hr with
   | [],_,hr=>
    have:0=a₀.size:=hr;omega
   | [(s1,n1,p1)],_,hr=>
    obtain ⟨_,_,u,z⟩:=hr;have z:0+n1=a₀.size:=z;rw[z]at u;exact u
end
end Tim
namespace Tim
open PySem PyProof.Rows
set_option autoImplicit false
section
variable {prog:Program}{w:World}{A:Around}{E:Value→Shared→Prop}{s:Shared}{κ:KeyKind}{kd:SortKind}
def zeP (a:Addr)(h h':Heap):Prop:=∀ b o,b≠a→h.get? b=some o→h'.get? b=some o
def keyV (κ:KeyKind)(v:Value):κ.α:=(κ.keyOf v).getD κ.dflt
theorem zie:∀ vs:List Value,vs.zip vs=vs.map fun v=>(v,v)
 | []=>rfl
 | v::vs=>by rw[ycy,zie vs,yau]
theorem zg2 {vs:List Value}{p:Keyed}(h:p∈(pairsOf vs).toList):p.1=p.2∧p.1∈vs:=by
 have e:(pairsOf vs).toList=vs.zip vs:=by
  unfold pairsOf;simp
 rw[e]at h;rw[zie]at h;obtain ⟨v,hv,rfl⟩:=yaG.mp h;exact ⟨rfl,hv⟩
theorem zlt (vs:List Value):(pairsOf vs).toList.map (·.2)=vs:=by
 have e:(pairsOf vs).toList=vs.zip vs:=by
  unfold pairsOf;simp
 rw[e,zie,ybE];have z:((fun x:Keyed=>x.2) ∘ fun v:Value=>(v,v))=id:=rfl
 first
  | rw[z,List.map_id]
  | exact List.map_id vs
theorem zqC {vs:List Value}{xs:Array Keyed}(hp:xs.Perm (pairsOf vs))(hU:Up κ xs 0 (pairsOf vs).size) :
  (xs.toList.map (·.2)).Perm vs∧(xs.toList.map (·.2)).Pairwise (fun x y=>κ.kle (keyV κ x) (keyV κ y)):=by
 have hpl:=ycv.mp hp;refine ⟨?_,?_⟩
 ·have:=hpl.map (·.2);rwa[zlt]at this
 ·have hs:SL κ xs.toList:=zpx (by rw[hp.size_eq];exact hU);refine ybF.mpr (hs.imp_of_mem fun {a b} ha hb hab=>?_);have ea:=(zg2 (hpl.mem_iff.mp ha)).1;have eb:=(zg2 (hpl.mem_iff.mp hb)).1;unfold le ky at hab;unfold keyV;rw[← ea,← eb];exact hab
theorem zoq {a:Addr}{vs:List Value}{n:Nat}{P:Fin→Shared→Prop}(ho:s.heap.get? a=some (seqObj "list" vs.toArray n))(hz:vs.length≤sizeLine)(keys:∀ v∈vs,∃ k,κ.keyOf v=some k)
  (hlt:∀ h',zeP a s.heap h'→LtG prog w A { s with heap:=h' } κ kd)
  (hkd:∀(h':Heap) (E:Value→Shared→Prop) (Q:SortKind→Shared→Prop),zeP a s.heap h'→2≤vs.length→Q kd { s with heap:=h' }→wpAny (model prog w) A (keyKind' vs.toArray) Q E { s with heap:=h' })
  (h:∀ out:List Value,out.Perm vs→out.Pairwise (fun x y=>κ.kle (keyV κ x) (keyV κ y))→P (.done (.ret .none)) { s with heap:=sortedHeap s.heap a vs out.toArray }) :
  wpAny (model prog w) A (Builtin.«list.sort» ⟨[.ref a],[]⟩) P E s:=by
 rw[list_sort_plain];have hlt0:a < s.heap.objs.size:=yaf ho;refine wpAny_bind (listItems_at ho rfl ?_);refine wpAny_bind (listUpdate_at ho rfl ?_ (by simpa using hz) (yaJ _));obtain ⟨m,ho1⟩:∃ m,(s.heap.update a (Obj.mapSeq fun _=>#[])).get? a=some (seqObj "list" #[] m):=⟨_,get?_update_seq ho (fun _=>#[])⟩;refine wpAny_bind (seqEpoch_at ho1 rfl ?_);refine wpAny_bind (wpAny_newTuple ?_ (by simpa using hz));refine wpAny_bind (wpAny_newList ?_);refine wpAny_holding ?_;have z1:(s.heap.update a (Obj.mapSeq fun _=>#[])).objs.size=s.heap.objs.size:=by rw[Heap.size_update]
 have hk:zeP a s.heap (((s.heap.update a (Obj.mapSeq fun _=>#[])).push (seqObj "tuple" vs.toArray 0)).push (seqObj "list" #[] 0)):=fun b o hb e=>
  yah _ (yah _ ((ybo _ _ (Ne.symm hb)).trans e))
 have ho6:(((s.heap.update a (Obj.mapSeq fun _=>#[])).push (seqObj "tuple" vs.toArray 0)).push (seqObj "list" #[] 0)).get? a=some (seqObj "list" #[] m):=yah _ (yah _ ho1);show wpAny (model prog w) A _ P E { s with heap:=((s.heap.update a (Obj.mapSeq fun _=>#[])).push (seqObj "tuple" vs.toArray 0)).push (seqObj "list" #[] 0) };dsimp only;have fin:∀ st':SortSt,(arrOf st').Perm (pairsOf vs)→failedOf st'=none→Up κ (arrOf st') 0 (pairsOf vs).size→wpAny (model prog w) A (do
   let touched:=(← seqEpoch a) != m
   Builtin.List.listUpdate (.ref a) fun _=>(arrOf st').map (·.2)
   if let some e:=failedOf st' then rule "list.sort.comparison-raised";throw e
   if touched then rule "list.sort.modified";raiseError "ValueError" "list modified during sort"
   ret .none) P E { s with heap:=((s.heap.update a (Obj.mapSeq fun _=>#[])).push (seqObj "tuple" vs.toArray 0)).push (seqObj "list" #[] 0) }:=fun st' hp hf hU=>by
  refine wpAny_bind (seqEpoch_at ho6 rfl ?_);refine wpAny_bind (listUpdate_at ho6 rfl ?_ (yaJ _) (by
   refine yaA (Nat.le_of_eq ((Array.size_map ..).trans (hp.size_eq.trans (pairsOf_size _)))) ?_;omega))
  rw[hf];simp only[bne_self_eq_false,yaK,if_false];obtain ⟨o1,o2⟩:=zqC hp hU;have:=h _ o1 o2;have e:((arrOf st').toList.map (·.2)).toArray=(arrOf st').map (·.2):=by rw[← Array.toList_map,Array.toArray_toList]
  rw[e]at this;exact wpAny_pure this
 by_cases h2:vs.toArray.size < 2
 ·rw[if_pos h2,if_pos h2];refine wpAny_bind (wpAny_pure ?_);rw[StateT.run_pure];refine wpAny_bind (wpAny_pure ?_);refine fin (SortSt.mk' general' (vs.toArray.zip vs.toArray) #[] 7 none) (Array.Perm.refl _) rfl ?_;intro i j q1 q2 q3;have:i=j:=by
   rw[pairsOf_size]at q3;simp at h2;omega
  subst this;exact KeyOrd.kle_refl _
 ·rw[if_neg h2,if_neg h2];have h2':2≤vs.length:=by
   simp at h2;omega
  refine wpAny_bind (hkd _ _ _ hk h2' ?_);refine wpAny_bind (wpAny_mono (zig (κ:=κ) (hlt _ hk) (a₀:=pairsOf vs) (st:=SortSt.mk' kd (vs.toArray.zip vs.toArray) #[] 7 none)
   (Q:=fun _ st'=>(arrOf st').Perm (pairsOf vs)∧failedOf st'=none∧Up κ (arrOf st') 0 (pairsOf vs).size)
   ⟨⟨rfl,fun p hp=>keys _ (zg2 hp).2,rfl,rfl⟩,Array.Perm.refl _,yaJ _,rfl⟩ (by rw[pairsOf_size];omega) fun st' a1 a2 a3=>⟨a1,a2,a3⟩) ?_ fun _ _ e=>e)
  rintro ⟨⟨⟩,st'⟩ s' ⟨rfl,hp,hf,hs⟩;exact fin st' hp hf hs
theorem zfH {h:Heap}{a:Addr}{vs out:List Value}{n:Nat}(ho:h.get? a=some (seqObj "list" vs.toArray n)):zeP a h (sortedHeap h a vs out.toArray)∧∃ c,(sortedHeap h a vs out.toArray).get? a=some (seqObj "list" out.toArray c):=by
 unfold sortedHeap;refine ⟨fun b o hb e=>(ybo _ _ (Ne.symm hb)).trans (yah _ (yah _ ((ybo _ _ (Ne.symm hb)).trans e))),?_⟩;exact ⟨_,get?_update_seq (yah _ (yah _ (get?_update_seq ho (fun _=>#[])))) fun _=>out.toArray⟩
theorem zm1 {l:Addr}{vs:List Value}{Q:Value→Shared→Prop}(hl:s.heap.IsList l vs.toArray)(hz:vs.length≤sizeLine)(keys:∀ v∈vs,∃ k,κ.keyOf v=some k)
  (hlt:∀ h',(∀ b o,s.heap.get? b=some o→h'.get? b=some o)→LtG prog w A.in1.in1 { s with heap:=h' } κ kd)
  (hkd:∀(h':Heap) (E:Value→Shared→Prop) (Q:SortKind→Shared→Prop),(∀ b o,s.heap.get? b=some o→h'.get? b=some o)→2≤vs.length→Q kd { s with heap:=h' }→wpAny (model prog w) A.in1.in1 (keyKind' vs.toArray) Q E { s with heap:=h' })
  (h:∀(out:List Value) (h':Heap) (c:Nat),out.Perm vs→out.Pairwise (fun x y=>κ.kle (keyV κ x) (keyV κ y))→(∀ b o,s.heap.get? b=some o→h'.get? b=some o)→
   h'.get? (s.heap.objs.size+1)=some (seqObj "list" out.toArray c)→Q (.ref (s.heap.objs.size+1)) { s with heap:=h' }) :
  wpAny (model prog w) A (call (.builtin "sorted") [.ref l]) Q E s:=by
 refine Calls.call_function_entry kind_sorted plain_sorted entry_sorted (args_sorted1 _) ?_;unfold Builtin.«sorted»;refine wpAny_bind (m:=checkCount "sorted" 1 1 _) (wpAny_pure ?_);refine wpAny_bind (collect_list hl ?_ hz);refine wpAny_bind (wpAny_newList ?_ (by simpa using hz));have z1:((s.heap.push (seqObj "list" #[] 0)).update s.heap.objs.size (Obj.mapSeq (· ++ vs.toArray))).objs.size=s.heap.objs.size+1:=by
  rw[Heap.size_update,size_push']
 have hn:(((s.heap.push (seqObj "list" #[] 0)).update s.heap.objs.size (Obj.mapSeq (· ++ vs.toArray))).push (seqObj "list" vs.toArray 0)).get? (s.heap.objs.size+1)=some (seqObj "list" vs.toArray 0):=by
  rw[← z1];exact yaB _ rfl
 have hk:∀ b o,s.heap.get? b=some o→(((s.heap.push (seqObj "list" #[] 0)).update s.heap.objs.size (Obj.mapSeq (· ++ vs.toArray))).push (seqObj "list" vs.toArray 0)).get? b=some o:=fun b o e=>
  yah _ ((ybo _ _ (ybi (yaf e))).trans (yah _ e))
 show wpAny _ _ _ _ _ { s with heap:=((s.heap.push (seqObj "list" #[] 0)).update s.heap.objs.size (Obj.mapSeq (· ++ vs.toArray))).push (seqObj "list" vs.toArray 0) };rw[z1];generalize ((s.heap.push (seqObj "list" #[] 0)).update s.heap.objs.size (Obj.mapSeq (· ++ vs.toArray))).push (seqObj "list" vs.toArray 0)=h1 at hn hk ⊢;have up:∀ h',zeP (s.heap.objs.size+1) h1 h'→∀ b o,s.heap.get? b=some o→h'.get? b=some o:=fun h' kb b o e=>kb b o (fun z=>by
  have:=yaf e;rw[z]at this;exact absurd this (Nat.not_lt.mpr (ya9 _))) (hk b o e)
 refine wpAny_bind (wpAny_holding (wpAny_call_entry slot_list_sort ⟨_,hn,rfl⟩ entry_list_sort (zoq (s:={ s with heap:=h1 }) hn hz keys (fun h' kb=>hlt h' (up h' kb)) (fun h' E Q kb h2 q=>hkd h' E Q (up h' kb) h2 q) fun out p1 p2=>⟨_,rfl,?_⟩) (args_list_sort _)));obtain ⟨kb,c,hc⟩:=zfH (out:=out) hn;exact wpAny_pure ⟨_,rfl,h out _ c p1 p2 (up _ kb) hc⟩
end
end Tim
namespace L2
open PySem PySem.Spec PyProof.Rows
structure DF (K:Frag)(mg:Str→Option Value)(x:Str)(st:Stmt)(ps:List Str):Prop where
 ex:∃ f fd,Fun K x x st f fd∧zcZ K fd ps []∧mg x=some (.ref f)
structure FC (P:Program)(w:World)(K:Frag)(mg:Str→Option Value)(base:Heap)(k:Nat)(x:Str)(ps:List Str)(sp:Sp):Prop where
 ex:∃ f fd,FnOk P w K mg base CX0 k f fd ps sp∧zcZ K fd ps []∧keepIn K (.ref f)=true∧mg x=some (.ref f)∧∃ oc od osl,K.lookup f=some ⟨oc,od,.func fd,osl⟩
theorem FC.at {P:Program}{w:World}{K:Frag}{mg:Str→Option Value}{base:Heap}{k:Nat}{x:Str}{ps:List Str}{sp:Sp}{f:Addr}{fd:FuncData}{oc:Value}{od:Option Addr}{osl:Array (Option Value)}(F:FC P w K mg base k x ps sp)(m:mg x=some (.ref f))(l:K.lookup f=some ⟨oc,od,.func fd,osl⟩):FnOk P w K mg base CX0 k f fd ps sp:=by
 obtain ⟨f',fd',ok,_,_,m',oc',od',osl',l'⟩:=F.ex;rw[m]at m';cases m'
 rw[l]at l';cases l'
 exact ok
theorem DF.ok {P:Program}{w:World}{K:Frag}{mg:Str→Option Value}{base:Heap}{x:Str}{st:Stmt}{N ps:List Str}{k:Nat}{sp:Sp}(D:DF K mg x st ps)(S:zap N ps (zah st))(len:∀ vs H Q E,sp vs H Q E→vs.length=ps.length)
  (hbody:∀(f:Addr) (cdv:Value) (A:Around) (outer:List Env) (s:Shared) (H:Hp) (vs:List V) (Q:VK) (E:XK),Room k (A.deeper (envOfC x (zah st) s.heap.objs.size f cdv))→sp vs H Q E→
   ∃ t,PSs (cxOf CX0 P w K mg base N x (zah st) f cdv A outer s H E).nox (zaW st) t∧t { nx:=fun _ H'=>Q .non H',rt:=Q } (zcO N vs) H):FC P w K mg base (k+1) x ps sp:=by
 obtain ⟨f,fd,F,b,m⟩:=D.ex;exact ⟨f,fd,F.ok S len fun cdv A outer s H vs Q E hr h=>hbody f cdv A outer s H vs Q E hr h,b,F.kp,m,by
  obtain ⟨oc,od,kV,doc,pm,an,cdv,ct,osl,rfl,lk,hcd⟩:=F.ex;exact ⟨oc,od,osl,lk⟩⟩
theorem zax {X:Cx}{j k:Nat}{x:Str}{ps:List Str}{sp:Sp}{e:Expr}{es:List Expr}{t:TA}{p pos:Pos}(F:FC X.prog X.w X.K X.mg X.base j x ps sp)(hr:Room k X.A)(ha:PA X (e::es) t)(hjk:j≤k:=by decide)(hg:Gl X x:=by rfl)
  (hdb:(x == ("__debug__" : Str))=false:=by decide) (he:starEach (e::es) X.env=(false,eval e X.env)::starEach es X.env:=by rfl) (hpl:(backTo pos (starEach es X.env)).any (·.1)=false:=by rfl):PE X (.Call (.Name x p) (e::es) [] pos) (zoW sp [] E0 t):=by
 obtain ⟨f,fd,ok,b,kp,m,_⟩:=F.ex;exact zpf ok (hr.mono hjk) hg m kp b .nil zlq ha hdb he hpl
def zp7 (t u:TS):TS:=fun D σ H=>∃ M:St→Hp→Prop,t { D with nx:=M } σ H∧∀ σ' H',M σ' H'→u D σ' H'
theorem zay {X:Cx}{st:Stmt}{rest:List Stmt}{t u:TS}(h1:PS X st t)(h2:PSs X rest u):PSs X (st::rest) (zp7 t u):=by
 intro pins s σ H D I h;obtain ⟨M,h,hM⟩:=h;refine wpAny_execs_cons (thn (h1 pins s σ H { D with nx:=M } I h) fun f s1 q=>?_);cases f with
 | next=>
  obtain ⟨σ',H',I',q⟩:=q;exact h2 pins s1 σ' H' D I' (hM σ' H' q)
 | ret v=>exact q
 | brk=>exact q
 | cont=>exact q
def zrV (i j:Int):Prop:=0 < j∧j < 2 ^ 4000
section
variable {X:Cx}
def kitO (a b:String):Option Bool:=if (Value.type a == Value.type b)=true then some true else if PySem.W.kitMeta b=true then (PySem.fastBuiltinMro a).map (·.contains (.type b)) else none
theorem zpA {K:Frag}{a b:String}:kitOne K (.type a) (.type b)=kitO a b:=rfl
def rIsi (K:Frag):List V→Hp→VK→Prop:=fun xs H Q=>∃ x n t b,xs=[x,.ty n]∧TyOf K H x (.type t)∧kitO t n=some b∧Q (.bl b) H
theorem zjQ:zbG X (.builtin "isinstance") (rIsi X.K):=by
 intro pins s σ H xs us Q I r h;obtain ⟨x,n,t,b,e,ty,ki,q⟩:=h;subst e;obtain ⟨u,w',e,r1,r2⟩:=zf5 r;subst e;cases r2
 exact zl9 I r1 ty (zpA.trans ki) fun tk=>⟨.bl b,H,I.tok tk,rfl,q⟩
theorem zq7:kitO "int" "int" = some true:=by decide +kernel
theorem zq8:kitO "int" "bool" = some false:=by decide +kernel
theorem zq9:kitO "bool" "bool" = some true:=by decide +kernel
def zo6:V→List V→Hp→VK→Prop:=fun x xs H Q=>∃ i,x=.int i∧xs=[]∧Q (.int (Builtin.Int.intBits i:Nat)) H
theorem zha:MtR X "int.bit_length" zo6:=by
 intro pins s σ H x xs v us Q I rx rv h;obtain ⟨i,rfl,rfl,q⟩:=h;obtain ⟨t,rfl⟩:=rx;cases rv
 exact call_int_bit_length ⟨.int _,H,I.tok _,⟨_,rfl⟩,q⟩
end
theorem zl8 {c A B:Prop}[Decidable c](hc:¬ c)(h:B):if decide c=true then A else B:=by
 rw[yai hc];exact iteF h
theorem zpB {c A B:Prop}[Decidable c](hc:c)(h:A):if decide c=true then A else B:=by
 rw[yal hc];exact iteT h
def zcX (L:Addr)(a l:Int):HO:=.dK [(.inr "script",.ref L),(.inr "at",.int a),(.inr "left",.int l)]
def Keep (d:Addr)(H H':Hp):Prop:=∀ b o,b≠d→H b=some o→H' b=some o
theorem Keep.refl (d:Addr)(H:Hp):Keep d H H:=fun _ _ _ h=>h
theorem Keep.trans {d:Addr}{H H1 H2:Hp}(a:Keep d H H1)(b:Keep d H1 H2):Keep d H H2:=fun c o n h=>b c o n (a c o n h)
theorem Same.keep {d:Addr}{H H':Hp}(s:Same H H'):Keep d H H':=fun b o _ h=>s b o h
structure LS (K:Frag)(L d:Addr)(H:Hp):Prop where
 ex:∃(ns:List Int) (a l:Int),H d=some (zcX L a l)∧SqL K H L (ns.map V.int)
theorem ze6 {K:Frag}{H H':Hp}{L d:Addr}{xs:List V}{L':Addr}{a l:Int}(hd:H d=some (zcX L' a l))(k:Keep d H H')(h:SqL K H L xs):SqL K H' L xs:=by
 have ne:∀ o,H L=some o→(∀ kvs,o≠.dK kvs)→L≠d:=fun o e n z=>by
  rw[z,hd]at e;cases e
  exact n _ rfl
 rcases h with (h | ⟨o,h⟩) | h
 ·exact .inl (.inl (k L _ (ne _ h (fun _ z=>nomatch z)) h))
 ·exact .inl (.inr ⟨o,k L _ (ne _ h (fun _ z=>nomatch z)) h⟩)
 ·exact .inr h
theorem LS.set {K:Frag}{d L:Addr}{H:Hp}{ns:List Int}{a l a' l':Int}(hd:H d=some (zcX L a l))(h:SqL K H L (ns.map V.int)):LS K L d (upd H d (zcX L a' l'))∧Keep d H (upd H d (zcX L a' l')):=by
 have k:Keep d H (upd H d (zcX L a' l')):=fun b o n e=>by rw[zag n];exact e
 exact ⟨⟨ns,a',l',zab,ze6 hd k h⟩,k⟩
theorem LS.same {K:Frag}{L d:Addr}{H H':Hp}(s:LS K L d H)(k:Same H H'):LS K L d H':=by
 obtain ⟨ns,a,l,e,q⟩:=s.ex;exact ⟨ns,a,l,k _ _ e,k.seq q⟩
theorem zaf {H:Hp}{p:Addr}(h:H p=none)(o:HO):Same H (upd H p o):=fun b u q=>by rw[zag (zac q h)];exact q
theorem LS.put {K:Frag}{L d p:Addr}{H0 H2:Hp}{o:HO}(s:LS K L d H0)(hp:H0 p=none)(k:∀ b o,b≠d→b≠p→H0 b=some o→H2 b=some o)(s2:LS K L d H2):LS K L d (upd H2 p o):=by
 obtain ⟨ns,a,l,e,q⟩:=s.ex;obtain ⟨ns2,a2,l2,e2,_⟩:=s2.ex;have hdp:d≠p:=zac e hp;have go:∀ u,H0 L=some u→(∀ kvs,u≠.dK kvs)→upd H2 p o L=some u:=fun u hu hn=>by
  have h1:L≠p:=zac hu hp;have h2:L≠d:=fun z=>by
   rw[z,e]at hu;cases hu
   exact hn _ rfl
  rw[zag h1];exact k L u h2 h1 hu
 refine ⟨ns,a2,l2,by rw[zag hdp];exact e2,?_⟩;rcases q with (h | ⟨ob,h⟩) | h
 ·exact .inl (.inl (go _ h (fun _ z=>nomatch z)))
 ·exact .inl (.inr ⟨ob,go _ h (fun _ z=>nomatch z)⟩)
 ·exact .inr h
section
variable {H:Hp}{d L:Addr}{a l:Int}
theorem zdK {x y:Str}(h:x≠y):(Sum.inr x:Key)≠Sum.inr y:=fun z=>h (Sum.inr.inj z)
theorem zko (h:H d=some (zcX L a l)):DGet H d (.str "script") (some (.ref L)):=.inl ⟨_,.inr "script",.inl h,rfl,by rw[zco rfl]⟩
theorem zrg (h:H d=some (zcX L a l)):DGet H d (.str "at") (some (.int a)):=.inl ⟨_,.inr "at",.inl h,rfl,by rw[zbk (zdK (show ("script" : Str) ≠ "at" by decide +kernel)),zco rfl]⟩
theorem zhh (h:H d=some (zcX L a l)):DGet H d (.str "left") (some (.int l)):=.inl ⟨_,.inr "left",.inl h,rfl,by rw[zbk (zdK (show ("script" : Str) ≠ "left" by decide +kernel)),zbk (zdK (show ("at" : Str) ≠ "left" by decide +kernel)),zco rfl]⟩
theorem zox {k:Key}{v:V}{kvs kvs':List (Key×V)}(h:H d=some (.dK kvs))(hl:kvs.length < sizeLine)(e:putK kvs k v=kvs'):DPut H d (kV k) v (upd H d (.dK kvs')):=by
 subst e;exact DPut.k h hl
theorem zqw {a':Int}(h:H d=some (zcX L a l)):DPut H d (.str "at") (.int a') (upd H d (zcX L a' l)):=
 zox (k:=.inr "at") h (by show 3 < sizeLine;decide) (by
  unfold putK;rw[if_pos (by simp)];simp only[yau,ybM,if_neg (zdK (show ("script" : Str) ≠ "at" by decide +kernel)),if_neg (zdK (show ("left" : Str) ≠ "at" by decide +kernel)),if_true])
theorem zjt {l':Int}(h:H d=some (zcX L a l)):DPut H d (.str "left") (.int l') (upd H d (zcX L a l')):=
 zox (k:=.inr "left") h (by show 3 < sizeLine;decide) (by
  unfold putK;rw[if_pos (by simp)];simp only[yau,ybM,if_neg (zdK (show ("script" : Str) ≠ "left" by decide +kernel)),if_neg (zdK (show ("at" : Str) ≠ "left" by decide +kernel)),if_true])
end
def zhz (K:Frag):Sp:=fun vs H Q _=>∃(d L:Addr) (m:Int),vs=[.ref d,.int m]∧(0 < m∧m < 1073741824)∧LS K L d H∧∀(v:Int) (H':Hp),0≤v→v < m→Keep d H H'→LS K L d H'→Q (.int v) H'
def zk5:Sp:=fun vs H Q _=>∃ c k:Int,vs=[.int c,.int k]∧∀ v:Int,Q (.int v) H
def zlb (K:Frag):Sp:=fun vs H Q _=>∃(L:Addr) (ns:List Int),vs=[.ref L]∧SqL K H L (ns.map V.int)∧∀(d:Addr) (H':Hp),H d=none→Same H H'→LS K L d H'→Q (.ref d) H'
theorem zrp {ns:List Int}{k:Int}(h:0 < ns.length):∃ v:Int,atI (ns.map V.int) (k % (((ns.map V.int).length:Nat):Int))=some (.int v):=by
 have e:(ns.map V.int).length=ns.length:=yab _;have h1:(0:Int) < (((ns.map V.int).length:Nat):Int):=by rw[e];omega
 have z0:=ych k (Int.ne_of_gt h1);have z1:=yci k h1;generalize hj:k % (((ns.map V.int).length:Nat):Int)=j at z0 z1;rw[e]at z1;have hk:j.toNat < ns.length:=by omega
 obtain ⟨n,rfl⟩:∃ n:Nat,j=(n:Int):=⟨j.toNat,by omega⟩;have hn:n < ns.length:=by omega
 exact ⟨ns[n],zf1 (by rw[yap,yac hn];rfl)⟩
end L2
namespace L2
open PySem PySem.Spec PyProof.Rows PySem.SeqAt
def Ext (H H':Hp):Prop:=∀ b o,H b=some o→(∀ kvs,o≠.dK kvs)→H' b=some o
theorem Same.ext {H H':Hp}(s:Same H H'):Ext H H':=fun b o h _=>s b o h
theorem Keep.ext {d L:Addr}{a l:Int}{H H':Hp}(k:Keep d H H')(h:H d=some (zcX L a l)):Ext H H':=fun b o e n=>k b o (fun z=>by
 rw[z,h]at e;cases e
 exact n _ rfl) e
theorem LS.ext {K:Frag}{L d:Addr}{H H':Hp}(s:LS K L d H)(k:Keep d H H'):Ext H H':=by
 obtain ⟨ns,a,l,e,_⟩:=s.ex;exact k.ext e
theorem LS.of_new {K:Frag}{L d:Addr}{H:Hp}(s:LS K L d H){p:Addr}(hp:H p=none)(o:HO):LS K L d (upd H p o):=s.same (zaf hp o)
theorem SqL.ext {K:Frag}{H H':Hp}{a:Addr}{xs:List V}(e:Ext H H')(h:SqL K H a xs):SqL K H' a xs:=by
 rcases h with (h | ⟨o,h⟩) | h
 ·exact .inl (.inl (e _ _ h (fun _ z=>nomatch z)))
 ·exact .inl (.inr ⟨o,e _ _ h (fun _ z=>nomatch z)⟩)
 ·exact .inr h
theorem SqT.ext {K:Frag}{H H':Hp}{a:Addr}{xs:List V}(e:Ext H H')(h:SqT K H a xs):SqT K H' a xs:=by
 rcases h with (h | ⟨o,h⟩) | h
 ·exact .inl (.inl (e _ _ h (fun _ z=>nomatch z)))
 ·exact .inl (.inr ⟨o,e _ _ h (fun _ z=>nomatch z)⟩)
 ·exact .inr h
class Rep (α:Type) where
 dec:DecidableEq α
 depth:Nat
 has:Frag→Hp→α→V→Prop
 mono:∀{K:Frag} {H H':Hp} {a:α} {v:V},Ext H H'→has K H a v→has K H' a v
 inj:∀{X:Cx} {pins:List (Addr×Obj)} {σ:St} {H:Hp} {s:Shared} {a b:α} {v:V},Inv X pins σ H s→has X.K H a v→has X.K H b v→a=b
 rc:∀{X:Cx} {pins:List (Addr×Obj)} {σ:St} {H:Hp} {s:Shared} {A:Around} {a b:α} {x y:V} {u v:Value},Inv X pins σ H s→A.units+depth < cLine→has X.K H a x→has X.K H b y→RelV x u→RelV y v→RcAt A s u v (dec a b).decide
 rn:∀{X:Cx} {pins:List (Addr×Obj)} {σ:St} {H:Hp} {s:Shared} {A:Around} {a b:α} {x y:V} {u v:Value},Inv X pins σ H s→A.units+depth < cLine→has X.K H a x→has X.K H b y→RelV x u→RelV y v→RcNeAt A s u v (!(dec a b).decide)
 eq:∀{X:Cx} {pins:List (Addr×Obj)} {σ:St} {H:Hp} {s:Shared} {A:Around} {a b:α} {x y:V} {u v:Value},Inv X pins σ H s→A.units+depth < cLine→has X.K H a x→has X.K H b y→RelV x u→RelV y v→EqAt A s u v (dec a b).decide
instance (priority:=low) repDec {α:Type} [Rep α]:DecidableEq α:=Rep.dec
theorem ziV {i j:Int}:(i == j)=(Int.instDecidableEq i j).decide:=by
 by_cases h:i=j
 ·subst h;simp
 ·rw[beq_eq_false_iff_ne.mpr h];exact (yai h).symm
instance:Rep Int where
 dec:=Int.instDecidableEq
 depth:=0
 has:=fun _ _ i v=>v=.int i
 mono:=fun _ h=>h
 inj:=fun _ h1 h2=>V.int.inj (h1.symm.trans h2)
 rc:=fun _ _ h1 h2 r1 r2=>by
  subst h1 h2;obtain ⟨t,rfl⟩:=r1;obtain ⟨t',rfl⟩:=r2;rw[← ziV];exact RcAt.int_int _ _ _ _
 rn:=fun _ _ h1 h2 r1 r2=>by
  subst h1 h2;obtain ⟨t,rfl⟩:=r1;obtain ⟨t',rfl⟩:=r2;rw[← ziV];exact RcNeAt.int_int _ _ _ _
 eq:=fun _ _ h1 h2 r1 r2=>by
  subst h1 h2;obtain ⟨t,rfl⟩:=r1;obtain ⟨t',rfl⟩:=r2;rw[← ziV];exact EqAt.int_int _ _ _ _
instance:Rep Bool where
 dec:=instDecidableEqBool
 depth:=0
 has:=fun _ _ i v=>v=.bl i
 mono:=fun _ h=>h
 inj:=fun _ h1 h2=>V.bl.inj (h1.symm.trans h2)
 rc:=fun {_ _ _ _ _ _ a b _ _ _ _} _ _ h1 h2 r1 r2=>by
  subst h1 h2;cases r1
  cases r2
  have e:(a == b)=(instDecidableEqBool a b).decide:=by cases a <;> cases b <;> rfl
  rw[← e];exact RcAt.bool_bool _ _
 rn:=fun {_ _ _ _ _ _ a b _ _ _ _} _ _ h1 h2 r1 r2=>by
  subst h1 h2;cases r1
  cases r2
  have e:(a == b)=(instDecidableEqBool a b).decide:=by cases a <;> cases b <;> rfl
  rw[← e];exact RcNeAt.bool_bool _ _
 eq:=fun {_ _ _ _ _ _ a b _ _ _ _} _ _ h1 h2 r1 r2=>by
  subst h1 h2;cases r1
  cases r2
  have e:(a == b)=(instDecidableEqBool a b).decide:=by cases a <;> cases b <;> rfl
  rw[← e];exact EqAt.bool_bool _ _
theorem pImp {α β:Type}{R S:α→β→Prop}(h:∀ a b,R a b→S a b){as:List α}{bs:List β}(p:Paired R as bs):Paired S as bs:=by
 induction p with
 | nil=>exact .nil
 | cons a _ ih=>exact .cons (h _ _ a) ih
theorem pApp {α β:Type}{R:α→β→Prop}{as cs:List α}{bs ds:List β}(p:Paired R as bs)(q:Paired R cs ds):Paired R (as++cs) (bs++ds):=by
 induction p with
 | nil=>exact q
 | cons a _ ih=>exact .cons a ih
def zal {α:Type}[Rep α](K:Frag)(H:Hp):List α→List V→Prop:=Paired (Rep.has K H)
section
variable {α:Type}[Rep α]{K:Frag}{H H':Hp}
theorem zal.mono (e:Ext H H'){as:List α}{xs:List V}(h:zal K H as xs):zal K H' as xs:=pImp (fun _ _=>Rep.mono e) h
theorem zal.length {as:List α}{xs:List V}(h:zal K H as xs):as.length=xs.length:=Paired.length h
theorem zal.get:∀{as:List α} {xs:List V} {i:Nat} {x:V},zal K H as xs→xs[i]?=some x→∃ a,as[i]?=some a∧Rep.has K H a x
 | _,_,_,_,.nil,e=>by simp at e
 | _,_,0,_,.cons h _,e=>by simp at e;subst e;exact ⟨_,rfl,h⟩
 | _,_,i+1,x,.cons _ t,e=>by
  obtain ⟨a,h1,h2⟩:=zal.get (i:=i) (x:=x) t (by simpa using e);exact ⟨a,by simpa using h1,h2⟩
theorem zal.append {as bs:List α}{xs ys:List V}(h:zal K H as xs)(g:zal K H bs ys):zal K H (as++bs) (xs++ys):=pApp h g
theorem zal.ints:∀{ns:List Int},zal K H ns (ns.map V.int)
 | []=>.nil
 | _::_=>.cons rfl zal.ints
theorem zal.toInts {ns:List Int}{xs:List V}(h:zal K H ns xs):xs=ns.map V.int:=by
 unfold zal at h
 induction h with
 | nil=>rfl
 | cons h _ ih=>
  have e:_=V.int _:=h;rw[e,ih];rfl
theorem zal.inj {X:Cx}{pins:List (Addr×Obj)}{σ:St}{s:Shared}(I:Inv X pins σ H s){as bs:List α}{xs:List V}(h:zal X.K H as xs)(g:zal X.K H bs xs):as=bs:=by
 unfold zal at h g
 induction h generalizing bs with
 | nil=>cases g;rfl
 | cons h _ ih=>
  cases g with
  | cons h' t'=>rw[Rep.inj I h h',ih t']
end
theorem zeO {α:Type}[DecidableEq α]:∀(as bs:List α),as.length=bs.length→((List.range as.length).all fun j=>decide (as[j]?=bs[j]?))=decide (as=bs):=by
 intro as bs hl;by_cases h:as=bs
 ·subst h;simp
 ·rw[yai h,List.all_eq_false]
  false_or_by_contra
  rename_i z;apply h;apply ya4;intro i;by_cases hi:i < as.length
  ·false_or_by_contra
   rename_i q;exact z ⟨i,ya8.mpr hi,by simpa using q⟩
  ·rw[yaU (by omega),yaU (by omega)]
section
variable {α:Type}[r:Rep α]
theorem zcl {A:Around}:A.in1.units≤A.units+1:=by
 first
  | exact yaa _
  | (unfold Around.in1;simp)
theorem zfl {X:Cx}{pins:List (Addr×Obj)}{σ:St}{H:Hp}{s:Shared}{A:Around}{as bs:List α}{xs ys:List V}{us vs:List Value}(I:Inv X pins σ H s)(hu:A.units+Rep.depth α < cLine)
  (h1:zal X.K H as xs) (h2:zal X.K H bs ys) (r1:Vals xs us) (r2:Vals ys vs):∀ j (q1:j < us.toArray.size) (q2:j < vs.toArray.size),EqAt A s us.toArray[j] vs.toArray[j] (decide (as[j]?=bs[j]?)):=by
 intro j q1 q2;have l1:=r1.length;have l2:=r2.length;have m1:=h1.length;have m2:=h2.length;have j1:j < us.length:=by simpa using q1
 have j2:j < vs.length:=by simpa using q2
 obtain ⟨a,ea,ha⟩:=h1.get (i:=j) (yac (by omega));obtain ⟨b,eb,hb⟩:=h2.get (i:=j) (yac (by omega));obtain ⟨u,eu,ru⟩:=r1.get (i:=j) (yac (by omega));obtain ⟨v,ev,rv⟩:=r2.get (i:=j) (yac (by omega));have gu:us.toArray[j]=u:=by
  have:us[j]?=some us[j]:=yac j1;rw[eu]at this;simpa using (yad this).symm
 have gv:vs.toArray[j]=v:=by
  have:vs[j]?=some vs[j]:=yac j2;rw[ev]at this;simpa using (yad this).symm
 rw[gu,gv,ea,eb];have e:decide (some a=some b)=(Rep.dec a b).decide:=by
  by_cases z:a=b
  ·subst z;simp
  ·rw[yai (fun q=>z (yad q))];exact (yai z).symm
 rw[e];exact Rep.eq I hu ha hb ru rv
end
def hasL {α:Type}[Rep α](K:Frag)(H:Hp)(as:List α)(v:V):Prop:=∃ a xs,v=.ref a∧SqL K H a xs∧zal K H as xs
section
variable {α:Type}[r:Rep α]{X:Cx}{pins:List (Addr×Obj)}{σ:St}{H:Hp}{s:Shared}{A:Around}{as bs:List α}{x y:V}{u v:Value}
theorem znN (I:Inv X pins σ H s)(h1:hasL X.K H as x)(h2:hasL X.K H bs x):as=bs:=by
 obtain ⟨a,xs,rfl,q1,h1⟩:=h1;obtain ⟨b,ys,e,q2,h2⟩:=h2;cases e
 rw[I.list_inj q2 q1]at h2;exact h1.inj I h2
theorem zme (I:Inv X pins σ H s)(hu:A.units+(Rep.depth α+1) < cLine)(h1:hasL X.K H as x)(h2:hasL X.K H bs y)(r1:RelV x u)(r2:RelV y v):RcAt A s u v (decide (as=bs)):=by
 obtain ⟨a,xs,rfl,q1,h1⟩:=h1;obtain ⟨b,ys,rfl,q2,h2⟩:=h2;cases r1
 cases r2
 obtain ⟨us,ru,pu,_⟩:=I.list q1;obtain ⟨vs,rv,pv,_⟩:=I.list q2;have l1:=ru.length;have l2:=rv.length;have m1:=h1.length;have m2:=h2.length;have hin:A.in1.units+Rep.depth α < cLine:=ya2 (ybt zcl _) (by omega);by_cases hl:as.length=bs.length
 ·have e:=zeO as bs hl;rw[← e];have z:as.length=us.toArray.size:=by simp;omega
  rw[z];exact RcAt.lists pu.isList pv.isList (by simp;omega) (by omega) (zfl I hin h1 h2 ru rv)
 ·rw[yai (fun z=>hl (by rw[z]))];exact RcAt.lists_lengths pu.isList pv.isList (by simp;omega) (by omega)
theorem zpG (I:Inv X pins σ H s)(hu:A.units+(Rep.depth α+1) < cLine)(h1:hasL X.K H as x)(h2:hasL X.K H bs y)(r1:RelV x u)(r2:RelV y v):RcNeAt A s u v (!decide (as=bs)):=by
 obtain ⟨a,xs,rfl,q1,h1⟩:=h1;obtain ⟨b,ys,rfl,q2,h2⟩:=h2;cases r1
 cases r2
 obtain ⟨us,ru,pu,_⟩:=I.list q1;obtain ⟨vs,rv,pv,_⟩:=I.list q2;have l1:=ru.length;have l2:=rv.length;have m1:=h1.length;have m2:=h2.length;have hin:A.in1.units+Rep.depth α < cLine:=ya2 (ybt zcl _) (by omega);by_cases hl:as.length=bs.length
 ·have e:=zeO as bs hl;rw[← e];have z:as.length=us.toArray.size:=by simp;omega
  rw[z];exact RcNeAt.lists pu.isList pv.isList (by simp;omega) (by omega) (zfl I hin h1 h2 ru rv)
 ·rw[yai (fun z=>hl (by rw[z])),Bool.not_false];exact RcNeAt.lists_lengths pu.isList pv.isList (by simp;omega) (by omega)
theorem zpH (I:Inv X pins σ H s)(hu:A.units+(Rep.depth α+1) < cLine)(h1:hasL X.K H as x)(h2:hasL X.K H bs y)(r1:RelV x u)(r2:RelV y v):EqAt A s u v (decide (as=bs)):=by
 have rc:=zme (A:=A) I hu h1 h2 r1 r2;obtain ⟨a,xs,rfl,q1,h1⟩:=h1;obtain ⟨b,ys,rfl,q2,h2⟩:=h2;cases r1
 cases r2
 by_cases hab:a=b
 ·subst hab;rw[I.list_inj q2 q1]at h2;rw[yal (h1.inj I h2)];exact EqAt.same _
 ·exact EqAt.of_refs hab rc
end
instance {α:Type} [Rep α]:Rep (List α) where
 dec:=inferInstance
 depth:=Rep.depth α+1
 has:=hasL
 mono:=fun e ⟨a,xs,h1,h2,h3⟩=>⟨a,xs,h1,h2.ext e,h3.mono e⟩
 inj:=fun I h1 h2=>znN I h1 h2
 rc:=fun I hu h1 h2 r1 r2=>zme I hu h1 h2 r1 r2
 rn:=fun I hu h1 h2 r1 r2=>zpG I hu h1 h2 r1 r2
 eq:=fun I hu h1 h2 r1 r2=>zpH I hu h1 h2 r1 r2
def hasP {α β:Type}[Rep α][Rep β](K:Frag)(H:Hp)(p:α×β)(v:V):Prop:=∃ a x y,v=.ref a∧H a=some (.tup [x,y])∧Rep.has K H p.1 x∧Rep.has K H p.2 y
section
variable {α β:Type}[ra:Rep α][rb:Rep β]{X:Cx}{pins:List (Addr×Obj)}{σ:St}{H:Hp}{s:Shared}{A:Around}{p q:α×β}{x y:V}{u v:Value}
theorem zjL (I:Inv X pins σ H s)(h1:hasP X.K H p x)(h2:hasP X.K H q x):p=q:=by
 obtain ⟨a,x1,x2,rfl,q1,e1,e2⟩:=h1;obtain ⟨b,y1,y2,e,q2,f1,f2⟩:=h2;cases e
 have z:=I.tuple_inj (SqT.of q2) (SqT.of q1);cases z
 have g1:=Rep.inj I e1 f1;have g2:=Rep.inj I e2 f2;obtain ⟨p1,p2⟩:=p;obtain ⟨s1,s2⟩:=q;cases g1
 cases g2
 rfl
theorem zmd (I:Inv X pins σ H s)(hu:A.units+(Rep.depth α+Rep.depth β+1) < cLine)(h1:hasP X.K H p x)(h2:hasP X.K H q y)(r1:RelV x u)(r2:RelV y v):RcAt A s u v (decide (p=q)):=by
 obtain ⟨a,x1,x2,rfl,q1,e1,e2⟩:=h1;obtain ⟨b,y1,y2,rfl,q2,f1,f2⟩:=h2;cases r1
 cases r2
 obtain ⟨us,ru,pu,_⟩:=I.tuple (SqT.of q1);obtain ⟨vs,rv,pv,_⟩:=I.tuple (SqT.of q2);obtain ⟨u1,u2,rfl,ru1,ru2⟩:=zf5 ru;obtain ⟨v1,v2,rfl,rv1,rv2⟩:=zf5 rv;have hin:∀ n,n≤Rep.depth α+Rep.depth β→A.in1.units+n < cLine:=fun n hn=>ya2 (ybt zcl _) (by omega);have c1:=Rep.eq (A:=A.in1) I (hin _ (by omega)) e1 f1 ru1 rv1;have c2:=Rep.eq (A:=A.in1) I (hin _ (by omega)) e2 f2 ru2 rv2;have:=RcAt.tuples (A:=A) (s:=s) (l:=a) (b:=b) (items:=#[u1,u2]) (items2:=#[v1,v2]) (e:=fun j=>if j=0 then (Rep.dec p.1 q.1).decide else (Rep.dec p.2 q.2).decide) pu pv (by omega) (by
  intro j h1 h2;have h1':j < 2:=h1;have z:j=0∨j=1:=by omega
  rcases z with rfl | rfl
  ·exact c1
  ·exact c2)
 have e:((List.range (min (#[u1,u2]:Array Value).size (#[v1,v2]:Array Value).size)).all (fun j=>if j=0 then (Rep.dec p.1 q.1).decide else (Rep.dec p.2 q.2).decide) && (#[u1,u2]:Array Value).size == (#[v1,v2]:Array Value).size)=decide (p=q):=by
  obtain ⟨p1,p2⟩:=p;obtain ⟨s1,s2⟩:=q;show (((List.range 2).all fun j=>if j=0 then (Rep.dec p1 s1).decide else (Rep.dec p2 s2).decide) && true)=_
  rw[show List.range 2=[0,1] from rfl];simp only[yb4,List.all_nil,Bool.and_true,if_true];rw[if_neg (by decide)];by_cases z1:p1=s1
  ·by_cases z2:p2=s2
   ·subst z1 z2;simp
   ·subst z1;simp[z2]
  ·simp[z1]
 rw[e]at this;exact this
theorem zpE (I:Inv X pins σ H s)(hu:A.units+(Rep.depth α+Rep.depth β+1) < cLine)(h1:hasP X.K H p x)(h2:hasP X.K H q y)(r1:RelV x u)(r2:RelV y v):RcNeAt A s u v (!decide (p=q)):=by
 obtain ⟨a,x1,x2,rfl,q1,e1,e2⟩:=h1;obtain ⟨b,y1,y2,rfl,q2,f1,f2⟩:=h2;cases r1
 cases r2
 obtain ⟨us,ru,pu,_⟩:=I.tuple (SqT.of q1);obtain ⟨vs,rv,pv,_⟩:=I.tuple (SqT.of q2);obtain ⟨u1,u2,rfl,ru1,ru2⟩:=zf5 ru;obtain ⟨v1,v2,rfl,rv1,rv2⟩:=zf5 rv;have hin:∀ n,n≤Rep.depth α+Rep.depth β→A.in1.units+n < cLine:=fun n hn=>ya2 (ybt zcl _) (by omega);have c1:=Rep.eq (A:=A.in1) I (hin _ (by omega)) e1 f1 ru1 rv1;have c2:=Rep.eq (A:=A.in1) I (hin _ (by omega)) e2 f2 ru2 rv2;have:=RcNeAt.tuples (A:=A) (s:=s) (l:=a) (b:=b) (items:=#[u1,u2]) (items2:=#[v1,v2]) (e:=fun j=>if j=0 then (Rep.dec p.1 q.1).decide else (Rep.dec p.2 q.2).decide) pu pv (by omega) (by
  intro j h1 h2;have h1':j < 2:=h1;have z:j=0∨j=1:=by omega
  rcases z with rfl | rfl
  ·exact c1
  ·exact c2)
 have e:((List.range (min (#[u1,u2]:Array Value).size (#[v1,v2]:Array Value).size)).all (fun j=>if j=0 then (Rep.dec p.1 q.1).decide else (Rep.dec p.2 q.2).decide) && (#[u1,u2]:Array Value).size == (#[v1,v2]:Array Value).size)=decide (p=q):=by
  obtain ⟨p1,p2⟩:=p;obtain ⟨s1,s2⟩:=q;show (((List.range 2).all fun j=>if j=0 then (Rep.dec p1 s1).decide else (Rep.dec p2 s2).decide) && true)=_
  rw[show List.range 2=[0,1] from rfl];simp only[yb4,List.all_nil,Bool.and_true,if_true];rw[if_neg (by decide)];by_cases z1:p1=s1
  ·by_cases z2:p2=s2
   ·subst z1 z2;simp
   ·subst z1;simp[z2]
  ·simp[z1]
 rw[e]at this;exact this
theorem zpF (I:Inv X pins σ H s)(hu:A.units+(Rep.depth α+Rep.depth β+1) < cLine)(h1:hasP X.K H p x)(h2:hasP X.K H q y)(r1:RelV x u)(r2:RelV y v):EqAt A s u v (decide (p=q)):=by
 have rc:=zmd (A:=A) I hu h1 h2 r1 r2;have h1':=id h1;have h2':=id h2;obtain ⟨a,x1,x2,rfl,q1,e1,e2⟩:=h1;obtain ⟨b,y1,y2,rfl,q2,f1,f2⟩:=h2;cases r1
 cases r2
 by_cases hab:a=b
 ·subst hab;rw[yal (zjL I h1' h2')];exact EqAt.same _
 ·exact EqAt.of_refs hab rc
end
instance {α β:Type} [Rep α] [Rep β]:Rep (α×β) where
 dec:=inferInstance
 depth:=Rep.depth α+Rep.depth β+1
 has:=hasP
 mono:=fun e ⟨a,x,y,h1,h2,h3,h4⟩=>⟨a,x,y,h1,e _ _ h2 (fun _ z=>nomatch z),Rep.mono e h3,Rep.mono e h4⟩
 inj:=fun I h1 h2=>zjL I h1 h2
 rc:=fun I hu h1 h2 r1 r2=>zmd I hu h1 h2 r1 r2
 rn:=fun I hu h1 h2 r1 r2=>zpE I hu h1 h2 r1 r2
 eq:=fun I hu h1 h2 r1 r2=>zpF I hu h1 h2 r1 r2
theorem huD {A:Around}{k:Nat}{α:Type}[Rep α](hr:Room k A)(h:Rep.depth α≤64:=by decide):A.units+Rep.depth α < cLine:=ya2 (ycu h _) hr.units
def rNeD (α:Type)[Rep α](K:Frag):R2:=fun x y H Q=>∃ a b:α,Rep.has K H a x∧Rep.has K H b y∧Q (.bl (!decide (a=b))) H
section
variable {X:Cx}
theorem zoB (α:Type)[Rep α](hu:X.A.units+Rep.depth α < cLine):OpR X (compareOp .NotEq) (rNeD α X.K):=by
 intro pins s σ H x y v u Q I rx ry h;obtain ⟨a,b,ha,hb,q⟩:=h;refine Rep.rn I hu ha hb rx ry X.prog X.w X.xe _ ⟨.bl _,H,I,rfl,?_⟩;have e:(Rep.dec a b).decide=decide (a=b):=rfl;rw[e];exact q
end
end L2
namespace L2
open PySem PySem.Spec PyProof.Rows
section
variable {X:Cx}{pins:List (Addr×Obj)}{σ:St}{H:Hp}{s:Shared}{h':Heap}
theorem Inv.turnedNew {t':Nat}{fp:List Addr}{p:Addr}{o:HO}(I:Inv X pins σ H s)(k:∀ b ob,b∉fp→s.heap.get? b=some ob→h'.get? b=some ob)(hf:∀ b∈fp,FpOk X pins H b)
  (hp:s.heap.objs.size≤p) (new:za9 X.prog X.w (upd H p o) h' p o):Inv X pins σ (upd H p o) { s with heap:=h',toks:=t' }:=by
 have hn:H p=none:=I.hok.fresh hp;have nfp:∀ b u,H b=some u→b∉fp:=fun b u e z=>by rw[(hf b z).1]at e;cases e
 have nep:∀ b ob,s.heap.get? b=some ob→b≠p:=fun b ob e=>yao (yaw (yaf e) hp);refine I.step (g':=s.gens) (d':=s.drawn) (ch:=fp) (fun b hb=>?_) (fun b ob _ _ hc e _=>k b ob hc e) (fun b ob _ _ hc e _=>⟨ob.slots,k b ob hc e⟩) (fun b ob _ e n=>by rw[zag (nep b ob e)];exact n)
  (fun b ob hc e=>⟨ob,k b ob hc e⟩) (fun b xs e=>by rw[zag (zac e hn)];exact e) (fun b ob u e=>by rw[zag (zac e hn)];exact e) (fun b ps e=>⟨#[],by rw[zag (zac e hn),e];simp⟩) (fun m hm=>?_) (fun b u e=>?_) I.bare
 ·obtain ⟨_,h2,_,h4,h5,h6⟩:=hf b hb;exact ⟨h4,h2,h5,h6⟩
 ·obtain ⟨ob,es,ep,ho,r⟩:=hm;exact ⟨ob,es,ep,k _ ob (fun z=>(hf _ z).2.1 rfl) ho,r⟩
 ·by_cases hb:b=p
  ·subst hb;rw[zab]at e;cases e;exact new
  ·rw[zag hb]at e;refine (I.hok b u e).stay (fun c v hc q=>k c v ?_ q) (fun c q=>by rw[zag (zac q hn)];exact q) fun c xs q=>by rw[zag (zac q hn)];exact q
   rcases hc with z | z
   ·rw[z];exact nfp b u e
   ·exact nfp c _ z
theorem zkT {P:Program}{w:World}{H:Hp}{h:Heap}{p:Addr}{x y:V}{u v:Value}(rx:RelV x u)(ry:RelV y v)(e:h.get? p=some { cls:=.type "tuple",data:=.seq #[u,v] }):za9 P w H h p (.tup [x,y]):=
 ⟨by show 2≤sizeLine;decide,[u,v],.cons rx (.cons ry .nil),_,e,rfl,0,rfl⟩
end
def Ite (K:Frag)(a:Addr):It:=
 ⟨fun i H=>∃ xs x,SqL K H a xs∧xs[i]?=some x,fun i H x H'=>∃ p y,x=.ref p∧H p=none∧(∀ xs,SqL K H a xs→xs[i]?=some y)∧H'=upd H p (.tup [.int i,y]),fun i H=>∃ xs,SqL K H a xs∧xs.length≤i⟩
theorem zkQ {P:Program}{w:World}{K:Frag}{es:List Expr}{k0}{pos:Pos}(a it e:Addr)(hne:e≠it):Turn P w K (.Tuple es k0 pos) (Ite K a) [e,it] e (fun i h=>(∃ old,IsEnum h e it i old)∧h.IsListIter it a i) where
 mem:=by simp
 obj:=fun i h st b hb=>by
  obtain ⟨⟨old,he⟩,o,ho,c,d⟩:=st;rcases yam.mp hb with z | z
  ·subst z;exact ⟨_,he,fun v z=>by cases z⟩
  ·have z:=yag.mp z;subst z;exact ⟨o,ho,fun v z=>by rw[d]at z;cases z⟩
 keep:=fun i h h' st k=>by
  obtain ⟨⟨old,he⟩,hi⟩:=st;exact ⟨⟨old,k e (by simp) _ he⟩,hi.at fun o q=>k it (by simp) o q⟩
 item:=by
  intro X hP hw hK hc i pins s σ H E I hf st hg;subst hP hw hK;obtain ⟨⟨old,he⟩,hi⟩:=st;obtain ⟨xs,x,hq,hx⟩:=hg;obtain ⟨its,rv,p,hz⟩:=I.list hq;obtain ⟨u,hu,ru⟩:=rv.get hx;refine wpAny_pyNext_enum_item he hi p.isList (x:=u) (by simpa using hu) hne fun h1 he1 hi1 ht1 _ k1=>?_;refine ⟨_,rfl,wpAny_letOwnedTupleGo_enum (s:={ s with heap:=h1,toks:=s.toks+1 }) he1 fun h2 he2 sb=>?_⟩;have np:s.heap.objs.size≠e:=ybi (yaf he);have ht2:h2.get? s.heap.objs.size=some { cls:=.type "tuple",data:=.seq #[.int i s.toks,u] }:=(sb.2 _ np).trans ht1;have I2:Inv X pins σ (upd H s.heap.objs.size (.tup [.int i,x])) { s with heap:=h2,toks:=s.toks+1 }:=
   I.turnedNew (fp:=[e,it]) (fun b ob hb q=>(sb.2 b (fun z=>hb (by simp[z]))).trans (k1 b ob (fun z=>hb (by simp[z])) (fun z=>hb (by simp[z])) q)) hf (yaa _) (zkT ⟨_,rfl⟩ ru ht2)
  refine ⟨.ref s.heap.objs.size,_,I2,rfl,⟨_,x,rfl,I.hok.fresh (yaa _),fun ys hy=>by rw[I.list_inj hy hq];exact hx,rfl⟩,⟨⟨u,?_⟩,?_⟩,fun b hb=>?_⟩
  ·have z:IsEnum h2 e it ((i:Int)+1) u:=he2;exact z
  ·exact hi1.at fun o q=>(sb.2 it (Ne.symm hne)).trans q
  ·have z:=(hf b hb).1;rw[zag ?_]
   ·exact z
   ·rcases yam.mp hb with q | q
    ·rw[q];exact Ne.symm np
    ·rw[yag.mp q];obtain ⟨o,ho,_⟩:=hi;exact yao (yaf ho)
 done:=by
  intro X hP hw hK hc i pins s σ H E I hf st hg;subst hP hw hK;obtain ⟨⟨old,he⟩,hi⟩:=st;obtain ⟨xs,hq,hx⟩:=hg;obtain ⟨its,rv,p,hz⟩:=I.list hq;obtain ⟨f0,f1,f2,f3,f4,f5⟩:=hf it (by simp);have hl:=rv.length;exact wpAny_pyNext_enum_end (I.ok.hd hc) he hi p.isList (by simp;omega) fun h' eb=>⟨rfl,I.turned (t':=s.toks) (fun b o hb q=>eb b o hb q) f0 f1 f3 f4 f5⟩
 self:=fun _ _ _ _ _ st h=>by
  obtain ⟨⟨old,he⟩,_⟩:=st;exact wpAny_pyIter_enum he h
def zrP (K:Frag)(ta:TA):TI:=fun σ H R=>ta σ H fun vs H1=>∃ a,vs=[.ref a]∧(∃ xs,SqL K H1 a xs)∧R (Ite K a) H1
section
variable {X:Cx}
theorem zhI {es:List Expr}{k0}{tp:Pos}{a:Expr}{ta:TA}{p pos:Pos}(hg:Gl X "enumerate")(hm:X.mg "enumerate" = none)(ha:PA X [a] ta)(hs:starEach [a] X.env=[(false,eval a X.env)]:=by rfl):PI X (.Tuple es k0 tp) (.Call (.Name "enumerate" p) [a] [] pos) (zrP X.K ta):=by
 intro pins s σ H R I h;refine Call_ (zeW I hg hm boot_enumerate (PyProof.Rows.callWith_type1 (thn (ha pos pins s σ H _ I h) fun us s1 zq0=>?_) hs rfl));obtain ⟨vs,H1,I1,r1,q1⟩:=zq0;obtain ⟨l,e,⟨xs,hq⟩,q⟩:=q1;subst e;cases r1 with
 | cons r rr=>
  cases rr
  cases r
  obtain ⟨its,rv,pl,hz⟩:=I1.list hq;refine call_enumerate_list pl.isList fun h' he hi _ hk=>?_;have I2:Inv X pins σ H1 { s1 with heap:=h' }:=I1.kept (t':=s1.toks) hk;refine wpAny_pyIter_enum (s:={ s1 with heap:=h' }) he ⟨_,[s1.heap.objs.size+1,s1.heap.objs.size],_,_,H1,rfl,I2,zkQ l s1.heap.objs.size (s1.heap.objs.size+1) (Nat.succ_ne_self _),⟨⟨_,he⟩,hi⟩,fun b hb=>?_,q⟩;have hb':s1.heap.objs.size≤b:=by
   rcases yam.mp hb with z | z
   ·rw[z];exact ya9 _
   ·rw[yag.mp z];exact yaa _
  exact I1.fpOk hb' (I1.hok.fresh hb')
end
theorem znT {K:Frag}{a:Addr}{xs:List V}{g:TG}{tb:TS}{D:Ends}{σ:St}{H:Hp}(Pv:Nat→St→Hp→Prop)(h0:Pv 0 σ H)(hl:∀ i σ H,i≤xs.length→Pv i σ H→SqL K H a xs)
  (hs:∀ i x σ H p,xs[i]?=some x→Pv i σ H→H p=none→g (.ref p) σ (upd H p (.tup [.int i,x])) fun σ2 H2=>tb { D with nx:=Pv (i+1),ct:=Pv (i+1),bk:=D.nx } σ2 H2) (hd:∀ σ H,Pv xs.length σ H→D.nx σ H) :
  ∃ W:Nat→Nat→St→Hp→Prop,(∃ m,W 0 m σ H)∧∀ i m σ H,W i m σ H→((Ite K a).stop i H∧D.nx σ H)∨((Ite K a).go i H∧∃ N:St→Hp→Prop,(∀ σ' H',N σ' H'→∃ m',m' < m∧W (i+1) m' σ' H')∧∀ x H',(Ite K a).yld i H x H'→g x σ H' fun σ2 H2=>tb { D with nx:=N,ct:=N,bk:=D.nx } σ2 H2):=by
 refine ⟨fun i m σ H=>i+m=xs.length∧Pv i σ H,⟨xs.length,by omega,h0⟩,fun i m σ H zq0=>?_⟩;obtain ⟨e,pv⟩:=zq0;have hS:=hl i σ H (by omega) pv;by_cases hi:i < xs.length
 ·refine .inr ⟨⟨xs,xs[i],hS,yac hi⟩,Pv (i+1),fun σ' H' q=>⟨m - 1,by omega,by omega,q⟩,fun x H' y=>?_⟩;obtain ⟨p,z,rfl,hp,hz,rfl⟩:=y;exact hs i z σ H p (hz xs hS) pv hp
 ·have:i=xs.length:=by omega
  subst this;exact .inl ⟨⟨xs,hS,yaa _⟩,hd σ H pv⟩
def Itz (K:Frag)(a b:Addr):It:=
 ⟨fun i H=>∃ xs ys x y,SqL K H a xs∧SqL K H b ys∧xs[i]?=some x∧ys[i]?=some y,fun i H x H'=>∃ p y z,x=.ref p∧H p=none∧(∀ xs,SqL K H a xs→xs[i]?=some y)∧(∀ xs,SqL K H b xs→xs[i]?=some z)∧H'=upd H p (.tup [y,z]),fun i H=>∃ xs ys,SqL K H a xs∧SqL K H b ys∧(xs.length≤i∨ys.length≤i)⟩
theorem zmU {P:Program}{w:World}{K:Frag}{es:List Expr}{k0}{pos:Pos}{a b z TI TO i1 i2:Addr}(D:ZipApart z TI TO i1 i2 a b):Turn P w K (.Tuple es k0 pos) (Itz K a b) [z,TI,TO,i1,i2] z
  (fun i h=>IsZip h z TI TO .none∧IsPair h TI (.ref i1) (.ref i2)∧(∃ u v,IsPair h TO u v)∧h.IsListIter i1 a i∧h.IsListIter i2 b i) where
 mem:=by simp
 obj:=fun i h st c hc=>by
  obtain ⟨hz,hTI,⟨u,v,hTO⟩,⟨o1,e1,_,d1⟩,⟨o2,e2,_,d2⟩⟩:=st;simp only[yam,ybe,or_false]at hc;rcases hc with rfl | rfl | rfl | rfl | rfl
  ·exact ⟨_,hz,fun v q=>by cases q⟩
  ·exact ⟨_,hTI,fun v q=>by cases q⟩
  ·exact ⟨_,hTO,fun v q=>by cases q⟩
  ·exact ⟨o1,e1,fun v q=>by rw[d1]at q;cases q⟩
  ·exact ⟨o2,e2,fun v q=>by rw[d2]at q;cases q⟩
 keep:=fun i h h' st k=>by
  obtain ⟨hz,hTI,⟨u,v,hTO⟩,h1,h2⟩:=st;exact ⟨k z (by simp) _ hz,k TI (by simp) _ hTI,⟨u,v,k TO (by simp) _ hTO⟩,h1.at fun o q=>k i1 (by simp) o q,h2.at fun o q=>k i2 (by simp) o q⟩
 item:=by
  intro X hP hw hK hc i pins s σ H E I hf st hg;subst hP hw hK;obtain ⟨hz,hTI,⟨u0,v0,hTO⟩,h1,h2⟩:=st;obtain ⟨xs,ys,x,y,hqa,hqb,hx,hy⟩:=hg;obtain ⟨its,rv,p,_⟩:=I.list hqa;obtain ⟨jts,rw',p',_⟩:=I.list hqb;obtain ⟨u,hu,ru⟩:=rv.get hx;obtain ⟨v,hv,rv'⟩:=rw'.get hy;refine wpAny_pyNext_zip_item D hz hTI hTO h1 h2 p.isList p'.isList (x:=u) (y:=v) (by simpa using hu) (by simpa using hv) fun h1' hz1 hTO1 hi1 hi2 ht1 _ k1=>?_;refine ⟨_,rfl,wpAny_letOwnedTupleGo_zip (s:={ s with heap:=h1' }) hz1 fun h2' hz2 sb=>?_⟩;have np:s.heap.objs.size≠z:=ybi (yaf hz);have ht2:h2'.get? s.heap.objs.size=some { cls:=.type "tuple",data:=.seq #[u,v] }:=(sb.2 _ np).trans ht1;have I2:Inv X pins σ (upd H s.heap.objs.size (.tup [x,y])) { s with heap:=h2',toks:=s.toks }:=
   I.turnedNew (fp:=[z,TI,TO,i1,i2]) (fun c ob hb q=>(sb.2 c (fun r=>hb (by simp[r]))).trans (k1 c ob (fun r=>hb (by simp[r])) (fun r=>hb (by simp[r])) (fun r=>hb (by simp[r])) (fun r=>hb (by simp[r])) q)) hf (yaa _) (zkT ru rv' ht2)
  refine ⟨.ref s.heap.objs.size,_,I2,rfl,⟨_,x,y,rfl,I.hok.fresh (yaa _),fun ys hy'=>by rw[I.list_inj hy' hqa];exact hx,fun ys hy'=>by rw[I.list_inj hy' hqb];exact hy,rfl⟩,⟨hz2,(sb.2 _ D.TIz).trans (k1 TI _ D.TIz D.TITO D.TIi1 D.TIi2 hTI),⟨_,_,(sb.2 _ D.TOz).trans hTO1⟩,hi1.at fun o q=>(sb.2 i1 D.i1z).trans q,hi2.at fun o q=>(sb.2 i2 D.i2z).trans q⟩,fun c hb=>?_⟩;have zf:=(hf c hb).1;have lt:c < s.heap.objs.size:=by
   simp only[yam,ybe,or_false]at hb;obtain ⟨o1,e1,_⟩:=h1;obtain ⟨o2,e2,_⟩:=h2;rcases hb with rfl | rfl | rfl | rfl | rfl
   ·exact yaf hz
   ·exact yaf hTI
   ·exact yaf hTO
   ·exact yaf e1
   ·exact yaf e2
  rw[zag (yao lt)];exact zf
 done:=by
  intro X hP hw hK hc i pins s σ H E I hf st hg;subst hP hw hK;obtain ⟨hz,hTI,⟨u0,v0,hTO⟩,h1,h2⟩:=st;obtain ⟨xs,ys,hqa,hqb,hend⟩:=hg;obtain ⟨its,rv,p,_⟩:=I.list hqa;obtain ⟨jts,rw',p',_⟩:=I.list hqb;have l1:=rv.length;have l2:=rw'.length;refine wpAny_pyNext_zip_end (I.ok.hd hc) D hz hTI hTO h1 h2 p.isList p'.isList (by
   rcases hend with q | q
   ·left;simp;omega
   ·right;simp;omega) fun h' kk=>⟨rfl,?_⟩
  refine I.step (g':=s.gens) (d':=s.drawn) (t':=s.toks) (ch:=[z,TI,TO,i1,i2]) (fun c hb=>?_) (fun c ob _ _ hn q _=>kk c ob (fun r=>hn (by simp[r])) (fun r=>hn (by simp[r])) (fun r=>hn (by simp[r])) (fun r=>hn (by simp[r])) q)
   (fun c ob _ _ hn q _=>⟨ob.slots,kk c ob (fun r=>hn (by simp[r])) (fun r=>hn (by simp[r])) (fun r=>hn (by simp[r])) (fun r=>hn (by simp[r])) q⟩) (fun _ _ _ _ n=>n)
   (fun c ob hn q=>⟨ob,kk c ob (fun r=>hn (by simp[r])) (fun r=>hn (by simp[r])) (fun r=>hn (by simp[r])) (fun r=>hn (by simp[r])) q⟩) (fun _ _ q=>q) (fun _ _ _ q=>q) (fun c ps q=>⟨#[],by rw[q];simp⟩) (fun m hm=>?_) (fun c u e=>?_) I.bare
  ·obtain ⟨_,q2,_,q4,q5,q6⟩:=hf c hb;exact ⟨q4,q2,q5,q6⟩
  ·obtain ⟨ob,es,ep,ho,r⟩:=hm;have nL:∀ c∈[z,TI,TO,i1,i2],X.env.locals≠c:=fun c hc=>Ne.symm (hf c hc).2.1;exact ⟨ob,es,ep,kk _ ob (nL z (by simp)) (nL TO (by simp)) (nL i1 (by simp)) (nL i2 (by simp)) ho,r⟩
  ·have nf:∀ c' u,H c'=some u→∀ q∈[z,TI,TO,i1,i2],c'≠q:=fun c' u e q hq r=>by rw[r,(hf q hq).1]at e;cases e
   refine (I.hok c u e).stay (fun c' v hc' q=>?_) (fun _ q=>q) fun _ _ q=>q;have go:∀ u',H c'=some u'→h'.get? c'=some v:=fun u' e'=>kk c' v (nf c' _ e' z (by simp)) (nf c' _ e' TO (by simp)) (nf c' _ e' i1 (by simp)) (nf c' _ e' i2 (by simp)) q;rcases hc' with r | r
   ·exact go u (by rw[r];exact e)
   ·exact go _ r
 self:=fun _ _ _ _ _ st h=>wpAny_pyIter_zip st.1 h
theorem zkD {l l' n:Nat}(hl:l < n)(hl':l' < n):ZipApart (n+4) (n+2) (n+3) n (n+1) l l':=by
 constructor <;> (intro z;have z':(_:Nat)=_:=z;omega)
theorem zp2 {n c:Nat}(h:c∈[n+4,n+2,n+3,n,n+1]):n≤c:=by
 simp only[yam,ybe,or_false]at h;omega
def iZip (K:Frag)(ta:TA):TI:=fun σ H R=>ta σ H fun vs H1=>∃ a b,vs=[.ref a,.ref b]∧(∃ xs,SqL K H1 a xs)∧(∃ xs,SqL K H1 b xs)∧R (Itz K a b) H1
section
variable {X:Cx}
theorem zqx {es:List Expr}{k0}{tp:Pos}{a b:Expr}{ta:TA}{p pos:Pos}(hg:Gl X "zip")(hm:X.mg "zip" = none)(ha:PA X [a,b] ta)(hs:starEach [a,b] X.env=[(false,eval a X.env),(false,eval b X.env)]:=by rfl)(hs2:starEach [b] X.env=[(false,eval b X.env)]:=by rfl):PI X (.Tuple es k0 tp) (.Call (.Name "zip" p) [a,b] [] pos) (iZip X.K ta):=by
 intro pins s σ H R I h;refine Call_ (zeW I hg hm boot_zip (PyProof.Rows.callWith_type1 (thn (ha pos pins s σ H _ I h) fun us s1 zq0=>?_) (by rw[hs,hs2]) (by rw[hs2];rfl)));obtain ⟨vs,H1,I1,r1,q1⟩:=zq0;obtain ⟨l,l',e,⟨xs,hq⟩,⟨ys,hq'⟩,q⟩:=q1;subst e;cases r1 with
 | cons r rr=>
  cases rr with
  | cons r' rr=>
   cases rr
   cases r
   cases r'
   obtain ⟨its,rv,pl,hz⟩:=I1.list hq;obtain ⟨jts,rv',pl',hz'⟩:=I1.list hq';have hl:l < s1.heap.objs.size:=by obtain ⟨o,_,e,_⟩:=pl;exact yaf e
   have hl':l' < s1.heap.objs.size:=by obtain ⟨o,_,e,_⟩:=pl';exact yaf e
   refine call_zip_2 pl.isList pl'.isList fun h' hz hTI hTO hi hi' _ hk=>?_;have I2:Inv X pins σ H1 { s1 with heap:=h' }:=I1.kept (t':=s1.toks) hk;refine wpAny_pyIter_zip (s:={ s1 with heap:=h' }) hz ⟨_,[s1.heap.objs.size+4,s1.heap.objs.size+2,s1.heap.objs.size+3,s1.heap.objs.size,s1.heap.objs.size+1],_,_,H1,rfl,I2,zmU (zkD hl hl'),⟨hz,hTI,⟨_,_,hTO⟩,hi,hi'⟩,fun c hb=>?_,q⟩;have hb':s1.heap.objs.size≤c:=zp2 hb;exact I1.fpOk hb' (I1.hok.fresh hb')
end
end L2
namespace L2
open PySem PySem.Spec PyProof.Rows
def zbE (X:Cx)(N:List Str)(scope:Scope)(cl:List (Str×Addr))(C:Addr)(s₂:Shared)(H₂:Hp)(fp:List Addr):Cx:=
 { X with N:=N,s₀:=s₂,H₀:=H₂,env:=compEnvC scope cl C X.env,outer:=X.stack,stack:=X.stack,ex:=fp,fn:=fun _=>false,xe:=fun _ _=>False }
structure zid (scope:Scope)(env:Env)(cl:List (Str×Addr)):Prop where
 eq:closureFor scope env=pure cl
 sub:∀ x c,cl.lookup x=some c→env.cells.lookup x=some c
 has:∀ x,(x,NameKind.free)∈scope.names→∃ c,cl.lookup x=some c
theorem zfX {env:Env}:∀(names:List (Str×NameKind)) (cs:List (Str×Addr)),(∀ x,(x,NameKind.free)∈names→∃ c,env.cells.lookup x=some c)→(∀ x c,cs.lookup x=some c→env.cells.lookup x=some c)→
  ∃ cl:List (Str×Addr),(forIn names cs (fun (x:Str×NameKind) (r:List (Str×Addr))=>if (x.2 == NameKind.free)=true then (do let c ← cellOf env x.1;pure (ForInStep.yield ((x.1,c)::r))) else pure (ForInStep.yield r)):Sem (List (Str×Addr)))=pure cl∧
   (∀ x c,cl.lookup x=some c→env.cells.lookup x=some c)∧(∀ x c,cs.lookup x=some c→∃ c',cl.lookup x=some c')∧∀ x,(x,NameKind.free)∈names→∃ c,cl.lookup x=some c
 | [],cs,_,h2=>⟨cs,by rw[List.forIn_nil],h2,fun x c e=>⟨c,e⟩,fun _ z=>nomatch z⟩
 | (n,k)::r,cs,h1,h2=>by
  by_cases hk:k=.free
  ·subst hk;obtain ⟨c,hc⟩:=h1 n yaF;have hn:∀ x c',((n,c)::cs).lookup x=some c'→env.cells.lookup x=some c':=fun x c' e=>by
    rw[yaZ]at e;cases hx:x == n with
    | true=>
     rw[hx]at e;cases e
     rw[eq_of_beq hx];exact hc
    | false=>
     rw[hx]at e;exact h2 x c' e
   obtain ⟨cl,e,s1,s2,s3⟩:=zfX r ((n,c)::cs) (fun x hx=>h1 x (yax _ hx)) hn;have here:∃ c',cl.lookup n=some c':=s2 n c (by rw[yaZ,beq_self_eq_true]);refine ⟨cl,?_,s1,fun x c' q=>?_,fun x hx=>?_⟩
   ·rw[List.forIn_cons,if_pos (by rfl)];have q:cellOf env n=pure c:=by unfold cellOf;rw[hc]
    rw[q];simp only[pure_bind];exact e
   ·cases hxn:x == n with
    | true=>rw[eq_of_beq hxn];exact here
    | false=>exact s2 x c' (by rw[yaZ,hxn];exact q)
   ·rcases yam.mp hx with z | z
    ·cases z;exact here
    ·exact s3 x z
  ·obtain ⟨cl,e,s1,s2,s3⟩:=zfX r cs (fun x hx=>h1 x (yax _ hx)) h2;refine ⟨cl,?_,s1,s2,fun x hx=>?_⟩
   ·have hb:(k == NameKind.free)=false:=by simpa using hk
    rw[List.forIn_cons,if_neg (by rw[hb];exact yaz)];simp only[pure_bind];exact e
   ·rcases yam.mp hx with z | z
    ·cases z;exact absurd rfl hk
    ·exact s3 x z
theorem zfW {scope:Scope}{env:Env}(h:∀ x,(x,NameKind.free)∈scope.names→∃ c,env.cells.lookup x=some c):∃ cl,zid scope env cl:=by
 obtain ⟨cl,e,s1,_,s3⟩:=zfX scope.names [] h (fun _ _ z=>nomatch z);refine ⟨cl,?_,s1,s3⟩;unfold closureFor;exact (by simpa using e)
theorem zck {env:Env}:∀{names:List (Str×NameKind)} {x:Str},names.lookup x=some .free→
  (names.map fun (n,k)=>if (k == NameKind.free && env.scope.kind == .function && env.kindOf n == some .cell) then (n,NameKind.cell) else (n,k)).lookup x=some .cell∨
  (names.map fun (n,k)=>if (k == NameKind.free && env.scope.kind == .function && env.kindOf n == some .cell) then (n,NameKind.cell) else (n,k)).lookup x=some .free
 | [],_,h=>by simp at h
 | (n,k)::r,x,h=>by
  have ih:=@zck env r x;show List.lookup x ((if (k == NameKind.free && env.scope.kind == .function && env.kindOf n == some .cell)=true then (n,NameKind.cell) else (n,k))::_)=_∨List.lookup x ((if (k == NameKind.free && env.scope.kind == .function && env.kindOf n == some .cell)=true then (n,NameKind.cell) else (n,k))::_)=_
  cases hx:x == n with
  | true=>
   simp only[yaZ,hx]at h;cases h
   by_cases hc:(NameKind.free == NameKind.free && env.scope.kind == .function && env.kindOf n == some .cell)=true
   ·rw[if_pos hc];left;simp only[yaZ,hx]
   ·rw[if_neg hc];right;simp only[yaZ,hx]
  | false=>
   simp only[yaZ,hx]at h;by_cases hc:(k == NameKind.free && env.scope.kind == .function && env.kindOf n == some .cell)=true
   ·rw[if_pos hc];simp only[yaZ,hx];exact ih h
   ·rw[if_neg hc];simp only[yaZ,hx];exact ih h
theorem zdQ {env:Env}:∀{names:List (Str×NameKind)} {x:Str} {k':NameKind},(names.map fun (n,k)=>if (k == NameKind.free && env.scope.kind == .function && env.kindOf n == some .cell) then (n,NameKind.cell) else (n,k)).lookup x=some k'→k'=.cell∨k'=.free→
  (∀ y∈names,y.2≠.cell)→(x,NameKind.free)∈names
 | [],_,_,h,_,_=>by simp at h
 | (n,k)::r,x,k',h,hk,hc=>by
  have ih:=@zdQ env r x k';have h':List.lookup x ((if (k == NameKind.free && env.scope.kind == .function && env.kindOf n == some .cell)=true then (n,NameKind.cell) else (n,k))::r.map fun (n,k)=>if (k == NameKind.free && env.scope.kind == .function && env.kindOf n == some .cell) then (n,NameKind.cell) else (n,k))=some k':=h
  cases hx:x == n with
  | true=>
   have e:=eq_of_beq hx;subst e;by_cases hf:k=.free
   ·subst hf;exact yaF
   ·have hb:(k == NameKind.free)=false:=by simpa using hf
    rw[if_neg (by rw[hb];simp),yaZ,hx]at h';cases h'
    rcases hk with z | z
    ·exact absurd z (hc (x,k) yaF)
    ·exact absurd z hf
  | false=>
   refine yax _ (ih ?_ hk fun y hy=>hc y (yax _ hy));by_cases hcd:(k == NameKind.free && env.scope.kind == .function && env.kindOf n == some .cell)=true
   ·rw[if_pos hcd,yaZ,hx]at h';exact h'
   ·rw[if_neg hcd,yaZ,hx]at h';exact h'
def zeQ (own:Nat)(cap:List Nat)(σ:St):St:=List.replicate own none++cap.map fun i=>(σ[i]?).getD none
structure zjT (X:Cx)(scope:Scope)(N:List Str)(own:Nat)(cap:List Nat):Prop where
 kind:scope.kind=.function
 nocell:(scope.names.all fun y=>y.2 != .cell)=true
 locs:(scope.names.all fun y=>y.2 != .local || scope.names.lookup y.1 == some .local)=true
 frees:(scope.names.all fun y=>y.2 != .free || (X.env.kindOf y.1 == some .cell || X.env.kindOf y.1 == some .free))=true
 len:N.length=own+cap.length
 caps:((List.range cap.length).all fun j=>(N[own+j]? == X.N[cap[j]!]?) && (match N[own+j]? with | some x=>scope.names.lookup x == some .free && (X.env.kindOf x == some .cell || X.env.kindOf x == some .free) | none=>false))=true
section
variable {prog:Program}{w:World}{A:Around}{R:Result→Shared→Prop}{s:Shared}
theorem ziQ {elt target iter:Expr}{ifs:List Expr}{scope:Scope}{pos:Pos}{it acc:Value}{env:Env}(I:Nat→Shared→Prop)
  (turn:∀ n s,I n s→wpAny (model prog w) A (pyNext it) (fun r s₁=>match r with
   | none=>R (.ok .next) s₁
   | some v=>wpAny (model prog w) A (letOwnedTupleGo target it v) (fun _ s₁'=>wpAny (model prog w) A (assign target env v) (fun _ s₂=>
     wpAny (model prog w) A (forIn ifs true fun c r=>if r=true then do let ok ← isTrue c env (eval c env);pure (ForInStep.yield ok) else pure (ForInStep.yield r)) (fun ok s₃=>
      if ok=true then wpAny (model prog w) A (eval elt env) (fun x s₄=>
       wpAny (model prog w) A (call (.builtin "list.append") [acc,x]) (fun _ s₅=>∃ m,m < n∧I m s₅) (fun _ _=>False) s₄) (fun _ _=>False) s₃
      else ∃ m,m < n∧I m s₃) (fun _ _=>False) s₂) (fun _ _=>False) s₁') (fun _ _=>False) s₁) (fun _ _=>False) s)
  (n:Nat) (h:I n s) :
  codeAny (model prog w) A (.compLoop (.ListComp elt [⟨target,iter,ifs,0⟩] scope pos) 0 it acc env) R s:=by
 refine codeAny_loop rfl I (fun n s hI=>?_) n h;show wpAny _ A ((compTurn (.ListComp elt [⟨target,iter,ifs,0⟩] scope pos) 0 it acc env).onRaise (fun x=>do noteFrame x env;theTreesLotGoes x)) _ _ s
 refine wpAny_noted ?_;rw[compTurn_list];refine wpAny_bind (wpAny_standAt (wpAny_bind (wpAny_mono (turn n s hI) (fun r s₁ h₁=>?_) fun _ _ h'=>h'.elim)));cases r with
 | none=>exact wpAny_pure h₁
 | some v=>
  refine wpAny_bind (wpAny_mono h₁ (fun _ s₁' h₁'=>?_) fun _ _ h'=>h'.elim);refine wpAny_bind (wpAny_mono h₁' (fun _ s₂ h₂=>wpAny_bind (wpAny_mono h₂ (fun ok s₃ h₃=>?_) fun _ _ h'=>h'.elim)) fun _ _ h'=>h'.elim);cases ok with
  | true=>
   simp only[if_true]at h₃ ⊢;exact wpAny_bind (wpAny_bind (wpAny_mono h₃ (fun x s₄ h₄=>wpAny_bind (wpAny_mono h₄ (fun _ s₅ h₅=>wpAny_pure (wpAny_pure ⟨rfl,h₅⟩)) fun _ _ h'=>h'.elim)) fun _ _ h'=>h'.elim))
  | false=>
   simp only[yaK,if_false]at h₃ ⊢;exact wpAny_pure ⟨rfl,h₃⟩
end
section
variable {X:Cx}
def PTs (X:Cx)(ifs:List Expr)(t:TT):Prop:=
 ∀(pins:List (Addr×Obj)) (s:Shared) (σ:St) (H:Hp) (Q:Bool→Hp→Prop),Inv X pins σ H s→t σ H Q→
  wpAny (model X.prog X.w) X.A (forIn ifs true fun c r=>if r=true then do let ok ← isTrue c X.env (eval c X.env);pure (ForInStep.yield ok) else pure (ForInStep.yield r)) (TP X pins σ Q) X.xe s
def tYes:TT:=fun _ H Q=>Q true H
theorem zcd:PTs X [] tYes:=fun _ _ _ H _ I h=>wpAny_tests_nil ⟨H,I,h⟩
theorem zeA {c:Expr}{t:TT}(h:PT X c t):PTs X [c] t:=fun pins s σ H Q I q=>wpAny_tests_one (h pins s σ H Q I q)
theorem znK {pins:List (Addr×Obj)}{σ:St}{H:Hp}{s:Shared}{N:List Str}{own:Nat}{cap:List Nat}{scope:Scope}{cl:List (Str×Addr)}{C:Addr}{fp:List Addr}{h₁:Heap}{tk:Nat}{D:Addr}
  (I:Inv X pins σ H s) (c:zjT X scope N own cap) (hcl:zid scope X.env cl) (f:∀ b∈fp,FpOk X pins H b) (hD:s.heap.objs.size≤D) (hC:s.heap.objs.size≤C) (hCD:D≠C)
  (kp:∀ b o,s.heap.get? b=some o→h₁.get? b=some o) (hnew:h₁.get? D=some { cls:=.type "list",data:=.seq #[] }) (hns:∃ m,h₁.Ns C m) (hfp:∀ b∈fp,b < s.heap.objs.size) (hcalm:X.calm=true) :
  Inv (zbE X N scope cl C s H fp) pins (zeQ own cap σ) (upd H D (.lst [])) { s with heap:=h₁,toks:=tk }:=by
 have hfr:H D=none:=I.hok.fresh hD;have hfrC:H C=none:=I.hok.fresh hC;have sz:∀ b o,s.heap.get? b=some o→b≠D∧b≠C:=fun b o e=>⟨yao (yaw (yaf e) hD),yao (yaw (yaf e) hC)⟩;have cells:∀ x cc,cl.lookup x=some cc→∃ v,s.heap.IsCell cc v:=fun x cc e=>I.cell x cc (hcl.sub x cc e);have cellne:∀ x cc,cl.lookup x=some cc→cc≠D∧cc≠C:=fun x cc e=>by
  obtain ⟨v,o,ho,_⟩:=cells x cc e;exact sz cc o ho
 have ok:(zbE X N scope cl C s H fp).Ok:=by
  refine ⟨I.ok.mod,c.kind,I.ok.glob,I.ok.blt,hC,fun x y cc e1 e2=>I.ok.inj x y cc (hcl.sub x cc e1) (hcl.sub y cc e2),fun x hx=>?_,(fun x cc z _=>nomatch z),I.ok.hd,I.ok.frames,.inl rfl,fun b hb=>?_,fun b o e=>I.bs b o e,?_,fun b o e hb=>?_,fun b hb z=>?_,I.stack,fun b hb=>I.stkFree b hb⟩
  ·have hm:(x,NameKind.free)∈scope.names:=by
    rcases hx with z | z
    ·exact zdQ (env:=X.env) (names:=scope.names) (x:=x) (k':=.cell) z (.inl rfl) fun y hy q=>by
      have:=yaS.mp c.nocell y hy;rw[q]at this;exact absurd this (by decide)
    ·exact zdQ (env:=X.env) (names:=scope.names) (x:=x) (k':=.free) z (.inr rfl) fun y hy q=>by
      have:=yaS.mp c.nocell y hy;rw[q]at this;exact absurd this (by decide)
   exact hcl.has x hm
  ·exact ⟨yao (yaw (hfp b hb) hC),fun x cc e z=>(f b hb).2.2.2.2.1 x cc (hcl.sub x cc e) z⟩
  ·exact yaA I.ok.bsz I.sz
  ·obtain ⟨_,_,_,h4,_⟩:=f b hb;rcases h4 with z | z
   ·exact I.ok.noex b o e z
   ·exact absurd (yaw (yaf e) (yaA I.ok.bsz z)) (ybh _)
  ·obtain ⟨_,h2,h3,_⟩:=f b hb;rcases yam.mp (I.stkSub b z) with q | q
   ·exact h2 q
   ·exact h3 q
 have hokN:za9 X.prog X.w (upd H D (.lst [])) h₁ D (.lst []):=⟨yaJ _,[],0,.nil,hnew⟩;refine ⟨ok,I.os.symm ▸ rfl,I.bare,Un.laid kp hD hfr,?_,fun x cc e=>?_,?_,fun x cc e=>?_,fun p hp=>?_,I.hok.laid kp hD hokN,?_⟩
 ·obtain ⟨m,hm⟩:=hns;refine ⟨m,hm,fun i x v e1 e2 e3=>?_⟩;have hi:own≤i:=by
   false_or_by_contra
   rename_i z;unfold zeQ at e2;rw[yba (by rw[ybj];omega),yct]at e2;split at e2 <;> cases e2
  obtain ⟨j,rfl⟩:∃ j,i=own+j:=⟨i - own,by omega⟩;have hj:j < cap.length:=by
   have:=(yak.mp e1).1;have z:=c.len;have this':own+j < N.length:=this;omega
  have hc:=yaS.mp c.caps j (ya8.mpr hj);have e1':N[own+j]?=some x:=e1;rw[e1']at hc;simp only[ybn,beq_iff_eq,Bool.or_eq_true]at hc;obtain ⟨hN,hf,hk⟩:=hc;have e2':σ[cap[j]!]?=some (some v):=by
   unfold zeQ at e2;rw[ya3 (by rw[ybj];omega),ybj,show own+j - own=j by omega,yap]at e2;have g:cap[j]! = cap[j]:=by simp[hj]
   rw[yac hj,Option.map_some]at e2;rw[g];have e2:=yad e2;cases q:σ[cap[j]]? with
   | none=>rw[q]at e2;cases e2
   | some z=>rw[q]at e2;exact congrArg some e2
  obtain ⟨m0,_,hl⟩:=I.loc;obtain ⟨u,ru,lk⟩:=hl (cap[j]!) x v hN.symm e2' (by
   rcases hk with z | z
   ·exact .inr (.inl z)
   ·exact .inr (.inr z))
  refine ⟨u,ru,.inr ⟨zck (env:=X.env) hf,?_⟩⟩;rcases lk with ⟨z,_⟩ | ⟨_,cc,ec,ic⟩
  ·rcases hk with q | q
   ·rw[q]at z;cases z
   ·rw[q]at z;cases z
  ·obtain ⟨c',hc'⟩:=hcl.has x (by
    have:(x,NameKind.free)∈scope.names:=by
     have hlk:=hf;obtain ⟨l1,l2,hs,hno⟩:=List.lookup_eq_some_iff.mp hlk;rw[hs];exact yaC _ yaF
    exact this)
   have:=hcl.sub x c' hc';rw[ec]at this;cases this
   obtain ⟨o,ho,hd⟩:=ic;exact ⟨cc,hc',o,kp cc o ho,hd⟩
 ·obtain ⟨v,o,ho,hd⟩:=cells x cc e;exact ⟨v,o,kp cc o ho,hd⟩
 ·show upd H D (.lst []) C=none;rw[zag (Ne.symm hCD)];exact hfrC
 ·show upd H D (.lst []) cc=none;rw[zag (cellne x cc e).1];exact I.freeC x cc (hcl.sub x cc e)
 ·obtain ⟨e,n,ne,nf,d⟩:=I.pin p hp;refine ⟨kp _ _ e,?_,(sz _ _ e).2,fun z=>?_,d⟩
  ·show upd H D (.lst []) p.1=none;rw[zag (sz _ _ e).1];exact n
  ·rcases yam.mp (I.stkSub p.1 z) with q | q
   ·exact ne q
   ·exact nf q
 ·show (zeQ own cap σ).length=N.length;unfold zeQ;rw[yaq,ybj,yab,c.len]
def zqd (own:Nat)(cap:List Nat)(wi:TI)(g:TG)(ts:TT)(te:TE):TE:=fun σ H Q=>wi σ H fun J H1=>∀ D,H1 D=none→∃ W:Nat→Nat→St→Hp→Prop,(∃ m,W 0 m (zeQ own cap σ) (upd H1 D (.lst [])))∧∀ i m σ H,W i m σ H→
 (J.stop i H∧Q (.ref D) H)∨(J.go i H∧∀ x H',J.yld i H x H'→g x σ H' fun σ2 H2=>ts σ2 H2 fun b H3=>if b=true then te σ2 H3 fun y H4=>∃ xs,H4 D=some (.lst xs)∧xs.length < sizeLine∧∃ m',m' < m∧W (i+1) m' σ2 (upd H4 D (.lst (xs++[y]))) else ∃ m',m' < m∧W (i+1) m' σ2 H3)
theorem zhY {pins:List (Addr×Obj)}{σ:St}{H2:Hp}{s2:Shared}{N:List Str}{own:Nat}{cap:List Nat}{scope:Scope}{cl:List (Str×Addr)}{fp:List Addr}{tg elt iter:Expr}{ifs:List Expr}{pos:Pos}{J:It}{it:Addr}{tn:Nat→Heap→Prop}{g:TG}{ts:TT}{te:TE}{Q:VK}
  {E:Value→Shared→Prop} {RR:Value→Addr→Result→Shared→Prop}
  (hcalm:X.calm=true) (c:zjT X scope N own cap) (hcl:zid scope X.env cl)
  (hg:∀ cl C s₂ H₂ fp,PG (zbE X N scope cl C s₂ H₂ fp) tg g) (hts:∀ cl C s₂ H₂ fp,PTs (zbE X N scope cl C s₂ H₂ fp) ifs ts) (he:∀ cl C s₂ H₂ fp,PE (zbE X N scope cl C s₂ H₂ fp) elt te)
  (I2:Inv X pins σ H2 s2) (T:Turn X.prog X.w X.K tg J fp it tn) (st2:tn 0 s2.heap) (f2:∀ b∈fp,FpOk X pins H2 b)
  (rd:∀ D,H2 D=none→∃ W:Nat→Nat→St→Hp→Prop,(∃ m,W 0 m (zeQ own cap σ) (upd H2 D (.lst [])))∧∀ i m σ H,W i m σ H→
   (J.stop i H∧Q (.ref D) H)∨(J.go i H∧∀ x H',J.yld i H x H'→g x σ H' fun σ2 H2=>ts σ2 H2 fun b H3=>if b=true then te σ2 H3 fun y H4=>∃ xs,H4 D=some (.lst xs)∧xs.length < sizeLine∧∃ m',m' < m∧W (i+1) m' σ2 (upd H4 D (.lst (xs++[y]))) else ∃ m',m' < m∧W (i+1) m' σ2 H3))
  (hRR:∀ D C s' H',Inv X pins σ H' s'→(∃ m,s'.heap.Ns C m)→FpOk X pins H' C→Q (.ref D) H'→RR (.ref D) C (.ok .next) s') :
  wpAny (model X.prog X.w) X.A (newList []) (fun acc s₃=>wpAny (model X.prog X.w) X.A (newFunctionEnv scope X.env.globals cl [] X.env.qual none .none (some X.env)) (fun cenv s₄=>
   codeAny (model X.prog X.w) X.A (.compStart (.ListComp elt [⟨tg,iter,ifs,0⟩] scope pos) 0 (.ref it) acc { cenv with scope:=relabel scope X.env }) (RR acc cenv.locals) s₄) E s₃) E s2:=by
 have hcell:∀ y∈scope.names,y.2≠.cell:=fun y hy q=>by
  have:=yaS.mp c.nocell y hy;rw[q]at this;exact absurd this (by decide)
 have hfp:∀ b∈fp,b < s2.heap.objs.size:=fun b hb=>by
  obtain ⟨o,e,_⟩:=T.obj 0 _ st2 b hb;exact yaf e
 refine wpAny_newObj_type (wpAny_newFunctionEnv hcell (by intro y hy;simp at hy) (fun h₁ hns₁ hsb₁=>?_) c.kind);dsimp only at hns₁ hsb₁ ⊢;generalize hHH:s2.heap.push { cls:=.type "list",dict:=none,data:=.seq ([]:List Value).toArray }=HH at hns₁ hsb₁ ⊢;have hC:HH.objs.size=s2.heap.objs.size+1:=by rw[← hHH,yb1]
 have hDC:s2.heap.objs.size≠HH.objs.size:=by rw[hC];exact yao (yb2 _)
 have hCle:s2.heap.objs.size≤HH.objs.size:=by rw[hC];exact ya9 _
 have old:∀ b o,s2.heap.get? b=some o→h₁.get? b=some o:=fun b o e=>hsb₁.extBut b o (yao (by rw[hC];exact Nat.lt_succ_of_lt (yaf e))) (yah _ (hHH ▸ yah _ e));have hnew:h₁.get? s2.heap.objs.size=some { cls:=.type "list",data:=.seq #[] }:=hsb₁.extBut _ _ hDC (yah _ (hHH ▸ yaB _ rfl));have I3:∀ tk,Inv (zbE X N scope cl HH.objs.size s2 H2 fp) pins (zeQ own cap σ) (upd H2 s2.heap.objs.size (.lst [])) { s2 with heap:=h₁,toks:=tk }:=fun tk=>
  znK I2 c hcl f2 (yaa _) hCle hDC old hnew ⟨_,hns₁⟩ hfp hcalm
 obtain ⟨W,⟨m0,w0⟩,turn⟩:=rd s2.heap.objs.size (I2.hok.fresh (yaa _));have st3:tn 0 h₁:=T.keep _ _ _ st2 fun b _ o e=>old b o e;have fr3:∀ b∈fp,upd H2 s2.heap.objs.size (.lst []) b=none:=fun b hb=>by rw[zag (yao (hfp b hb))];exact (f2 b hb).1
 have stat:∀{H':Hp},(∀ b∈fp,H' b=none)→∀ b∈fp,FpOk (zbE X N scope cl HH.objs.size s2 H2 fp) pins H' b:=fun hn b hb=>by
  obtain ⟨_,h2,h3,_,h5,h6⟩:=f2 b hb;refine ⟨hn b hb,yao (yaw (hfp b hb) hCle),fun z=>?_,.inl hb,fun x cc e=>h5 x cc (hcl.sub x cc e),h6⟩;rcases yam.mp (I2.stkSub b z) with q | q
  ·exact h2 q
  ·exact h3 q
 have loop:∀ s₃:Shared,s₃={ s2 with heap:=h₁,toks:=s2.toks+([]:List (Str×Value)).length }→
   codeAny (model X.prog X.w) X.A (.compLoop (.ListComp elt [⟨tg,iter,ifs,0⟩] scope pos) 0 (.ref it) (.ref s2.heap.objs.size) (compEnvC scope cl HH.objs.size X.env)) (RR (.ref s2.heap.objs.size) HH.objs.size) s₃:=by
  rintro s₃ rfl;refine ziQ (fun n s'=>∃ i σ' H',Inv (zbE X N scope cl HH.objs.size s2 H2 fp) pins σ' H' s'∧tn i s'.heap∧(∀ b∈fp,H' b=none)∧W i n σ' H') ?_ m0 ⟨0,_,_,I3 _,st3,fr3,w0⟩;rintro n s3 ⟨i,σ3,H3,J3,t3,fr,w3⟩;rcases turn i n σ3 H3 w3 with ⟨stop,qn⟩ | ⟨go,step⟩
  ·refine thn (T.done (zbE X N scope cl HH.objs.size s2 H2 fp) rfl rfl rfl hcalm i pins s3 σ3 H3 (fun _ _=>False) J3 (stat fr) t3 stop) fun r s4 zq0=>?_;obtain ⟨hr,I4⟩:=zq0;subst hr;obtain ⟨mm,hmm,_⟩:=I4.loc;refine hRR _ _ s4 H3 (I2.call' I4.os I4.base I4.hok I4.bare fun b hb=>?_) ⟨mm,hmm⟩ (I2.fpOk hCle I4.free) qn;obtain ⟨_,h2,_,h4,h5,h6⟩:=f2 b hb;exact ⟨h4,h2,h5,h6⟩
  ·refine thn (T.item (zbE X N scope cl HH.objs.size s2 H2 fp) rfl rfl rfl hcalm i pins s3 σ3 H3 (fun _ _=>False) J3 (stat fr) t3 go) fun r s4 zq0=>?_;obtain ⟨u,hr,h4⟩:=zq0;subst hr;refine thn h4 fun _ s5 zq0=>?_;obtain ⟨x,H5,I5,r5,y5,st5,fr5⟩:=zq0;have I5':=I5.pinned (stat fr5) (T.obj _ _ st5);have back:∀{σ7:St} {H7:Hp} {s7:Shared} {m':Nat},Inv (zbE X N scope cl HH.objs.size s2 H2 fp) (pins++zhH fp s5.heap) σ7 H7 s7→W (i+1) m' σ7 H7→∃ i σ' H',Inv (zbE X N scope cl HH.objs.size s2 H2 fp) pins σ' H' s7∧tn i s7.heap∧(∀ b∈fp,H' b=none)∧W i m' σ' H':=fun {σ7 H7 s7 m'} I7 w7=>by
    refine ⟨i+1,σ7,H7,I7.unpinned,T.keep _ _ _ st5 fun b hb o e=>(I7.pin (b,o) (yaC _ (yaC _ (zdB hb e)))).1,fun b hb=>?_,w7⟩;obtain ⟨o,e,d⟩:=T.obj _ _ st5 b hb;exact (I7.pin (b,o) (yaC _ (yaC _ (zdB hb e)))).2.1
   refine thn (hg cl HH.objs.size s2 H2 fp _ s5 σ3 H5 x u _ I5' r5 (step x H5 y5)) fun _ s6 zq0=>?_;obtain ⟨σ6,H6,I6,q6⟩:=zq0;refine thn (hts cl HH.objs.size s2 H2 fp _ s6 σ6 H6 _ I6 q6) fun b s7 zq0=>?_;obtain ⟨H7,I7,q7⟩:=zq0;cases b with
   | false=>
    rw[if_neg yaz]at q7 ⊢;obtain ⟨m',hm,w7⟩:=q7;exact ⟨m',hm,back I7 w7⟩
   | true=>
    rw[if_pos rfl]at q7 ⊢;refine thn (he cl HH.objs.size s2 H2 fp _ s7 σ6 H7 _ I7 q7) fun v s8 zq0=>?_;obtain ⟨y,H8,I8,r8,q8⟩:=zq0;obtain ⟨xs,hx,hz,m',hm,w8⟩:=q8;refine thn (zbU (X:=zbE X N scope cl HH.objs.size s2 H2 fp) _ s8 σ6 H8 (.ref s2.heap.objs.size) [y] (.ref s2.heap.objs.size) [v] (fun _ H9=>H9=upd H8 s2.heap.objs.size (.lst (xs++[y]))) I8 rfl (.cons r8 .nil) ⟨_,xs,y,rfl,rfl,hx,hz,rfl⟩) fun _ s9 zq0=>?_;obtain ⟨_,H9,I9,_,e9⟩:=zq0;subst e9;exact ⟨m',hm,back I9 w8⟩
 refine codeAny_compStart_list (loop _ rfl) ?_;exact T.self _ 0 _ _ _ st3 (loop _ rfl)
theorem zbZ {N:List Str}{own:Nat}{cap:List Nat}{scope:Scope}{tg elt iter:Expr}{ifs:List Expr}{pos:Pos}{wi:TI}{g:TG}{ts:TT}{te:TE}(hcalm:X.calm=true)(hi:PI X tg iter wi)(c:zjT X scope N own cap)
  (hg:∀ cl C s₂ H₂ fp,PG (zbE X N scope cl C s₂ H₂ fp) tg g) (hts:∀ cl C s₂ H₂ fp,PTs (zbE X N scope cl C s₂ H₂ fp) ifs ts) (he:∀ cl C s₂ H₂ fp,PE (zbE X N scope cl C s₂ H₂ fp) elt te)
  (hs:∀ x,foldedSetIterable iter X.env x=pure x:=by intro _;rfl):PE X (.ListComp elt [⟨tg,iter,ifs,0⟩] scope pos) (zqd own cap wi g ts te):=by
 intro pins s σ H Q I h;obtain ⟨cl,hcl⟩:=zfW (scope:=scope) (env:=X.env) fun x hx=>I.ok.has x (by
  have:=yaS.mp c.frees _ hx;simpa using this)
 rw[eval_ListComp];refine wpAny_comprehension_free (use:=none) rfl hs hcl.eq c.kind (fun x hx hl=>by
  have:=yaS.mp c.locs x hx;rw[hl]at this;simpa using this) (thn (hi pins s σ H _ I h) fun v s1 h1=>thn h1 fun itv s2 h2=>?_)
 obtain ⟨it,fp,tn,J,H2,e,I2,T,st2,f2,rd⟩:=h2;subst e;refine zhY (RR:=fun acc C=>compPost (model X.prog X.w) X.A X.xe none (EP X pins σ Q) acc C) hcalm c hcl hg hts he I2 T st2 f2 rd ?_;intro D C s' H' I' hm fC q;obtain ⟨m,hm⟩:=hm;obtain ⟨f0,f1,f2,f3,f4,f5⟩:=fC;exact ⟨m,hm,fun h' hsb=>⟨.ref D,H',I'.turned (t':=s'.toks) (fun b o hb e=>(hsb.2 b hb).trans e) f0 f1 f3 f4 f5,rfl,q⟩⟩
theorem zfw {i:Nat}{x:Str}{N:List Str}{own:Nat}{cap:List Nat}{scope:Scope}{tg elt iter:Expr}{ifs:List Expr}{pos pos' spos:Pos}{wi:TI}{g:TG}{ts:TT}{te:TE}(hN:X.N.Nodup)(hxi:X.N[i]?=some x)(hx:X.env.scope.names.lookup x=some .local)(hcalm:X.calm=true)(hi:PI X tg iter wi)(c:zjT X scope N own cap)
  (hg:∀ cl C s₂ H₂ fp,PG (zbE X N scope cl C s₂ H₂ fp) tg g) (hts:∀ cl C s₂ H₂ fp,PTs (zbE X N scope cl C s₂ H₂ fp) ifs ts) (he:∀ cl C s₂ H₂ fp,PE (zbE X N scope cl C s₂ H₂ fp) elt te)
  (hsw:swapsWith (.ListComp elt [⟨tg,iter,ifs,0⟩] scope pos) (some (.Name x pos')) spos.line X.env=pure true:=by rfl)
  (hs:∀ x,foldedSetIterable iter X.env x=pure x:=by intro _;rfl):PS X (.Assign [.Name x pos'] (.ListComp elt [⟨tg,iter,ifs,0⟩] scope pos) spos) (tAsg (zqd own cap wi g ts te) (zkp i)):=by
 intro pins s σ H D I h;obtain ⟨cl,hcl⟩:=zfW (scope:=scope) (env:=X.env) fun x hx=>I.ok.has x (by
  have:=yaS.mp c.frees _ hx;simpa using this)
 rw[exec_Assign_Name_used _ _ _ _ hsw];refine wpAny_bind (wpAny_standAt (wpAny_bind ?_));show wpAny _ X.A (do let _ ← comprehension (.ListComp elt [⟨tg,iter,ifs,0⟩] scope pos) scope X.env _ (newList []) false (eval iter X.env) (some (assign (.Name x pos') X.env))) _ _ s
 refine wpAny_bind (wpAny_mono (wpAny_comprehension_free (use:=some (assign (.Name x pos') X.env)) (Q:=fun _ s'=>SP X pins D .next s') rfl hs hcl.eq c.kind (fun x hx hl=>by
  have:=yaS.mp c.locs x hx;rw[hl]at this;simpa using this) (thn (hi pins s σ H _ I h) fun v s1 h1=>thn h1 fun itv s2 h2=>?_)) (fun _ s' hq=>wpAny_pure (wpAny_pure hq)) fun _ _ e=>e)
 obtain ⟨it,fp,tn,J,H2,e,I2,T,st2,f2,rd⟩:=h2;subst e;refine zhY (RR:=fun acc C=>compPost (model X.prog X.w) X.A X.xe (some (assign (.Name x pos') X.env)) (fun _ s'=>SP X pins D .next s') acc C) (Q:=fun x H1=>zkp i x σ H1 D.nx) hcalm c hcl hg hts he I2 T st2 f2 rd ?_;intro Dd C s' H' I' hm fC q;obtain ⟨m,hm⟩:=hm;have hne:∀ a,(a=X.env.locals∨X.env.cells.lookup x=some a)→a≠C:=fun a z=>by
  obtain ⟨f0,f1,f2,f3,f4,f5⟩:=fC;rcases z with z | z
  ·rw[z];exact Ne.symm f1
  ·exact f4 x a z
 show wpAny _ X.A (assign (.Name x pos') X.env (.ref Dd)) _ _ _;refine wpAny_assign_Name (zhx I' hN hxi (.inl hx) (v:=.ref Dd) rfl (fun s'' I'' hch=>?_) (.inr hx));obtain ⟨a,hsb,ha⟩:=hch;refine ⟨m,hm.sameBut hsb (Ne.symm (hne a ha)),fun h' hs'=>?_⟩;obtain ⟨f0,f1,f2,f3,f4,f5⟩:=fC;exact ⟨_,H',I''.turned (t':=s''.toks) (fun b o hb e=>(hs'.2 b hb).trans e) f0 f1 f3 f4 f5,q⟩
end
end L2
namespace L2
open PySem PySem.Spec PyProof.Rows PySem.SeqAt
class Srt (α:Type)[Rep α] where
 blt:α→α→Bool
 irrefl:∀ a,blt a a=false
 trans:∀ a b c,blt a b=true→blt b c=true→blt a c=true
 negTrans:∀ a b c,blt a c=true→blt a b=true∨blt b c=true
 total:∀ a b,blt a b=false→blt b a=false→a=b
 kd:SortKind
 one:α
 lt:∀{X:Cx} {pins:List (Addr×Obj)} {σ:St} {H:Hp} {s:Shared} {A:Around} {a b:α} {x y:V} {u v:Value} {Q:Bool→Shared→Prop} {E:Value→Shared→Prop},Inv X pins σ H s→Rep.has X.K H a x→Rep.has X.K H b y→RelV x u→RelV y v→Q (blt a b) s→wpAny (model X.prog X.w) A (keyLt' kd u v) Q E s
 kind:∀{X:Cx} {pins:List (Addr×Obj)} {σ:St} {H:Hp} {s:Shared} {A:Around} {as:List α} {xs:List V} {us:List Value} {Q:SortKind→Shared→Prop} {E:Value→Shared→Prop},Inv X pins σ H s→zal X.K H as xs→Vals xs us→2≤us.length→Q kd s→wpAny (model X.prog X.w) A (keyKind' us.toArray) Q E s
section
variable {α:Type}[Rep α][Srt α]
noncomputable def srtKind (α:Type)[Rep α][Srt α](K:Frag)(H:Hp):PyProof.Rows.KeyKind where
 α:=α
 blt:=Srt.blt
 irrefl:=Srt.irrefl
 trans:=Srt.trans
 negTrans:=Srt.negTrans
 total:=Srt.total
 keyOf:=fun u=>open Classical in if h:∃ a:α,∃ x,RelV x u∧Rep.has K H a x then some (Classical.choose h) else none
 dflt:=Srt.one
theorem znI {X:Cx}{pins:List (Addr×Obj)}{σ:St}{H:Hp}{s:Shared}{a:α}{x:V}{u:Value}(I:Inv X pins σ H s)(r:RelV x u)(h:Rep.has X.K H a x):(srtKind α X.K H).keyOf u=some a:=by
 have e:∃ a:α,∃ x,RelV x u∧Rep.has X.K H a x:=⟨a,x,r,h⟩;unfold srtKind;dsimp only;rw[dif_pos e];obtain ⟨y,ry,hy⟩:=Classical.choose_spec e;have z:=ry.inj r;subst z;exact congrArg some (Rep.inj I hy h)
theorem zdE {K:Frag}{H:Hp}{a:α}{u:Value}(h:(srtKind α K H).keyOf u=some a):∃ x,RelV x u∧Rep.has K H a x:=by
 unfold srtKind at h;dsimp only at h;split at h
 ·rename_i e;cases h
  exact Classical.choose_spec e
 ·cases h
def zc3 (as:List α):List α:=as.mergeSort fun a b=>!Srt.blt b a
theorem zb8 (as:List α):(zc3 as).Perm as:=List.mergeSort_perm _ _
theorem zfr {as:List α}{a:α}:a∈zc3 as↔a∈as:=(zb8 as).mem_iff
theorem zeR (as:List α):(zc3 as).length=as.length:=(zb8 as).length_eq
theorem zmH {a b:α}(h:Srt.blt a b=true):Srt.blt b a=false:=by
 cases e:Srt.blt b a with
 | false=>rfl
 | true=>
  have:=Srt.trans _ _ _ h e;rw[Srt.irrefl]at this;cases this
theorem zjm (as:List α):(zc3 as).Pairwise fun a b=>Srt.blt b a=false:=by
 have h:=List.pairwise_mergeSort (le:=fun a b:α=>!Srt.blt b a) (fun a b c h1 h2=>by
  simp only[ybC]at h1 h2 ⊢;cases e:Srt.blt c a with
  | false=>rfl
  | true=>
   rcases Srt.negTrans c b a e with z | z
   ·rw[h2]at z;cases z
   ·rw[h1]at z;cases z) (fun a b=>by
  cases e:Srt.blt b a with
  | false=>rfl
  | true=>rw[zmH e];rfl) as
 exact h.imp fun {a b} z=>by simpa using z
theorem zdj {as bs:List α}(hp:bs.Perm as)(hs:bs.Pairwise fun a b=>Srt.blt b a=false):bs=zc3 as:=
 List.Perm.eq_of_pairwise (fun a b _ _ h1 h2=>Srt.total a b h2 h1) hs (zjm as) (hp.trans (zb8 as).symm)
theorem zld {as:List α}(hs:as.Pairwise fun a b=>Srt.blt b a=false):zc3 as=as:=(zdj (List.Perm.refl _) hs).symm
theorem zgj {as:List α}(hn:as.Nodup):(zc3 as).Pairwise fun a b=>Srt.blt a b=true:=by
 have h1:=zjm as;have h2:(zc3 as).Nodup:=(zb8 as).nodup_iff.mpr hn;refine (h1.and h2).imp fun {a b} z=>?_;cases e:Srt.blt a b with
 | true=>rfl
 | false=>exact absurd (Srt.total a b e z.1) z.2
theorem zfE {K:Frag}{H:Hp}:∀{out:List Value},(∀ v∈out,∃ a:α,∃ x,RelV x v∧Rep.has K H a x∧(srtKind α K H).keyOf v=some a)→
  ∃(ws:List V) (bs:List α),Vals ws out∧zal K H bs ws∧bs=out.map (Tim.keyV (srtKind α K H))
 | [],_=>⟨[],[],.nil,.nil,rfl⟩
 | v::out,h=>by
  obtain ⟨ws,bs,h1,h2,h3⟩:=zfE (out:=out) fun u hu=>h u (yax _ hu);obtain ⟨a,x,r,e,k⟩:=h v yaF;refine ⟨x::ws,a::bs,.cons r h1,.cons e h2,?_⟩;rw[yau,← h3];have z:Tim.keyV (srtKind α K H) v=a:=by
   unfold Tim.keyV;rw[k];rfl
  rw[z];rfl
theorem ziH {X:Cx}{pins:List (Addr×Obj)}{σ:St}{H:Hp}{s:Shared}(I:Inv X pins σ H s):∀{as:List α} {xs:List V} {us:List Value},zal X.K H as xs→Vals xs us→us.map (Tim.keyV (srtKind α X.K H))=as∧∀ v∈us,∃ a:α,∃ x,RelV x v∧Rep.has X.K H a x∧(srtKind α X.K H).keyOf v=some a
 | _,_,_,.nil,.nil=>⟨rfl,fun _ z=>nomatch z⟩
 | _,_,_,.cons e t,.cons r q=>by
  obtain ⟨h1,h2⟩:=ziH I t q;have k:=znI I r e;refine ⟨?_,fun v hv=>?_⟩
  ·rw[yau,h1];unfold Tim.keyV;rw[k];rfl
  ·rcases yam.mp hv with z | z
   ·subst z;exact ⟨_,_,r,e,k⟩
   ·exact h2 v z
end
def zou (α:Type)[Rep α][Srt α](K:Frag):List V→Hp→VK→Prop:=fun xs H Q=>∃(p:Addr) (vs:List V) (as:List α),xs=[.ref p]∧SqL K H p vs∧zal K H as vs∧
 ∀ l ws,H l=none→zal K H (zc3 as) ws→Q (.ref l) (upd H l (.lst ws))
section
variable {X:Cx}
theorem zgz (α:Type)[Rep α][Srt α]:zbG X (.builtin "sorted") (zou α X.K):=by
 intro pins s σ H xs us Q I r h;obtain ⟨p,vs,as,rfl,hq,ha,q⟩:=h;obtain ⟨u,rfl,rx⟩:=zev r;cases rx
 obtain ⟨its,rv,pl,hz⟩:=I.list hq;have hlen:=rv.length;obtain ⟨km,kk⟩:=ziH I ha rv;refine Tim.zm1 (κ:=srtKind α X.K H) (kd:=Srt.kd α) pl.isList (by omega) (fun v hv=>?_) (fun h' k E x y a b Q hx hy q=>?_) (fun h' E Q k h2 q=>Srt.kind (Inv.kept (t':=s.toks) I k) ha rv h2 q) fun out h' c p1 p2 k hc=>?_
 ·obtain ⟨a,_,_,_,e⟩:=kk v hv;exact ⟨a,e⟩
 ·obtain ⟨x1,r1,e1⟩:=zdE hx;obtain ⟨y1,r2,e2⟩:=zdE hy;exact Srt.lt (Inv.kept (t':=s.toks) I k) e1 e2 r1 r2 q
 ·obtain ⟨ws,bs,w1,w2,w3⟩:=zfE (α:=α) (K:=X.K) (H:=H) (out:=out) fun v hv=>kk v (p1.mem_iff.mp hv);have eb:bs=zc3 as:=by
   refine zdj ?_ ?_
   ·rw[w3,← km];exact p1.map _
   ·rw[w3];exact ybF.mpr p2
  rw[eb]at w2;have hw:ws.length≤sizeLine:=by
   have:=w1.length;have:=p1.length_eq;omega
  exact ⟨.ref (s.heap.objs.size+1),_,I.laid (a:=s.heap.objs.size+1) (o:=.lst ws) (t':=s.toks) k (ya9 _) ⟨hw,out,c,w1,hc⟩,rfl,q _ ws (I.hok.fresh (ya9 _)) w2⟩
end
instance:Srt Int where
 blt:=fun a b=>decide (a < b)
 irrefl:=fun a=>by simp
 trans:=fun a b c h1 h2=>by
  simp only[decide_eq_true_eq]at *;omega
 negTrans:=fun a b c h=>by
  simp only[decide_eq_true_eq]at *;omega
 total:=fun a b h1 h2=>by
  simp only[decide_eq_false_iff_not]at *;omega
 kd:=oneType'
 one:=0
 lt:=fun {X pins σ H s A a b x y u v Q E} _ h1 h2 r1 r2 q=>by
  have h1:x=.int a:=h1;have h2:y=.int b:=h2;subst h1 h2;obtain ⟨t,rfl⟩:=r1;obtain ⟨t',rfl⟩:=r2;exact PySem.W.kat_lt_int q
 kind:=fun {X pins σ H s A as xs us Q E} _ h r hl q=>by
  have e:=zal.toInts h;subst e;have hi:IntsAre us as:=by
   clear q hl
   induction as generalizing us with
   | nil=>cases r;exact .nil
   | cons a as ih=>
    cases r with
    | cons r1 r2=>
     obtain ⟨t,rfl⟩:=r1;exact .cons a t (ih (by first | exact zal.ints | assumption) r2)
  match us,hl,hi with
  | v₁::v₂::rest,_,hi=>
   rw[keyKind_ints hi];exact wpAny_pure q
def pLt (a b:Int×Int):Bool:=decide (a.1 < b.1) || (decide (a.1=b.1) && decide (a.2 < b.2))
theorem zcA {a b:Int×Int}:pLt a b=true↔a.1 < b.1∨(a.1=b.1∧a.2 < b.2):=by
 unfold pLt;simp
theorem zit {a b:Int×Int}:pLt a b=false↔¬ (a.1 < b.1∨(a.1=b.1∧a.2 < b.2)):=by
 rw[← zcA];simp
theorem zg1 {X:Cx}{pins:List (Addr×Obj)}{σ:St}{H:Hp}{s:Shared}{a:Int×Int}{x:V}{u:Value}(I:Inv X pins σ H s)(h:Rep.has X.K H a x)(r:RelV x u) :
  ∃(p:Addr) (o:Obj) (n:Nat) (t t':Tok),u=.ref p∧s.heap.get? p=some o∧o.cls=.type "tuple"∧o.data=.seq #[.int a.1 t,.int a.2 t'] n:=by
 obtain ⟨p,x1,x2,rfl,q,e1,e2⟩:=(show hasP X.K H a x from h);have e1:x1=.int a.1:=e1;have e2:x2=.int a.2:=e2;subst e1 e2;cases r
 obtain ⟨us,ru,pu,_⟩:=I.tuple (SqT.of q);obtain ⟨u1,u2,rfl,⟨t,rfl⟩,⟨t',rfl⟩⟩:=zf5 ru;obtain ⟨o,ho,hc,n,hd⟩:=pu;exact ⟨p,o,n,t,t',rfl,ho,hc,hd⟩
theorem zoE {prog:Program}{w:World}{A:Around}{E:Value→Shared→Prop}{s:Shared}{x y:Int}{t u:Tok}{Q:Bool→Shared→Prop}(b:Bool)(h:Q (decide (x < y)) s):wpAny (model prog w) A (oneLt' b (.int x t) (.int y u)) Q E s:=by
 cases b with
 | true=>
  rw[← keyLt'_oneType];exact PySem.W.kat_lt_int h
 | false=>exact PySem.W.kat_one _ _ (lt_int h)
instance:Srt (Int×Int) where
 blt:=pLt
 irrefl:=fun a=>by rw[zit];omega
 trans:=fun a b c h1 h2=>by
  rw[zcA]at *;omega
 negTrans:=fun a b c h=>by
  rw[zcA]at *;rw[zcA];omega
 total:=fun a b h1 h2=>by
  rw[zit]at *;obtain ⟨a1,a2⟩:=a;obtain ⟨b1,b2⟩:=b;have:a1=b1∧a2=b2:=by dsimp only at *;omega
  rw[this.1,this.2]
 kd:=tuples' true
 one:=(0,0)
 lt:=fun {X pins σ H s A a b x y u v Q E} I h1 h2 r1 r2 q=>by
  obtain ⟨p,o,n,t1,t2,rfl,ho,hc,hd⟩:=zg1 I h1 r1;obtain ⟨p',o',n',t3,t4,rfl,ho',hc',hd'⟩:=zg1 I h2 r2;refine PySem.W.kat_lt ho hd ho' hd' ?_;show PySem.W.KatLex X.prog X.w A true _ Q [(.int a.1 t1,.int b.1 t3),(.int a.2 t2,.int b.2 t4)] 0 s;refine PySem.W.kat_cons (EqAt.int_int a.1 t1 b.1 t3 _ _ _ _ (PySem.W.kat_go (fun e=>PySem.W.kat_yes ?_) (fun e=>PySem.W.kat_no ?_)))
  ·have e1:a.1=b.1:=eq_of_beq e;refine PySem.W.kat_cons (EqAt.int_int a.2 t2 b.2 t4 _ _ _ _ (PySem.W.kat_go (fun e=>PySem.W.kat_yes (PySem.W.kat_nil ?_)) (fun e=>PySem.W.kat_no (zoE _ ?_))))
   ·have e2:a.2=b.2:=eq_of_beq e;have z:pLt a b=false:=by rw[zit];omega
    rw[z]at q;exact q
   ·have z:pLt a b=decide (a.2 < b.2):=by
     unfold pLt;rw[yai (by omega:¬ a.1 < b.1),yal e1];rfl
    rw[z]at q;exact q
  ·have e1:¬ a.1=b.1:=fun z=>by rw[z]at e;simp at e
   refine zoE _ ?_;have z:pLt a b=decide (a.1 < b.1):=by
    unfold pLt;rw[yai e1];simp
   rw[z]at q;exact q
 kind:=fun {X pins σ H s A as xs us Q E} I h r hl q=>by
  have go:∀{as:List (Int×Int)} {xs:List V} {us:List Value},zal X.K H as xs→Vals xs us→∃ fs,PySem.W.KatTups s.heap us fs∧fs.length=us.length∧∀ v∈fs,∃ i t,v=Value.int i t:=by
   intro as
   induction as with
   | nil=>
    intro xs us h r;cases h
    cases r
    exact ⟨[],.nil,rfl,fun _ z=>nomatch z⟩
   | cons a as ih=>
    intro xs us h r;cases h with
    | cons h1 h2=>
     cases r with
     | cons r1 r2=>
      obtain ⟨fs,f1,f2,f3⟩:=ih h2 r2;obtain ⟨p,o,n,t,t',rfl,ho,hc,hd⟩:=zg1 I h1 r1;refine ⟨.int a.1 t::fs,PySem.W.KatTups.cons ho hc hd rfl f1,by rw[yaI,yaI,f2],fun v hv=>?_⟩;rcases yam.mp hv with z | z
      ·exact ⟨_,_,z⟩
      ·exact f3 v z
  obtain ⟨fs,f1,f2,f3⟩:=go h r;refine PySem.W.kat_kind (T:=.type "int") f1 (by omega) (fun v hv=>?_) (by decide) ?_
  ·obtain ⟨i,t,rfl⟩:=f3 v hv;exact PySem.W.Looks.of_pure rfl
  ·exact q
end L2
namespace L2
open PySem PySem.Spec PyProof.Rows
section
variable {X:Cx}
theorem zdx {x:Str}{i:Int}{pos:Pos}(hg:Gl X x)(hm:∃ t,X.mg x=some (.int i t))(hd:(x == ("__debug__" : Str))=false:=by decide):PE X (.Name x pos) (tC (.int i)):=by
 obtain ⟨t,e⟩:=hm;exact zbY hg e ⟨t,rfl⟩ hd
end
theorem zbF {K:Frag}{a D:Addr}{xs:List V}{g:TG}{ts:TT}{te:TE}{σ:St}{H:Hp}{Q:Hp→Prop}(Pv:Nat→St→Hp→Prop)(h0:Pv 0 σ H)(hl:∀ i σ H,i≤xs.length→Pv i σ H→SqL K H a xs)
  (hs:∀ i m x σ H,xs[i]?=some x→i+m=xs.length→Pv i σ H→g x σ H fun σ2 H2=>ts σ2 H2 fun b H3=>if b=true then te σ2 H3 fun y H4=>∃ zs,H4 D=some (.lst zs)∧zs.length < sizeLine∧∃ m',m' < m∧(i+1+m'=xs.length∧Pv (i+1) σ2 (upd H4 D (.lst (zs++[y])))) else ∃ m',m' < m∧(i+1+m'=xs.length∧Pv (i+1) σ2 H3))
  (hd:∀ σ H,Pv xs.length σ H→Q H) :
  ∃ W:Nat→Nat→St→Hp→Prop,(∃ m,W 0 m σ H)∧∀ i m σ H,W i m σ H→((Itl K a).stop i H∧Q H)∨((Itl K a).go i H∧∀ x H',(Itl K a).yld i H x H'→g x σ H' fun σ2 H2=>ts σ2 H2 fun b H3=>if b=true then te σ2 H3 fun y H4=>∃ xs,H4 D=some (.lst xs)∧xs.length < sizeLine∧∃ m',m' < m∧W (i+1) m' σ2 (upd H4 D (.lst (xs++[y]))) else ∃ m',m' < m∧W (i+1) m' σ2 H3):=by
 refine ⟨fun i m σ H=>i+m=xs.length∧Pv i σ H,⟨xs.length,by omega,h0⟩,fun i m σ H zq0=>?_⟩;obtain ⟨e,pv⟩:=zq0;have hS:=hl i σ H (by omega) pv;by_cases hi:i < xs.length
 ·refine .inr ⟨⟨xs,xs[i],hS,yac hi⟩,fun x H' y=>?_⟩;obtain ⟨e1,y⟩:=y;subst e1;exact hs i m x σ _ (y xs hS) e pv
 ·have:i=xs.length:=by omega
  subst this;exact .inl ⟨⟨xs,hS,yaa _⟩,hd σ H pv⟩
theorem zeJ {lo:Int}{n:Nat}{D:Addr}{g:TG}{ts:TT}{te:TE}{σ:St}{H:Hp}{Q:Hp→Prop}(Pv:Nat→St→Hp→Prop)(h0:Pv 0 σ H)
  (hs:∀ i m σ H,i+m=n→i < n→Pv i σ H→g (.int (lo+i)) σ H fun σ2 H2=>ts σ2 H2 fun b H3=>if b=true then te σ2 H3 fun y H4=>∃ zs,H4 D=some (.lst zs)∧zs.length < sizeLine∧∃ m',m' < m∧(i+1+m'=n∧Pv (i+1) σ2 (upd H4 D (.lst (zs++[y])))) else ∃ m',m' < m∧(i+1+m'=n∧Pv (i+1) σ2 H3))
  (hd:∀ σ H,Pv n σ H→Q H) :
  ∃ W:Nat→Nat→St→Hp→Prop,(∃ m,W 0 m σ H)∧∀ i m σ H,W i m σ H→((Itr lo n).stop i H∧Q H)∨((Itr lo n).go i H∧∀ x H',(Itr lo n).yld i H x H'→g x σ H' fun σ2 H2=>ts σ2 H2 fun b H3=>if b=true then te σ2 H3 fun y H4=>∃ xs,H4 D=some (.lst xs)∧xs.length < sizeLine∧∃ m',m' < m∧W (i+1) m' σ2 (upd H4 D (.lst (xs++[y]))) else ∃ m',m' < m∧W (i+1) m' σ2 H3):=by
 refine ⟨fun i m σ H=>i+m=n∧Pv i σ H,⟨n,by omega,h0⟩,fun i m σ H zq0=>?_⟩;obtain ⟨e,pv⟩:=zq0;by_cases hi:i < n
 ·refine .inr ⟨hi,fun x H' y=>?_⟩;obtain ⟨e1,y⟩:=y;subst e1 y;exact hs i m σ _ e hi pv
 ·have:i=n:=by omega
  subst this;exact .inl ⟨yaa _,hd σ H pv⟩
end L2
namespace L2
open PySem PySem.Spec PyProof.Rows
def metI (ns:List Int):List Int:=firstMet (fun i=>ns.getD i 0) ns.length
theorem zj4:∀ ns:List Int,(List.range ns.length).map (fun i=>ns.getD i 0)=ns:=fun ns=>by
 apply ya4;intro i;rw[yap];by_cases h:i < ns.length
 ·rw[ycj h,Option.map_some,yae,yac h];rfl
 ·rw[yaU (by rw[ybf];omega),yaU (by omega)];rfl
theorem zfR:∀(ns σ:List Int),(σ++ns).Nodup→ns.foldl step_dedup σ=σ++ns
 | [],σ,_=>by simp
 | n::ns,σ,h=>by
  have hn:¬ (σ.any (· == n))=true:=fun z=>by
   obtain ⟨x,hx,e⟩:=List.any_eq_true.mp z;have e:=eq_of_beq e;subst e;rw[ya5]at h;exact h.2.2 x hx x yaF rfl
  rw[List.foldl_cons];have e:step_dedup σ n=σ++[n]:=by
   unfold step_dedup;rw[if_neg hn]
  rw[e,zfR ns (σ++[n]) (by rw[yaL];exact h),yaL];rfl
theorem zdA {ns:List Int}(h:ns.Nodup):metI ns=ns:=by
 unfold metI firstMet;rw[zj4];exact zfR ns [] h
theorem zbQ:∀{ns:List Int} {us:List Value},Vals (ns.map V.int) us→IntsAre us ns
 | [],_,.nil=>.nil
 | n::_,_,.cons ⟨t,e⟩ q=>by
  subst e;exact .cons n t (zbQ q)
def zqs (K:Frag):List V→Hp→VK→Prop:=fun xs H Q=>∃(p:Addr) (ns:List Int),xs=[.ref p]∧SqL K H p (ns.map V.int)∧ns.length≤1000∧
 ∀ l,H l=none→Q (.ref l) (upd H l (.set (fun k=>(metI ns).any (· == k)) (metI ns).length))
section
variable {X:Cx}
theorem zmE (hc:X.calm=true):zbG X (.type "set") (zqs X.K):=by
 intro pins s σ H xs us Q I r h;obtain ⟨p,ns,rfl,hq,hz,q⟩:=h;obtain ⟨u,rfl,rx⟩:=zev r;cases rx
 obtain ⟨its,rv,pl,_⟩:=I.list hq;have hl:=rv.length;rw[yab]at hl;refine call_set_list (ns:=ns) (I.ok.hd hc) pl.isList (by simpa using zbQ rv) (by unfold scanBound;simp only[yar];omega) fun h' tk hS hk=>?_;have e:its.toArray.size=ns.length:=by simp only[yar];omega
 rw[e]at hS;exact ⟨.ref s.heap.objs.size,_,I.laid (a:=s.heap.objs.size) (o:=.set _ _) (t':=tk) (fun b o eb=>hk b o (yaf eb) eb) (yaa _) hS,rfl,q _ (I.hok.fresh (yaa _))⟩
theorem zkz:zbG X (.builtin "len") (fun xs H Q=>∃ p S n,xs=[.ref p]∧H p=some (.set S n)∧n≤1000∧Q (.int (n:Nat)) H):=by
 intro pins s σ H xs us Q I r h;obtain ⟨p,S,n,rfl,hp,hn,q⟩:=h;obtain ⟨u,rfl,rx⟩:=zev r;cases rx
 have ok:s.heap.SetOf (intKind X.prog X.w) p S n:=I.hok p _ hp;obtain ⟨o,ho,hex,es,ep,t,hd,_,_,hm,hf⟩:=ok.objOf;subst hm;exact call_len_set ho hex hd hf (by omega) ⟨.int _,H,I.tok _,⟨_,rfl⟩,q⟩
end
end L2
namespace L2
open PySem PySem.Spec PyProof.Rows
theorem zq5:kitO "NoneType" "int" = some false:=by decide +kernel
theorem zq6:kitO "NoneType" "bool" = some false:=by decide +kernel
end L2
namespace L2
theorem zcJ {i:Nat}{x:V}{σ:St}{H:Hp}{A B:St→Hp→Prop}(h:A (σ.set i (some x)) H):zkp i x σ H fun σ2 H2=>tYes σ2 H2 fun b H3=>if b=true then A σ2 H3 else B σ2 H3:=by
 show (if true=true then A (σ.set i (some x)) H else B (σ.set i (some x)) H)
 rw[if_pos rfl];exact h
end L2
namespace L2
open PySem PySem.Spec PyProof.Rows
section
variable {X:Cx}
theorem zh1 (hc:X.calm=true):zbG X (.builtin "sum") (fun xs H Q=>∃(p:Addr) (ns:List Int),xs=[.ref p]∧SqL X.K H p (ns.map V.int)∧Q (.int ns.sum) H):=by
 intro pins s σ H xs us Q I r h;obtain ⟨p,ns,rfl,hq,q⟩:=h;obtain ⟨u,rfl,rx⟩:=zev r;cases rx
 obtain ⟨its,rv,pl,_⟩:=I.list hq;have hi:=zbQ rv;obtain ⟨xs,hx⟩:=hi.allInts.items;have hl':s.heap.IsList p (intItems xs):=hx ▸ pl.isList;refine sum_intListG (I.ok.hd hc) hl' fun h' tk t' hk=>?_;have e1:ns=xs.toList.map (·.1):=by
  rw[← nums_intItems,← hx];exact (show numsOf its.toArray.toList=ns from hi.numsOf).symm
 have e2:preSum (numAt xs) xs.size=ns.sum:=by
  rw[preSum_eq,yas (by simp),e1]
 rw[e2];exact ⟨.int _,H,Inv.kept (t':=tk) I hk,⟨t',rfl⟩,q⟩
end
end L2
namespace L2
open PySem PySem.Spec PyProof.Rows
section
variable {X:Cx}{K:Frag}
theorem zer (h:X.K=K:=by rfl):zbG X (.builtin "len") (fun xs H Q=>∃ p ys,xs=[.ref p]∧(SqL K H p ys∨SqT K H p ys)∧Q (.int ys.length) H):=by
 subst h;exact zao
theorem zl6 (h:X.K=K:=by rfl):IxR X (rIxT K):=by
 subst h;exact zbf
end
end L2
namespace L2
open PySem PySem.Spec PyProof.Rows
theorem zhp {c:TT}{tb:TS}{D:Ends}{σ:St}{H:Hp}(Pv Pe:St→Hp→Prop)(μ:St→Hp→Nat)(h0:Pv σ H)
  (hs:∀ σ H,Pv σ H→c σ H fun b H1=>if b=true then tb { D with nx:=fun σ' H'=>Pv σ' H'∧μ σ' H' < μ σ H,ct:=fun σ' H'=>Pv σ' H'∧μ σ' H' < μ σ H,bk:=D.nx } σ H1 else Pe σ H1)
  (mono:∀ σ H Q Q',(∀ b H1,Q b H1→Q' b H1)→c σ H Q→c σ H Q') (he:∀ σ H,Pe σ H→D.nx σ H):zkV c tb D σ H:=by
 refine zmQ Pv μ h0 (fun σ H p=>mono σ H _ _ (fun b H1 q=>?_) (hs σ H p)) mono;cases b with
 | true=>exact q
 | false=>exact he _ _ q
def zp0 (c:TT):Prop:=∀ σ H Q Q',(∀ b H1,Q b H1→Q' b H1)→c σ H Q→c σ H Q'
theorem zkX {a b:TT}(ha:zp0 a)(hb:zp0 b):zp0 (tAnd a b):=fun σ H Q Q' m h=>ha σ H _ _ (fun c H1 q=>by
 cases c with
 | false=>exact m _ _ q
 | true=>exact hb σ H1 Q Q' m q) h
section
variable {X:Cx}{K:Frag}
theorem zg3 (h:X.K=K:=by rfl):OpR X (compareOp .NotIn) (rIn K true):=by
 subst h;exact zda
theorem zpa {es:List Expr}{k:Nat}{t:TGs}{n:Nat}{pos:Pos}(hc:X.calm=true)(h:PGs X es t)(hK:X.K=K:=by rfl)
  (hn:(assignEach es X.env).length=n:=by rfl) (hst:(assignEach es X.env).findIdx? (·.1)=none:=by rfl):PG X (.Tuple es k pos) (gTup K n t):=by
 subst hK;exact zoy hc h hn hst
end
theorem znZ {K:Frag}{a b D:Addr}{xs ys:List V}{g:TG}{ts:TT}{te:TE}{σ:St}{H:Hp}{Q:Hp→Prop}(hlen:xs.length=ys.length)(Pv:Nat→St→Hp→Prop)(h0:Pv 0 σ H)(hl:∀ i σ H,i≤xs.length→Pv i σ H→SqL K H a xs∧SqL K H b ys)
  (hs:∀ i m x y σ H r,xs[i]?=some x→ys[i]?=some y→i+m=xs.length→Pv i σ H→H r=none→g (.ref r) σ (upd H r (.tup [x,y])) fun σ2 H2=>ts σ2 H2 fun b H3=>if b=true then te σ2 H3 fun y H4=>∃ zs,H4 D=some (.lst zs)∧zs.length < sizeLine∧∃ m',m' < m∧(i+1+m'=xs.length∧Pv (i+1) σ2 (upd H4 D (.lst (zs++[y])))) else ∃ m',m' < m∧(i+1+m'=xs.length∧Pv (i+1) σ2 H3))
  (hd:∀ σ H,Pv xs.length σ H→Q H) :
  ∃ W:Nat→Nat→St→Hp→Prop,(∃ m,W 0 m σ H)∧∀ i m σ H,W i m σ H→((Itz K a b).stop i H∧Q H)∨((Itz K a b).go i H∧∀ x H',(Itz K a b).yld i H x H'→g x σ H' fun σ2 H2=>ts σ2 H2 fun b H3=>if b=true then te σ2 H3 fun y H4=>∃ xs,H4 D=some (.lst xs)∧xs.length < sizeLine∧∃ m',m' < m∧W (i+1) m' σ2 (upd H4 D (.lst (xs++[y]))) else ∃ m',m' < m∧W (i+1) m' σ2 H3):=by
 refine ⟨fun i m σ H=>i+m=xs.length∧Pv i σ H,⟨xs.length,by omega,h0⟩,fun i m σ H zq0=>?_⟩;obtain ⟨e,pv⟩:=zq0;obtain ⟨hS,hS'⟩:=hl i σ H (by omega) pv;by_cases hi:i < xs.length
 ·refine .inr ⟨⟨xs,ys,xs[i],ys[i]'(by omega),hS,hS',yac hi,yac (by omega)⟩,fun x H' y=>?_⟩;obtain ⟨p,z,z',rfl,hp,hz,hz',rfl⟩:=y;exact hs i m z z' σ H p (hz xs hS) (hz' ys hS') e pv hp
 ·have:i=xs.length:=by omega
  subst this;exact .inl ⟨⟨xs,ys,hS,hS',.inl (yaa _)⟩,hd σ H pv⟩
end L2
namespace L2
open PySem PySem.Spec PyProof.Rows
section
variable {X:Cx}
theorem zmF (hc:X.calm=true):zbG X (.builtin "min") (fun xs H Q=>∃(p:Addr) (ns:List Int),xs=[.ref p]∧SqL X.K H p (ns.map V.int)∧0 < ns.length∧∀ M,M∈ns→(∀ a,a∈ns→M≤a)→Q (.int M) H):=by
 intro pins s σ H xs us Q I r h;obtain ⟨p,ns,rfl,hq,hne,q⟩:=h;obtain ⟨u,rfl,rx⟩:=zev r;cases rx
 obtain ⟨its,rv,pl,_⟩:=I.list hq;have hi:=zbQ rv;obtain ⟨xs,hx⟩:=hi.allInts.items;have hl':s.heap.IsList p (intItems xs):=hx ▸ pl.isList;have e1:ns=xs.toList.map (·.1):=by
  rw[← nums_intItems,← hx];exact (show numsOf its.toArray.toList=ns from hi.numsOf).symm
 have hsz:0 < xs.size:=by
  rw[e1,yab,yav]at hne;exact hne
 refine min_intList (I.ok.hd hc) hl' hsz fun v h' tk hv hk=>?_;obtain ⟨t,rfl⟩:=intItems_at hv;obtain ⟨h1,h2⟩:=argBest_lt (numAt xs) (xs.size - 1);refine ⟨.int _,H,Inv.kept (t':=tk) I hk,⟨t,rfl⟩,q _ ?_ fun a ha=>?_⟩
 ·rw[e1,numAt_eq];rw[yae,yac (by rw[yab,yav];omega)];exact ya0 _
 ·rw[e1]at ha;obtain ⟨j,hj,rfl⟩:=mem_getD ha;rw[yab,yav]at hj;rw[← numAt_eq];exact h2 j (by omega)
end
theorem zdG {K:Frag}{a D:Addr}{xs:List V}{g:TG}{ts:TT}{te:TE}{σ:St}{H:Hp}{Q:Hp→Prop}(Pv:Nat→St→Hp→Prop)(h0:Pv 0 σ H)(hl:∀ i σ H,i≤xs.length→Pv i σ H→SqT K H a xs)
  (hs:∀ i m x σ H,xs[i]?=some x→i+m=xs.length→Pv i σ H→g x σ H fun σ2 H2=>ts σ2 H2 fun b H3=>if b=true then te σ2 H3 fun y H4=>∃ zs,H4 D=some (.lst zs)∧zs.length < sizeLine∧∃ m',m' < m∧(i+1+m'=xs.length∧Pv (i+1) σ2 (upd H4 D (.lst (zs++[y])))) else ∃ m',m' < m∧(i+1+m'=xs.length∧Pv (i+1) σ2 H3))
  (hd:∀ σ H,Pv xs.length σ H→Q H) :
  ∃ W:Nat→Nat→St→Hp→Prop,(∃ m,W 0 m σ H)∧∀ i m σ H,W i m σ H→((Itt K a).stop i H∧Q H)∨((Itt K a).go i H∧∀ x H',(Itt K a).yld i H x H'→g x σ H' fun σ2 H2=>ts σ2 H2 fun b H3=>if b=true then te σ2 H3 fun y H4=>∃ xs,H4 D=some (.lst xs)∧xs.length < sizeLine∧∃ m',m' < m∧W (i+1) m' σ2 (upd H4 D (.lst (xs++[y]))) else ∃ m',m' < m∧W (i+1) m' σ2 H3):=by
 refine ⟨fun i m σ H=>i+m=xs.length∧Pv i σ H,⟨xs.length,by omega,h0⟩,fun i m σ H zq0=>?_⟩;obtain ⟨e,pv⟩:=zq0;have hS:=hl i σ H (by omega) pv;by_cases hi:i < xs.length
 ·refine .inr ⟨⟨xs,xs[i],hS,yac hi⟩,fun x H' y=>?_⟩;obtain ⟨e1,y⟩:=y;subst e1;exact hs i m x σ _ (y xs hS) e pv
 ·have:i=xs.length:=by omega
  subst this;exact .inl ⟨⟨xs,hS,yaa _⟩,hd σ H pv⟩
end L2
namespace L2
open PySem PySem.Spec PyProof.Rows
def Itv (K:Frag)(a:Addr)(n:Nat):It:=
 ⟨fun i H=>i < n∧∃ xs,SqL K H a xs∧xs.length=n,fun i H x H'=>H'=H∧∀ xs,SqL K H a xs→xs.length=n→xs.reverse[i]?=some x,fun i _=>i=n⟩
theorem zmV {P:Program}{w:World}{K:Frag}{tg:Expr}(a it:Addr)(n:Nat):Turn P w K tg (Itv K a n) [it] it (fun i h=>h.IsRevIter it a ((n:Int) - 1 - (i:Int))) where
 mem:=by simp
 obj:=fun i h st b hb=>by
  have e:b=it:=by simpa using hb
  subst e;obtain ⟨o,e,c,d⟩:=st;exact ⟨o,e,fun v z=>by rw[d]at z;cases z⟩
 keep:=fun i h h' st k=>st.at fun o e=>k it (by simp) o e
 item:=by
  intro X hP hw hK hc i pins s σ H E I hf st hg;subst hP hw hK;obtain ⟨hi,xs,hq,hn⟩:=hg;obtain ⟨its,rv,p,hz⟩:=I.list hq;have hx:xs[n - 1 - i]?=some (xs[n - 1 - i]'(by omega)):=yac (by omega);obtain ⟨u,hu,ru⟩:=rv.get hx;obtain ⟨f0,f1,f2,f3,f4,f5⟩:=hf it (by simp);have e1:(n:Int) - 1 - (i:Int)=((n - 1 - i:Nat):Int):=by omega
  rw[e1]at st;refine wpAny_pyNext_rev_item st p.isList (x:=u) (by simpa using hu) fun h' st' sb=>?_;have e2:((n - 1 - i:Nat):Int) - 1=(n:Int) - 1 - ((i+1:Nat):Int):=by omega
  rw[e2]at st';have I1:Inv X pins σ H { s with heap:=h' }:=I.turned (t':=s.toks) (fun b o hb e=>(sb.2 b hb).trans e) f0 f1 f3 f4 f5;obtain ⟨o,e,c,d⟩:=id st';refine ⟨u,rfl,znQ (s:={ s with heap:=h' }) e c d (by decide) ⟨xs[n - 1 - i]'(by omega),H,I1,ru,⟨rfl,fun ys hy hyn=>?_⟩,st',fun b hb=>(hf b hb).1⟩⟩;rw[I.list_inj hy hq,ycz (by omega),show xs.length - 1 - i=n - 1 - i by omega];exact hx
 done:=by
  intro X hP hw hK hc i pins s σ H E I hf st hg;subst hP hw hK;have hi:i=n:=hg;subst hi;obtain ⟨f0,f1,f2,f3,f4,f5⟩:=hf it (by simp);have e1:(i:Int) - 1 - (i:Int) = -1:=by omega
  rw[e1]at st;exact wpAny_pyNext_rev_end (I.ok.hd hc) st fun h' eb=>⟨rfl,I.turned (t':=s.toks) (fun b o hb e=>eb b o hb e) f0 f1 f3 f4 f5⟩
 self:=fun _ _ _ _ _ st h=>wpAny_pyIter_revIter st h
def iRev (K:Frag)(ta:TA):TI:=fun σ H R=>ta σ H fun vs H1=>∃ a xs,vs=[.ref a]∧SqL K H1 a xs∧R (Itv K a xs.length) H1
section
variable {X:Cx}
theorem ziq {tg:Expr}{a:Expr}{ta:TA}{p pos:Pos}(hg:Gl X "reversed")(hm:X.mg "reversed" = none)(ha:PA X [a] ta)(hs:starEach [a] X.env=[(false,eval a X.env)]:=by rfl):PI X tg (.Call (.Name "reversed" p) [a] [] pos) (iRev X.K ta):=by
 intro pins s σ H R I h;refine Call_ (zeW I hg hm boot_reversed (PyProof.Rows.callWith_type1 (thn (ha pos pins s σ H _ I h) fun us s1 zq0=>?_) hs rfl));obtain ⟨vs,H1,I1,r1,q1⟩:=zq0;obtain ⟨l,xs,e,hq,q⟩:=q1;subst e;cases r1 with
 | cons r rr=>
  cases rr
  cases r
  obtain ⟨its,rv,pl,hz⟩:=I1.list hq;have hl:=rv.length;refine call_reversed_list pl.isList ?_;have I2:Inv X pins σ H1 { s1 with heap:=s1.heap.push (revObj l ((its.toArray.size:Int) - 1)) }:=I1.kept (t':=s1.toks) fun b o e=>yah _ e;have hr:(s1.heap.push (revObj l ((its.toArray.size:Int) - 1))).IsRevIter s1.heap.objs.size l (((xs.length:Nat):Int) - 1 - ((0:Nat):Int)):=by
   refine ⟨_,yaB _ rfl,rfl,?_⟩;have:(its.toArray.size:Int) - 1=((xs.length:Nat):Int) - 1 - ((0:Nat):Int):=by
    rw[yar,hl];omega
   rw[this];rfl
  refine wpAny_pyIter_revIter (s:={ s1 with heap:=s1.heap.push (revObj l ((its.toArray.size:Int) - 1)) }) hr ⟨_,[s1.heap.objs.size],_,_,H1,rfl,I2,zmV l s1.heap.objs.size xs.length,hr,fun b hb=>?_,q⟩;have e:b=s1.heap.objs.size:=by simpa using hb
  subst e;exact I1.fpOk (yaa _) (I1.hok.fresh (yaa _))
end
theorem zpJ {K:Frag}{a:Addr}{xs:List V}{g:TG}{tb:TS}{D:Ends}{σ:St}{H:Hp}(Pv:Nat→St→Hp→Prop)(h0:Pv 0 σ H)(hl:∀ i σ H,i≤xs.length→Pv i σ H→SqL K H a xs)
  (hs:∀ i x σ H,xs.reverse[i]?=some x→Pv i σ H→g x σ H fun σ2 H2=>tb { D with nx:=Pv (i+1),ct:=Pv (i+1),bk:=D.nx } σ2 H2) (hd:∀ σ H,Pv xs.length σ H→D.nx σ H) :
  ∃ W:Nat→Nat→St→Hp→Prop,(∃ m,W 0 m σ H)∧∀ i m σ H,W i m σ H→((Itv K a xs.length).stop i H∧D.nx σ H)∨((Itv K a xs.length).go i H∧∃ N:St→Hp→Prop,(∀ σ' H',N σ' H'→∃ m',m' < m∧W (i+1) m' σ' H')∧∀ x H',(Itv K a xs.length).yld i H x H'→g x σ H' fun σ2 H2=>tb { D with nx:=N,ct:=N,bk:=D.nx } σ2 H2):=by
 refine ⟨fun i m σ H=>i+m=xs.length∧Pv i σ H,⟨xs.length,by omega,h0⟩,fun i m σ H zq0=>?_⟩;obtain ⟨e,pv⟩:=zq0;have hS:=hl i σ H (by omega) pv;by_cases hi:i < xs.length
 ·refine .inr ⟨⟨hi,xs,hS,rfl⟩,Pv (i+1),fun σ' H' q=>⟨m - 1,by omega,by omega,q⟩,fun x H' y=>?_⟩;obtain ⟨e1,y⟩:=y;subst e1;exact hs i x σ _ (y xs hS rfl) pv
 ·have:i=xs.length:=by omega
  subst this;exact .inl ⟨rfl,hd σ H pv⟩
end L2
namespace L2
open PySem PySem.Spec PyProof.Rows
def iSeq (K:Frag)(tl:TE):TI:=fun σ H R=>tl σ H fun x H1=>∃ a,x=.ref a∧((∃ xs,SqL K H1 a xs)∧R (Itl K a) H1∨(∃ xs,SqT K H1 a xs)∧R (Itt K a) H1)
section
variable {X:Cx}{tg:Expr}
theorem zlo {l:Expr}{tl:TE}(hl:PE X l tl):PI X tg l (iSeq X.K tl):=by
 intro pins s σ H R I h;refine thn (hl pins s σ H _ I h) fun v s1 zq0=>?_;obtain ⟨x,H1,I1,r1,a,e,q1⟩:=zq0;subst e;cases r1
 have new:∀ b∈[s1.heap.objs.size],FpOk X pins H1 b:=fun b hb=>by
  rw[yag.mp hb];exact I1.fpOk (yaa _) (I1.hok.fresh (yaa _))
 rcases q1 with ⟨⟨xs,hq⟩,q⟩ | ⟨⟨xs,hq⟩,q⟩
 ·obtain ⟨its,rv,p,hz⟩:=I1.list hq;exact wpAny_pyIter_list p.isList ⟨s1.heap.objs.size,[s1.heap.objs.size],_,_,H1,rfl,Inv.kept (t':=s1.toks) I1 (fun b o e=>yah _ e),zht a _,⟨_,yaB _ rfl,rfl,rfl⟩,new,q⟩
 ·obtain ⟨its,rv,p,hz⟩:=I1.tuple hq;exact wpAny_pyIter_tuple (show s1.heap.IsTuple a its.toArray from p) ⟨s1.heap.objs.size,[s1.heap.objs.size],_,_,H1,rfl,Inv.kept (t':=s1.toks) I1 (fun b o e=>yah _ e),zgd a _,⟨_,yaB _ rfl,rfl,rfl⟩,new,q⟩
end
section
variable {prog:Program}{w:World}{A:Around}{E:Value→Shared→Prop}{s:Shared}
theorem ziR {l:Addr}{vs:List Value}{Q:List Value→Shared→Prop}(hl:s.heap.IsTuple l vs.toArray)
  (h:Q vs { s with heap:=(s.heap.push (seqObj "list" #[] 0)).update s.heap.objs.size (Obj.mapSeq (· ++ vs.toArray)) }) (hsz:vs.length≤sizeLine):wpAny (model prog w) A (collect (.ref l)) Q E s:=by
 obtain ⟨o,ho,hc,n,hd⟩:=id hl;unfold collect;refine wpAny_bind (wpAny_runValue (codeAny_builtin entry_proto_collect' ?_));show wpAny _ _ (do again (.builtin "list.__iadd__" ⟨[← newList [],.ref l],[]⟩)) _ _ s
 refine wpAny_bind (wpAny_newList (wpAny_pure ⟨Code.quiet_builtin _ (by decide +kernel),codeAny_builtin entry_list_iadd' ?_⟩));show wpAny _ _ (Builtin.List.listExtendWith (.ref s.heap.objs.size) (.ref l) (.ref s.heap.objs.size)) _ _ { s with heap:=s.heap.push (seqObj "list" #[] 0) };unfold Builtin.List.listExtendWith;have there:(s.heap.push (seqObj "list" #[] 0)).get? l=some o:=yah _ ho;refine wpAny_bind (wpAny_typeOf (T := "tuple") ⟨o,there,hc⟩ ?_);have ht:(Value.type "tuple" == Value.type "tuple")=true:=rfl;rw[if_pos (by rw[ht,Bool.or_true])];refine wpAny_bind (listItems_at there hd ?_);refine wpAny_bind (listItems_at (xs:=#[]) (n:=0) (yaB _ rfl) rfl ?_);rw[if_neg (by simp)];have fits:(#[]++vs.toArray).size≤sizeLine+1:=by
  simp only[Array.size_append,yar,ybp];omega
 refine wpAny_bind (listUpdate_at (xs:=#[]) (n:=0) (yaB _ rfl) rfl ?_ (yaJ _) fits);refine wpAny_pure ?_;show wpAny (model prog w) A (load s.heap.objs.size >>= fun o=>match o.data with | .seq xs _=>pure xs.toList | _=>unsupported "internal:collect") Q E { s with heap:=(s.heap.push (seqObj "list" #[] 0)).update s.heap.objs.size (Obj.mapSeq (· ++ vs.toArray)) }
 refine wpAny_bind (wpAny_load (get?_update_seq (yaB _ rfl) _) ?_);show wpAny _ _ (pure ((#[]:Array Value)++vs.toArray).toList) Q E _;have e0:((#[]:Array Value)++vs.toArray).toList=vs:=by simp
 rw[e0];exact wpAny_pure h
end
end L2
namespace Tim
open PySem PyProof.Rows
section
variable {prog:Program}{w:World}{A:Around}{E:Value→Shared→Prop}{s:Shared}{κ:KeyKind}{kd:SortKind}
theorem zm0 {l:Addr}{vs:List Value}{Q:Value→Shared→Prop}(hl:s.heap.IsTuple l vs.toArray)(hz:vs.length≤sizeLine)(keys:∀ v∈vs,∃ k,κ.keyOf v=some k)
  (hlt:∀ h',(∀ b o,s.heap.get? b=some o→h'.get? b=some o)→LtG prog w A.in1.in1 { s with heap:=h' } κ kd)
  (hkd:∀(h':Heap) (E:Value→Shared→Prop) (Q:SortKind→Shared→Prop),(∀ b o,s.heap.get? b=some o→h'.get? b=some o)→2≤vs.length→Q kd { s with heap:=h' }→wpAny (model prog w) A.in1.in1 (keyKind' vs.toArray) Q E { s with heap:=h' })
  (h:∀(out:List Value) (h':Heap) (c:Nat),out.Perm vs→out.Pairwise (fun x y=>κ.kle (keyV κ x) (keyV κ y))→(∀ b o,s.heap.get? b=some o→h'.get? b=some o)→
   h'.get? (s.heap.objs.size+1)=some (seqObj "list" out.toArray c)→Q (.ref (s.heap.objs.size+1)) { s with heap:=h' }) :
  wpAny (model prog w) A (call (.builtin "sorted") [.ref l]) Q E s:=by
 refine Calls.call_function_entry kind_sorted plain_sorted entry_sorted (args_sorted1 _) ?_;unfold Builtin.«sorted»;refine wpAny_bind (m:=checkCount "sorted" 1 1 _) (wpAny_pure ?_);refine wpAny_bind (L2.ziR hl ?_ hz);refine wpAny_bind (wpAny_newList ?_ (by simpa using hz));have z1:((s.heap.push (seqObj "list" #[] 0)).update s.heap.objs.size (Obj.mapSeq (· ++ vs.toArray))).objs.size=s.heap.objs.size+1:=by
  rw[Heap.size_update,size_push']
 have hn:(((s.heap.push (seqObj "list" #[] 0)).update s.heap.objs.size (Obj.mapSeq (· ++ vs.toArray))).push (seqObj "list" vs.toArray 0)).get? (s.heap.objs.size+1)=some (seqObj "list" vs.toArray 0):=by
  rw[← z1];exact yaB _ rfl
 have hk:∀ b o,s.heap.get? b=some o→(((s.heap.push (seqObj "list" #[] 0)).update s.heap.objs.size (Obj.mapSeq (· ++ vs.toArray))).push (seqObj "list" vs.toArray 0)).get? b=some o:=fun b o e=>
  yah _ ((ybo _ _ (ybi (yaf e))).trans (yah _ e))
 show wpAny _ _ _ _ _ { s with heap:=((s.heap.push (seqObj "list" #[] 0)).update s.heap.objs.size (Obj.mapSeq (· ++ vs.toArray))).push (seqObj "list" vs.toArray 0) };rw[z1];generalize ((s.heap.push (seqObj "list" #[] 0)).update s.heap.objs.size (Obj.mapSeq (· ++ vs.toArray))).push (seqObj "list" vs.toArray 0)=h1 at hn hk ⊢;have up:∀ h',zeP (s.heap.objs.size+1) h1 h'→∀ b o,s.heap.get? b=some o→h'.get? b=some o:=fun h' kb b o e=>kb b o (fun z=>by
  have:=yaf e;rw[z]at this;exact absurd this (Nat.not_lt.mpr (ya9 _))) (hk b o e)
 refine wpAny_bind (wpAny_holding (wpAny_call_entry slot_list_sort ⟨_,hn,rfl⟩ entry_list_sort (zoq (s:={ s with heap:=h1 }) hn hz keys (fun h' kb=>hlt h' (up h' kb)) (fun h' E Q kb h2 q=>hkd h' E Q (up h' kb) h2 q) fun out p1 p2=>⟨_,rfl,?_⟩) (args_list_sort _)));obtain ⟨kb,c,hc⟩:=zfH (out:=out) hn;exact wpAny_pure ⟨_,rfl,h out _ c p1 p2 (up _ kb) hc⟩
end
end Tim
namespace L2
open PySem PySem.Spec PyProof.Rows
section
variable {X:Cx}
def zot (α:Type)[Rep α][Srt α](K:Frag):List V→Hp→VK→Prop:=fun xs H Q=>∃(p:Addr) (vs:List V) (as:List α),xs=[.ref p]∧SqT K H p vs∧zal K H as vs∧
 ∀ l ws,H l=none→zal K H (zc3 as) ws→Q (.ref l) (upd H l (.lst ws))
theorem zgy (α:Type)[Rep α][Srt α]:zbG X (.builtin "sorted") (zot α X.K):=by
 intro pins s σ H xs us Q I r h;obtain ⟨p,vs,as,rfl,hq,ha,q⟩:=h;obtain ⟨u,rfl,rx⟩:=zev r;cases rx
 obtain ⟨its,rv,pl,hz⟩:=I.tuple hq;have hlen:=rv.length;obtain ⟨km,kk⟩:=ziH I ha rv;refine Tim.zm0 (κ:=srtKind α X.K H) (kd:=Srt.kd α) (show s.heap.IsTuple p its.toArray from pl) (by omega) (fun v hv=>?_) (fun h' k E x y a b Q hx hy q=>?_) (fun h' E Q k h2 q=>Srt.kind (Inv.kept (t':=s.toks) I k) ha rv h2 q) fun out h' c p1 p2 k hc=>?_
 ·obtain ⟨a,_,_,_,e⟩:=kk v hv;exact ⟨a,e⟩
 ·obtain ⟨x1,r1,e1⟩:=zdE hx;obtain ⟨y1,r2,e2⟩:=zdE hy;exact Srt.lt (Inv.kept (t':=s.toks) I k) e1 e2 r1 r2 q
 ·obtain ⟨ws,bs,w1,w2,w3⟩:=zfE (α:=α) (K:=X.K) (H:=H) (out:=out) fun v hv=>kk v (p1.mem_iff.mp hv);have eb:bs=zc3 as:=by
   refine zdj ?_ ?_
   ·rw[w3,← km];exact p1.map _
   ·rw[w3];exact ybF.mpr p2
  rw[eb]at w2;have hw:ws.length≤sizeLine:=by
   have:=w1.length;have:=p1.length_eq;omega
  exact ⟨.ref (s.heap.objs.size+1),_,I.laid (a:=s.heap.objs.size+1) (o:=.lst ws) (t':=s.toks) k (ya9 _) ⟨hw,out,c,w1,hc⟩,rfl,q _ ws (I.hok.fresh (ya9 _)) w2⟩
end
section
variable {prog:Program}{w:World}{A:Around}{E:Value→Shared→Prop}{s:Shared}
theorem zik:isSubtype (.type "tuple") (.type "set")=pure false:=by rw[isSubtype_type];kernel_rfl
theorem zf7:isSubtype (.type "tuple") (.type "frozenset")=pure false:=by rw[isSubtype_type];kernel_rfl
abbrev zg8 (led:Bool):Obj:={ cls:=.type "set",dict:=none,data:=.set #[] 0 (.fresh 0 0 led) }
set_option maxRecDepth 100000 in
set_option maxHeartbeats 3200000 in
theorem zj1 {l:Addr}{items:Array Value}{ns:List Int}{Q:Value→Shared→Prop}(hh:A.handled=none)(hl:s.heap.IsTuple l items)(hi:IntsAre items.toList ns)(hb:items.size+1 < scanBound)
  (h:∀(h':Heap) (tk:Nat),h'.SetOf (intKind prog w) s.heap.objs.size (fun k'=>(firstMet (fun i=>ns.getD i 0) items.size).any (· == k')) (firstMet (fun i=>ns.getD i 0) items.size).length→
   (∀ b o,b < s.heap.objs.size→s.heap.get? b=some o→h'.get? b=some o)→Q (.ref s.heap.objs.size) { s with heap:=h',toks:=tk }) :
  wpAny (model prog w) A (call (.type "set") [.ref l]) Q E s:=by
 obtain ⟨c,tl,hmro⟩:=F.called_set.mro;have hmade:=F.called_set.made;have hsub:=F.called_set.sub;refine wpAny_call (codeAny_of_tree ?_);show wpAny _ _ (callAny (.type "set") _) _ _ _;refine wpAny_pure ⟨Code.quiet_builtin _ (by decide +kernel),codeAny_builtin F.entry_type_call ?_⟩;rw[Around.under_plain (weight_type_call_type "set" [.ref l] []) rfl];have h1:=F.called_set.notType;have h2:=F.called_set.canCreate;have hct:=F.typeCall_set_1 (.ref l)
 repeat (any_goals (first | assumption | wp_step))
 refine codeAny_mono (code_set_new_1 (.ref l) (E:=E) (Q₁:=fun obj s₁=>∃ led:Bool,obj=.ref s.heap.objs.size∧s₁={ s with heap:=s.heap.push (zg8 led) }) fun led=>⟨led,rfl,rfl⟩) fun r s₁ hr=>?_;cases r with
 | error e=>exact hr
 | ok fl=>
  cases fl with
  | ret obj=>
   obtain ⟨led,rfl,rfl⟩:=hr;have hS:(s.heap.push (zg8 led)).get? s.heap.objs.size=some (zg8 led):=yaB _ rfl;have hT:Shared.TypeIs { s with heap:=s.heap.push (zg8 led) } (.ref s.heap.objs.size) "set":=⟨_,hS,rfl⟩;have hli:=F.called_set.init.lookup;have hbi:=F.called_set.init.bind (.ref s.heap.objs.size)
   repeat (any_goals (first | assumption | wp_step))
   refine codeAny_mono (codeAny_call_builtin (R:=wants (fun r s₂=>r=.none∧∃ h' tk,s₂={ s with heap:=h',toks:=tk }∧
     h'.SetOf (intKind prog w) s.heap.objs.size (fun k'=>(firstMet (fun i=>ns.getD i 0) items.size).any (· == k')) (firstMet (fun i=>ns.getD i 0) items.size).length∧
     (∀ b o,b < s.heap.objs.size→s.heap.get? b=some o→h'.get? b=some o)) E) F.called_set.init.plain F.entry_set_init (check_set_init_1 hT ?_)) fun r₂ s₂ hr₂=>?_
   ·obtain ⟨ol,hol,hcl,nl,hdl⟩:=hl;obtain ⟨ocls,odict,odata,oslots⟩:=ol;simp only at hcl hdl;subst hcl;subst hdl;have there:(s.heap.push (zg8 led)).get? l=some { cls:=.type "tuple",dict:=odict,data:=.seq items nl,slots:=oslots }:=yah _ hol;have hsls:=zik;have hslf:=zf7;have hne:(Value.type "tuple" == Value.type "dict")=false:=by decide
    have hl1:(s.heap.push (zg8 led)).IsTuple l items:=⟨_,there,rfl,nl,rfl⟩;unfold Builtin.«set.__init__» noKeywords Builtin.Frozenset.updateFrom;generalize hPI:pyIter=PI
    wp_walk
    subst hPI;refine wpAny_pyIter_tuple hl1 ?_;refine wpAny_bind (wpAny_runValue ?_);have hlS:l < s.heap.objs.size:=yaf hol;have h3:A.in1.in1.in1.handled=none:=by simp[hh]
    have hsz:(s.heap.push (zg8 led)).objs.size=s.heap.objs.size+1:=yb1 ..;have hneI:l≠(s.heap.push (zg8 led)).objs.size:=by
     rw[hsz];exact yao (Nat.lt_succ_of_lt hlS)
    have hSf:s.heap.objs.size∉[(s.heap.push (zg8 led)).objs.size,l]:=by
     rw[hsz];simp only[yam,ybe,or_false,not_or];exact ⟨yao (yb2 _),ybi hlS⟩
    have hval:∀(i:Nat) (v:Value),items[i]?=some v→∃ t,v=.int ((fun i=>ns.getD i 0) i) t:=fun i v hv=>
     IntsAre.int_at hi i v (by rw[yaY];exact hv)
    refine codeAny_set_update_loopS ((Walks.tuple h3 _ l hneI items).toS) s.heap.objs.size
     hSf (fun i=>ns.getD i 0) hval hb (items.size - 0) 0 _ (by omega) (yaJ _)
     ⟨⟨_,yaB _ rfl,rfl,rfl⟩,(hl1.push _)⟩ ?hS0 ?hR
    case hS0=>
     exact SetOf_congr ((setObjOf_fresh (knd:=intKind prog w) led).setOf (yah _ hS) (by unfold scanBound;omega)) (fun _=>rfl) rfl
    case hR=>
     intro s' hm hS';obtain ⟨h',g',d',tk',os'⟩:=s';have eg:g'=s.gens:=hm.gens;have ed:d'=s.drawn:=hm.drawn;have eo:os'=s.os:=hm.os;subst eg;subst ed;subst eo;show wpAny _ _ _ _ _ _;refine wpAny_pure ?_;show wpAny _ _ (ret Value.none) _ _ _;refine wpAny_pure ⟨rfl,h',tk',rfl,hS',fun b o hb e=>?_⟩;refine hm.heap b o ?_ (yah _ (yah _ e));rw[hsz];simp only[yam,ybe,or_false,not_or];exact ⟨yao hb,yao (Nat.lt_succ_of_lt hb)⟩
   ·cases r₂ with
    | error e=>exact hr₂
    | ok fl₂=>
     cases fl₂ with
     | ret r=>
      obtain ⟨rfl,h',tk,rfl,hS',hk'⟩:=hr₂
      repeat (any_goals (first | assumption | wp_step))
      exact h _ _ hS' hk'
     | _=>exact hr₂.elim
  | _=>exact hr.elim
end
section
variable {X:Cx}
def zqr (K:Frag):List V→Hp→VK→Prop:=fun xs H Q=>∃(p:Addr) (ns:List Int),xs=[.ref p]∧SqT K H p (ns.map V.int)∧ns.length≤1000∧
 ∀ l,H l=none→Q (.ref l) (upd H l (.set (fun k=>(metI ns).any (· == k)) (metI ns).length))
theorem zmC (hc:X.calm=true):zbG X (.type "set") (zqr X.K):=by
 intro pins s σ H xs us Q I r h;obtain ⟨p,ns,rfl,hq,hz,q⟩:=h;obtain ⟨u,rfl,rx⟩:=zev r;cases rx
 obtain ⟨its,rv,pl,_⟩:=I.tuple hq;have hl:=rv.length;rw[yab]at hl;refine zj1 (ns:=ns) (I.ok.hd hc) (show s.heap.IsTuple p its.toArray from pl) (by simpa using zbQ rv) (by unfold scanBound;simp only[yar];omega) fun h' tk hS hk=>?_;have e:its.toArray.size=ns.length:=by simp only[yar];omega
 rw[e]at hS;exact ⟨.ref s.heap.objs.size,_,I.laid (a:=s.heap.objs.size) (o:=.set _ _) (t':=tk) (fun b o eb=>hk b o (yaf eb) eb) (yaa _) hS,rfl,q _ (I.hok.fresh (yaa _))⟩
theorem zeL:zbG X (.builtin "isinstance") (fun xs H Q=>∃ a p,xs=[.ref a,.ref p]∧H p=some (.tup [.ty "list",.ty "tuple"])∧((∃ ys,H a=some (.lst ys))∨∃ ys,H a=some (.tup ys))∧Q (.bl true) H):=by
 intro pins s σ H xs us Q I r h;obtain ⟨a,p,rfl,hp,ha,q⟩:=h;obtain ⟨u,w',rfl,r1,r2⟩:=zf5 r;cases r1
 cases r2
 obtain ⟨_,its,rv,⟨oc,od,odt,osl⟩,h1,h2,n,h3⟩:=(show za9 X.prog X.w H s.heap p (.tup [.ty "list",.ty "tuple"]) from I.hok p _ hp);have h2:oc=.type "tuple":=h2;have h3:odt=.seq its.toArray n:=h3;subst h2 h3;obtain ⟨c1,c2,rfl,e1,e2⟩:=zf5 rv;have e1:c1=.type "list":=e1;have e2:c2=.type "tuple":=e2;subst e1 e2;have fin:∀ tk,(fun v s'=>∃ x H',Inv X pins σ H' s'∧RelV x v∧Q x H') (Value.bool true) { s with toks:=tk }:=fun tk=>⟨.bl true,H,I.tok tk,rfl,q⟩;rcases ha with ⟨ys,ha⟩ | ⟨ys,ha⟩
 ·obtain ⟨_,_,n,_,g1⟩:=(show za9 X.prog X.w H s.heap a (.lst ys) from I.hok a _ ha);exact PySem.W.kia_tup PySem.W.kitx_list I.kIn ⟨_,g1,rfl⟩ h1 (b:=true) (by rfl) (fun z=>nomatch z) fin
 ·obtain ⟨_,_,_,o,g1,g2,_⟩:=(show za9 X.prog X.w H s.heap a (.tup ys) from I.hok a _ ha);exact PySem.W.kia_tup PySem.W.kitx_tuple I.kIn ⟨o,g1,g2⟩ h1 (b:=true) (by rfl) (fun z=>nomatch z) fin
end
end L2
namespace HT
open PySem PySem.Spec PyProof.Rows
section
variable {prog:Program}{w:World}{A:Around}{E:Value→Shared→Prop}{s:Shared}
theorem getItem_tuple_all {t sl:Addr}{items:Array Value}{vl vu:Value}{lo hi:Option Int}{Q:Value→Shared→Prop}(ht:IsTup s.heap t items)(hs:s.heap.IsSliceOf sl vl vu .none)(pl:IsPart vl lo)(pu:IsPart vu hi)
  (hw:sIx items.size 0 lo=0∧sIx items.size items.size hi=items.size) (h:Q (.ref t) s):wpAny (model prog w) A (getItem (.ref t) (.ref sl)) Q E s:=by
 obtain ⟨os,hos,hcs,hds⟩:=id hs;have hTs:s.TypeIs (.ref sl) "slice":=⟨os,hos,hcs⟩;unfold getItem
 try with_reducible refine wpAny_holding ?_
 first | refine wpAny_bind (wpAny_pure ?_) | skip
 refine wpAny_bind (wpAny_sequenceKey ht.typeIs (by decide) ?_);refine wpAny_bind (wpAny_callSpecial?_slot (name:=Str.ofString "__getitem__") ht.typeIs PyProof.Rows.slot_tuple_getitem (wpAny_call_entry PyProof.Rows.slot_tuple_getitem ht.typeIs entry_tuple_getitem ?_ (args_tuple_getitem _ _)));show wpAny _ _ (Builtin.Tuple.tupleItemsOf (.ref t) >>= _) _ _ s;refine wpAny_bind (tupleItemsOf_ ht ?_);refine wpAny_bind (wpAny_typeOf hTs ?_);rw[if_pos (by decide)];refine wpAny_bind (zc0 hs pl pu ?_);have yes:(((sIx items.size 0 lo:Nat):Int) == 0 && (1:Int) == 1 && (sIx items.size items.size hi - sIx items.size 0 lo) == items.size)=true:=by
  rw[hw.1,hw.2];simp
 show wpAny _ _ (if (((sIx items.size 0 lo:Nat):Int) == 0 && (1:Int) == 1 && (sIx items.size items.size hi - sIx items.size 0 lo) == items.size)=true then _ else _) _ _ s
 rw[if_pos yes];refine wpAny_bind ?_;unfold Builtin.Tuple.tupleIsExact;refine wpAny_bind (wpAny_typeOf ht.typeIs ?_);refine wpAny_pure ?_;rw[if_pos (by decide)];exact wpAny_bind (wpAny_rule (wpAny_pure ⟨_,rfl,wpAny_pure h⟩))
end
end HT
namespace L2
open PySem PySem.Spec PyProof.Rows
section
variable {X:Cx}
def rSlX (K:Frag):V→Option Int→Option Int→Hp→VK→Prop:=fun x lo hi H Q=>∃ a xs,x=.ref a∧SqT K H a xs∧
 ((HT.sIx xs.length 0 lo=0∧HT.sIx xs.length xs.length hi=xs.length)→Q (.ref a) H)∧(¬ (HT.sIx xs.length 0 lo=0∧HT.sIx xs.length xs.length hi=xs.length)→∀ p,H p=none→Q (.ref p) (upd H p (.tup (cutV xs lo hi))))
theorem zc5:SlR X (rSlX X.K):=by
 intro pins s σ H x v vl vu lo hi sl Q I rx hs pl pu h;obtain ⟨a,xs,e,hx,q1,q2⟩:=h;by_cases hw:HT.sIx xs.length 0 lo=0∧HT.sIx xs.length xs.length hi=xs.length
 ·subst e;cases rx
  obtain ⟨its,r,ht,hz⟩:=I.tuple hx;have hlen:its.toArray.size=xs.length:=by rw[yar];exact r.length.symm
  refine ⟨"tuple",_,PyProof.Rows.slot_tuple_getitem.lookup,ht.typeIs,?_⟩;exact HT.getItem_tuple_all ht hs pl pu (by rw[hlen];exact hw) ⟨.ref a,H,I,rfl,q1 hw⟩
 ·exact zqo pins s σ H x v vl vu lo hi sl Q I rx hs pl pu ⟨a,xs,e,hx,hw,q2 hw⟩
def zqt (K:Frag):R2:=fun x y H Q=>∃ a b xs ys,x=.ref a∧y=.ref b∧SqT K H a xs∧SqT K H b ys∧ys≠[]∧xs.length+ys.length≤sizeLine∧
 (xs=[]→Q (.ref b) H)∧(xs≠[]→∀ p,H p=none→Q (.ref p) (upd H p (.tup (xs++ys))))
theorem zg5:OpR X (binaryOp .Add) (zqt X.K):=by
 intro pins s σ H x y v u Q I rx ry h;obtain ⟨a,b,xs,ys,e1,e2,ha,hb,hy,hz,q1,q2⟩:=h;by_cases hx:xs=[]
 ·subst e1 e2;cases rx
  cases ry
  obtain ⟨its,r1,p1,_⟩:=I.tuple ha;obtain ⟨its2,r2,p2,_⟩:=I.tuple hb;obtain ⟨⟨cls,dd,data,sl⟩,ho,hc,n,hd⟩:=id p1;obtain ⟨⟨cls2,dd2,data2,sl2⟩,ho2,hc2,n2,hd2⟩:=id p2;simp only at hc hd hc2 hd2;subst hc hd hc2 hd2;have hv:its=[]:=r1.nil_iff.mpr hx;exact concat_meets ⟨_,ho,rfl⟩ ⟨_,ho2,rfl⟩ noFill_tuple_add seq_tuple_add PySem.F.slot_tuple_add PySem.F.entry_tuple_add (PySem.F.args_tuple_add_2 _ _)
   (tuple_addW0 a b its.toArray its2.toArray n n2 dd dd2 sl sl2 (by simp[hv])) ⟨ho,ho2,.ref b,H,I,rfl,q1 hx⟩
 ·exact zfz pins s σ H x y v u Q I rx ry ⟨a,b,xs,ys,e1,e2,ha,hb,hx,hz,fun z=>absurd z hy,fun _=>q2 hx⟩
end
end L2
namespace L2
open PySem PySem.Spec PyProof.Rows PySem.SeqAt
def hasO (o:Option Int)(v:V):Prop:=match o with
 | none=>v=.non
 | some i=>v=.int i
instance:Rep (Option Int) where
 dec:=inferInstance
 depth:=0
 has:=fun _ _ o v=>hasO o v
 mono:=fun _ h=>h
 inj:=fun {_ _ _ _ _ a b v} _ h1 h2=>by
  cases a <;> cases b
  ·rfl
  ·have h1:v=.non:=h1;have h2:v=.int _:=h2;rw[h1]at h2;cases h2
  ·have h1:v=.int _:=h1;have h2:v=.non:=h2;rw[h1]at h2;cases h2
  ·have h1:v=.int _:=h1;have h2:v=.int _:=h2;rw[V.int.inj (h1.symm.trans h2)]
 rc:=fun {_ _ _ _ _ _ a b x y u v} _ _ h1 h2 r1 r2=>by
  cases a with
  | none=>
   have h1:x=.non:=h1;subst h1;obtain rfl:u=.none:=r1;cases b with
   | none=>
    have h2:y=.non:=h2;subst h2;obtain rfl:v=.none:=r2;exact RcAt.none_none
   | some j=>
    have h2:y=.int j:=h2;subst h2;obtain ⟨t,rfl⟩:=r2;exact RcAt.none_int _ _
  | some i=>
   have h1:x=.int i:=h1;subst h1;obtain ⟨t,rfl⟩:=r1;cases b with
   | none=>
    have h2:y=.non:=h2;subst h2;obtain rfl:v=.none:=r2;exact RcAt.int_none _ _
   | some j=>
    have h2:y=.int j:=h2;subst h2;obtain ⟨t',rfl⟩:=r2;have e:decide (some i=some j)=(i == j):=by
     by_cases z:i=j
     ·subst z;simp
     ·rw[yai (fun q=>z (yad q)),beq_eq_false_iff_ne.mpr z]
    have:=RcAt.int_int (A:=‹Around›) (s:=‹Shared›) i t j t';rw[← e]at this;exact this
 rn:=fun {_ _ _ _ _ _ a b x y u v} _ _ h1 h2 r1 r2=>by
  cases a with
  | none=>
   have h1:x=.non:=h1;subst h1;obtain rfl:u=.none:=r1;cases b with
   | none=>
    have h2:y=.non:=h2;subst h2;obtain rfl:v=.none:=r2;exact RcNeAt.none_none
   | some j=>
    have h2:y=.int j:=h2;subst h2;obtain ⟨t,rfl⟩:=r2;exact RcNeAt.none_int _ _
  | some i=>
   have h1:x=.int i:=h1;subst h1;obtain ⟨t,rfl⟩:=r1;cases b with
   | none=>
    have h2:y=.non:=h2;subst h2;obtain rfl:v=.none:=r2;exact RcNeAt.int_none _ _
   | some j=>
    have h2:y=.int j:=h2;subst h2;obtain ⟨t',rfl⟩:=r2;have e:decide (some i=some j)=(i == j):=by
     by_cases z:i=j
     ·subst z;simp
     ·rw[yai (fun q=>z (yad q)),beq_eq_false_iff_ne.mpr z]
    have:=RcNeAt.int_int (A:=‹Around›) (s:=‹Shared›) i t j t';rw[← e]at this;exact this
 eq:=fun {_ _ _ _ _ _ a b x y u v} _ _ h1 h2 r1 r2=>by
  cases a with
  | none=>
   have h1:x=.non:=h1;subst h1;obtain rfl:u=.none:=r1;cases b with
   | none=>
    have h2:y=.non:=h2;subst h2;obtain rfl:v=.none:=r2;exact EqAt.same _
   | some j=>
    have h2:y=.int j:=h2;subst h2;obtain ⟨t,rfl⟩:=r2;exact EqAt.none_int _ _
  | some i=>
   have h1:x=.int i:=h1;subst h1;obtain ⟨t,rfl⟩:=r1;cases b with
   | none=>
    have h2:y=.non:=h2;subst h2;obtain rfl:v=.none:=r2;exact EqAt.int_none _ _
   | some j=>
    have h2:y=.int j:=h2;subst h2;obtain ⟨t',rfl⟩:=r2;have e:decide (some i=some j)=(i == j):=by
     by_cases z:i=j
     ·subst z;simp
     ·rw[yai (fun q=>z (yad q)),beq_eq_false_iff_ne.mpr z]
    have:=EqAt.int_int (A:=‹Around›) (s:=‹Shared›) i t j t';rw[← e]at this;exact this
structure Tup (α:Type) where
 l:List α
theorem Tup.ext' {α:Type}{a b:Tup α}(h:a.l=b.l):a=b:=by
 cases a
 cases b
 cases h
 rfl
instance {α:Type} [DecidableEq α]:DecidableEq (Tup α):=fun a b=>if h:a.l=b.l then .isTrue (Tup.ext' h) else .isFalse fun z=>h (by rw[z])
def hasT {α:Type}[Rep α](K:Frag)(H:Hp)(t:Tup α)(v:V):Prop:=∃ a xs,v=.ref a∧SqT K H a xs∧zal K H t.l xs
section
variable {α:Type}[r:Rep α]{X:Cx}{pins:List (Addr×Obj)}{σ:St}{H:Hp}{s:Shared}{A:Around}{as bs:Tup α}{x y:V}{u v:Value}
theorem zjK (I:Inv X pins σ H s)(h1:hasT X.K H as x)(h2:hasT X.K H bs x):as=bs:=by
 obtain ⟨a,xs,rfl,q1,h1⟩:=h1;obtain ⟨b,ys,e,q2,h2⟩:=h2;cases e
 rw[I.tuple_inj q2 q1]at h2;exact Tup.ext' (h1.inj I h2)
theorem zkS {as bs:List α}(n m:Nat)(hn:as.length=n)(hm:bs.length=m):((List.range (min n m)).all (fun j=>decide (as[j]?=bs[j]?)) && n == m)=decide (as=bs):=by
 by_cases hl:as.length=bs.length
 ·have e:=zeO as bs hl;have z:min n m=as.length:=by omega
  rw[z,e,beq_iff_eq.mpr (by omega:n=m),Bool.and_true]
 ·rw[yai (fun z=>hl (by rw[z])),beq_eq_false_iff_ne.mpr (by omega:n≠m),yb5]
theorem zmr:decide (as=bs)=decide (as.l=bs.l):=by
 by_cases h:as.l=bs.l
 ·rw[yal h,yal (Tup.ext' h)]
 ·rw[yai h,yai (fun z=>h (by rw[z]))]
theorem zmc (I:Inv X pins σ H s)(hu:A.units+(Rep.depth α+1) < cLine)(h1:hasT X.K H as x)(h2:hasT X.K H bs y)(r1:RelV x u)(r2:RelV y v):RcAt A s u v (decide (as=bs)):=by
 obtain ⟨a,xs,rfl,q1,h1⟩:=h1;obtain ⟨b,ys,rfl,q2,h2⟩:=h2;cases r1
 cases r2
 obtain ⟨us,ru,pu,_⟩:=I.tuple q1;obtain ⟨vs,rv,pv,_⟩:=I.tuple q2;have l1:=ru.length;have l2:=rv.length;have m1:=h1.length;have m2:=h2.length;have hin:A.in1.units+Rep.depth α < cLine:=ya2 (ybt zcl _) (by omega);have:=RcAt.tuples (A:=A) (s:=s) (l:=a) (b:=b) (items:=us.toArray) (items2:=vs.toArray) (e:=fun j=>decide (as.l[j]?=bs.l[j]?)) pu pv (by omega) (zfl I hin h1 h2 ru rv);rw[zkS (as:=as.l) (bs:=bs.l) us.toArray.size vs.toArray.size (by simp;omega) (by simp;omega),← zmr]at this;exact this
theorem zpC (I:Inv X pins σ H s)(hu:A.units+(Rep.depth α+1) < cLine)(h1:hasT X.K H as x)(h2:hasT X.K H bs y)(r1:RelV x u)(r2:RelV y v):RcNeAt A s u v (!decide (as=bs)):=by
 obtain ⟨a,xs,rfl,q1,h1⟩:=h1;obtain ⟨b,ys,rfl,q2,h2⟩:=h2;cases r1
 cases r2
 obtain ⟨us,ru,pu,_⟩:=I.tuple q1;obtain ⟨vs,rv,pv,_⟩:=I.tuple q2;have l1:=ru.length;have l2:=rv.length;have m1:=h1.length;have m2:=h2.length;have hin:A.in1.units+Rep.depth α < cLine:=ya2 (ybt zcl _) (by omega);have:=RcNeAt.tuples (A:=A) (s:=s) (l:=a) (b:=b) (items:=us.toArray) (items2:=vs.toArray) (e:=fun j=>decide (as.l[j]?=bs.l[j]?)) pu pv (by omega) (zfl I hin h1 h2 ru rv);rw[zkS (as:=as.l) (bs:=bs.l) us.toArray.size vs.toArray.size (by simp;omega) (by simp;omega),← zmr]at this;exact this
theorem zpD (I:Inv X pins σ H s)(hu:A.units+(Rep.depth α+1) < cLine)(h1:hasT X.K H as x)(h2:hasT X.K H bs y)(r1:RelV x u)(r2:RelV y v):EqAt A s u v (decide (as=bs)):=by
 have rc:=zmc (A:=A) I hu h1 h2 r1 r2;have h1':=id h1;have h2':=id h2;obtain ⟨a,xs,rfl,q1,h1⟩:=h1;obtain ⟨b,ys,rfl,q2,h2⟩:=h2;cases r1
 cases r2
 by_cases hab:a=b
 ·subst hab;rw[yal (zjK I h1' h2')];exact EqAt.same _
 ·exact EqAt.of_refs hab rc
end
instance {α:Type} [Rep α]:Rep (Tup α) where
 dec:=inferInstance
 depth:=Rep.depth α+1
 has:=hasT
 mono:=fun e ⟨a,xs,h1,h2,h3⟩=>⟨a,xs,h1,h2.ext e,h3.mono e⟩
 inj:=fun I h1 h2=>zjK I h1 h2
 rc:=fun I hu h1 h2 r1 r2=>zmc I hu h1 h2 r1 r2
 rn:=fun I hu h1 h2 r1 r2=>zpC I hu h1 h2 r1 r2
 eq:=fun I hu h1 h2 r1 r2=>zpD I hu h1 h2 r1 r2
end L2
namespace L2
open PySem PySem.Spec PyProof.Rows
section
variable {X:Cx}
theorem zmD (hc:X.calm=true):zbG X (.type "set") (fun xs H Q=>zqs X.K xs H Q∨zqr X.K xs H Q):=zbG.or (zmE hc) (zmC hc)
theorem zky (α:Type)[Rep α][Srt α]:zbG X (.builtin "sorted") (fun xs H Q=>zou α X.K xs H Q∨zot α X.K xs H Q):=zbG.or (zgz α) (zgy α)
end
end L2
namespace L2
open PySem PySem.Spec PyProof.Rows
section
variable {X:Cx}{K:Frag}
theorem zgc (h:X.K=K:=by rfl):zbG X (.type "tuple") (fun xs H Q=>∃ p ys,xs=[V.ref p]∧((SqL K H p ys∧∀ l,H l=none→Q (.ref l) (upd H l (.tup ys)))∨(SqT K H p ys∧Q (.ref p) H))):=by
 subst h;exact zaV
end
end L2
namespace L2
open PySem PySem.Spec PyProof.Rows PySem.SeqAt
theorem RelV.uniq {x y:V}{u:Value}(h:RelV x u)(g:RelV y u):x=y:=by
 cases x <;> cases y <;> (unfold RelV at h g) <;> (first | (obtain ⟨_,rfl⟩:=h) | subst h) <;> (first | (obtain ⟨_,g⟩:=g;cases g <;> rfl) | (cases g <;> rfl) | rfl)
section
variable {X:Cx}{α:Type}[Rep α]
theorem zqS {pins:List (Addr×Obj)}{σ:St}{H:Hp}{s:Shared}{A:Around}(I:Inv X pins σ H s)(hu:A.units+Rep.depth α < cLine){a:α}{x0:V}{v:Value}(ha:Rep.has X.K H a x0)(rv:RelV x0 v){e:Value→Bool}(he:∀ u,e u=true↔∃ y,RelV y u∧Rep.has X.K H a y):∀{as:List α} {xs:List V} {us:List Value},zal X.K H as xs→Vals xs us→∀ u∈us,EqAt A s u v (e u)
 | _,_,_,.nil,.nil=>fun u hu=>by cases hu
 | b::as,x::xs,u::us,.cons h t,.cons r t2=>fun u' hm=>by
  rcases yam.mp hm with z | z
  ·subst z;have q:=Rep.eq (A:=A) I hu h ha r rv;have e2:e u'=(Rep.dec b a).decide:=by
    by_cases c:b=a
    ·have e3:(Rep.dec b a).decide=true:=yal c;rw[e3];exact (he u').mpr ⟨x,r,c ▸ h⟩
    ·have e3:(Rep.dec b a).decide=false:=yai c;rw[e3];cases k:e u' with
     | false=>rfl
     | true=>
      obtain ⟨y,r2,h2⟩:=(he u').mp k;rw[RelV.uniq r2 r]at h2;exact absurd (Rep.inj I h h2) c
   rw[e2];exact q
  ·exact zqS I hu ha rv he t t2 u' z
end
end L2
namespace L2
open PySem PySem.Spec PyProof.Rows
section
variable {X:Cx}{α:Type}[Rep α]
def zo3 (α:Type)[Rep α](K:Frag):V→List V→Hp→VK→Prop:=fun x vs H Q=>∃(l:Addr) (xs:List V) (as:List α) (a:α) (y:V) (k:Nat),x=.ref l∧vs=[y]∧H l=some (.lst xs)∧zal K H as xs∧Rep.has K H a y∧as.length≤1000∧as[k]?=some a∧(∀ j,j < k→as[j]?≠some a)∧Q (.int (k:Nat)) H
theorem zlK (α:Type)[Rep α](hu:X.A.units+Rep.depth (List α) < cLine):MtM X "list.index" (zo3 α X.K):=by
 intro pins s σ H x vs v us Q I rx rv h;obtain ⟨l,xs,as,a,y,k,rfl,rfl,hH,hs,ha,hz,hk,hlt,q⟩:=h;cases rx
 obtain ⟨u,rfl,ru⟩:=rv.one;have hin:X.A.in1.units+Rep.depth α < cLine:=ya2 (ybt zcl _) (by have e:Rep.depth (List α)=Rep.depth α+1:=rfl;omega);have he:∀ u,(@decide (∃ y,RelV y u∧Rep.has X.K H a y) (Classical.propDecidable _))=true↔∃ y,RelV y u∧Rep.has X.K H a y:=fun u=>by
  exact @decide_eq_true_iff _ (Classical.propDecidable _)
 obtain ⟨z,its,n,r,hl,e⟩:=I.lstM hH;have l1:=r.length;have l2:=hs.length;obtain ⟨hk1,hk2⟩:=yak.mp hk;have at_:∀ j (hj:j < its.length),∃(b:α) (x:V),as[j]?=some b∧RelV x its[j]∧Rep.has X.K H b x:=fun j hj=>by
  obtain ⟨b,e1,h1⟩:=hs.get (i:=j) (yac (by omega));obtain ⟨w,e2,h2⟩:=r.get (i:=j) (yac (by omega));have:its[j]?=some its[j]:=yac hj;rw[e2]at this;exact ⟨b,_,e1,(yad this) ▸ h2,h1⟩
 refine call_meets F.slot_list_index ⟨_,e,rfl⟩ F.entry_list_index (F.args_list_index_2 _ _)
  (PySem.SeqAt.list_indexAt l its.toArray n none #[] u (fun u=>@decide (∃ y,RelV y u∧Rep.has X.K H a y) (Classical.propDecidable _)) k (by simp;omega) (by omega) ?_ ?_) ⟨e,fun y hy=>zqS I hin ha ru he hs r y (by simpa using hy),⟨.int _,H,I.tok _,⟨_,rfl⟩,q⟩⟩
 ·have hj:k < its.length:=by omega
  obtain ⟨b,x,e1,e2,e3⟩:=at_ k hj;rw[hk]at e1;cases e1
  exact (he _).mpr ⟨x,by simpa using e2,e3⟩
 ·intro j hjs hj;have hj':j < its.length:=by simpa using hjs
  obtain ⟨b,x,e1,e2,e3⟩:=at_ j hj';have ne:=hlt j hj;refine ybS.mpr fun c=>?_;obtain ⟨y,r2,h2⟩:=(he _).mp c;have e2':RelV x its.toArray[j]:=by simpa using e2
  rw[RelV.uniq r2 e2']at h2;exact ne (by rw[e1,Rep.inj I e3 h2])
end
end L2
namespace L2
open PySem PySem.Spec PyProof.Rows
structure zho (scope:Scope)(ps caps:List Str):Prop where
 kind:scope.kind=.function
 co:scope.isCoroutine=false
 gen:scope.isGenerator=false
 nocell:∀ x∈scope.names,x.2≠.cell
 par:∀ x∈ps,scope.names.lookup x=some .local
 cap:∀ x∈caps,scope.names.lookup x=some .free
 nd:(ps++caps).Nodup
def znY (P:Program)(w:World)(K:Frag)(mg:Str→Option Value)(base:Heap)(N:List Str)(qual:Str)(scope:Scope)(f:Addr)(cd:Value)(cl:List (Str×Addr))(A:Around)(outer:List Env)(s:Shared)(H:Hp):Cx where
 prog:=P
 w:=w
 K:=K
 mg:=mg
 base:=base
 A:=A.deeper (PySem.W.envX qual scope s.heap.objs.size f cd cl)
 N:=N
 s₀:=s
 H₀:=H
 env:=PySem.W.envX qual scope s.heap.objs.size f cd cl
 outer:=outer
 stack:=PySem.W.envX qual scope s.heap.objs.size f cd cl::outer
 ex:=[]
 calm:=true
 fn:=fun _=>false
 pn:=[]
 xe:=fun _ _=>False
def zmA (c:Addr)(q:Str):Heap→Prop:=fun h=>h.CodeRec (.ref c) q
def ze0 (H:Hp)(c:Addr)(q:Str):Prop:=H c=some (.ext (zmA c q))
theorem zkx {c:Addr}{q:Str}(h1 h2:Heap)(x:zmA c q h1)(k:∀ o,h1.get? c=some o→h2.get? c=some o):zmA c q h2:=by
 obtain ⟨c',o,vs,t,e,ho,r⟩:=x;cases e
 exact ⟨c,o,vs,t,rfl,k o ho,r⟩
theorem ze0.rec {P:Program}{w:World}{H:Hp}{h:Heap}{c:Addr}{q:Str}(x:ze0 H c q)(ok:HOk P w H h):h.CodeRec (.ref c) q:=(ok c _ x).1
theorem zgl {x:Str}{u:Value}:∀{ps:List Str} {us:List Value} {i:Nat},ps.Nodup→ps[i]?=some x→us[i]?=some u→(ps.zip us).reverse.lookup x=some u
 | [],_,_,_,e,_=>by simp at e
 | _::_,[],_,_,_,e=>by simp at e
 | p::ps,v::us,0,hn,e1,e2=>by
  have e1:p=x:=by simpa using e1
  have e2:v=u:=by simpa using e2
  subst e1 e2;rw[ycy,yck,List.lookup_append];have z:(ps.zip us).reverse.lookup p=none:=by
   rw[List.lookup_eq_none_iff];intro y hy;have:=ybL (ybT.mp hy);simp only[beq_eq_false_iff_ne,ne_eq,bne_iff_ne];intro q;rw[yaV]at hn
   first
    | exact hn.1 (q ▸ this.1)
    | (rw[q]at hn;exact hn.1 this.1)
  rw[z];simp
 | p::ps,v::us,i+1,hn,e1,e2=>by
  rw[yaV]at hn;have ih:=zgl (ps:=ps) (us:=us) (i:=i) hn.2 (by simpa using e1) (by simpa using e2);rw[ycy,yck,List.lookup_append,ih];rfl
def zo0 (n:Nat)(tb:TE)(vcs:List V)(c:Addr)(q:Str):Sp:=fun vs H Q _=>vs.length=n∧ze0 H c q∧tb (vs.map some++vcs.map some) H Q
theorem zqZ {P:Program}{w:World}{K:Frag}{mg:Str→Option Value}{base:Heap}{k:Nat}{f c:Addr}{name qual:Str}{params:Arguments}{body:Expr}{scope:Scope}{cl:List (Str×Addr)}{pm ctv:Value}{ps caps:List Str}{vcs:List V}{tb:TE}
  (S:zho scope ps caps) (hf:base.get? f=some (PySem.W.kla_obj name qual params body scope cl pm c ctv)) (hlen:vcs.length=caps.length)
  (hcap:∀(j:Nat) (x:Str) (v:V),caps[j]?=some x→vcs[j]?=some v→∃ a u,cl.lookup x=some a∧base.IsCell a (some u)∧RelV v u)
  (hcell:∀ x a,cl.lookup x=some a→∃ v,base.IsCell a v) (hinj:∀ x y a,cl.lookup x=some a→cl.lookup y=some a→x=y) (hhas:∀ x,scope.names.lookup x=some .free→∃ a,cl.lookup x=some a)
  (hb:∀(A:Around) (outer:List Env) (s:Shared) (H:Hp),Room k (A.deeper (PySem.W.envX qual scope s.heap.objs.size f (.ref c) cl))→PE (znY P w K mg base (ps++caps) qual scope f (.ref c) cl A outer s H) body tb) :
  FnOk P w K mg base CX0 (k+1) f (PySem.W.kla_fn name qual params body scope cl pm (.ref c) ctv) ps (zo0 ps.length tb vcs c qual):=by
 refine ⟨fun vs H Q E h=>h.1,fun A outer s H args us vs Q E hr e0 hbind r hsp=>?_⟩;obtain ⟨hl,hc,hq⟩:=hsp;have bk:∀ b o,base.get? b=some o→s.heap.get? b=some o:=fun b o e=>(e0.bs b o e).1;have hul:us.length=ps.length:=by rw[← r.length];exact hl
 refine PySem.W.kla_callFunE hr.depth (bk _ _ hf) rfl S.co S.gen rfl (hc.rec e0.hok) ?_;refine hbind _ _ _ _ ?_;refine wpAny_newFunctionEnv S.nocell (fun y hy=>S.par _ (ybL hy).1) (fun h1 hns hsb=>⟨(e0.mod.nolimit.keeps bk).fresh _ hsb,?_⟩) S.kind;show codeAny _ _ (.expr body (PySem.W.envX qual scope s.heap.objs.size f (.ref c) cl)) _ _;have hk:∀ b o,s.heap.get? b=some o→h1.get? b=some o:=fun b o e=>hsb.extBut b o (yao (yaf e)) (yah _ e);have cellK:∀ a v,base.IsCell a v→h1.IsCell a v∧H a=none:=fun a v ⟨o,ho,hd⟩=>⟨⟨o,hk _ _ (bk _ _ ho),hd⟩,(e0.bs _ _ ho).2⟩;have ndps:ps.Nodup:=(ya5.mp S.nd).1;have noA:∀ b:Addr,b∉([]:List Addr):=fun b z=>absurd z (by simp);have I:Inv (znY P w K mg base (ps++caps) qual scope f (.ref c) cl A outer s H) [] (vs.map some++vcs.map some) H { s with heap:=h1,toks:=s.toks+(ps.zip us).length }:=by
  refine ⟨⟨e0.mod,S.kind,rfl,rfl,yaa _,hinj,fun y hy=>?_,fun y a z _=>(by cases z),fun _=>hr.hd,Around.frames_deeper e0.frames,.inr ⟨rfl,rfl⟩,fun b z=>absurd z (noA b),e0.bs,e0.bsz,fun b _ _=>noA b,fun b z=>absurd z (noA b),e0.funs,e0.frf⟩,
   rfl,e0.bare,Un.kept hk,⟨_,hns,fun i y v h1' h2 h3=>?_⟩,fun y a h=>?_,e0.hok.fresh (yaa _),fun y a h=>?_,fun p hp=>absurd (show p∈([]:List (Addr×Obj)) from hp) (by simp),e0.hok.kept hk,?_⟩
  ·have hy:scope.names.lookup y=some .cell∨scope.names.lookup y=some .free:=hy;rcases hy with hy | hy
   ·exact absurd rfl (S.nocell _ (PySem.mem_of_lookup hy))
   ·exact hhas y hy
  ·have h1':(ps++caps)[i]?=some y:=h1';by_cases hi:i < ps.length
   ·rw[yba hi]at h1';rw[yba (by rw[yab];omega),yap]at h2;cases e:vs[i]? with
    | none=>rw[e]at h2;cases h2
    | some v'=>
     rw[e]at h2;cases h2
     obtain ⟨u,hu,ru⟩:=r.get e;exact ⟨u,ru,.inl ⟨S.par y (yaD h1'),zgl ndps h1' hu⟩⟩
   ·rw[ya3 (by omega)]at h1';rw[ya3 (by rw[yab];omega),yab,yap]at h2;cases e:vcs[i - vs.length]? with
    | none=>rw[e]at h2;cases h2
    | some v'=>
     rw[e]at h2;cases h2
     rw[hl]at e;obtain ⟨a,u,e1,e2,ru⟩:=hcap _ _ _ h1' e;exact ⟨u,ru,.inr ⟨.inr (S.cap y (yaD h1')),a,e1,(cellK _ _ e2).1⟩⟩
  ·obtain ⟨v,z⟩:=hcell y a h;exact ⟨v,(cellK _ _ z).1⟩
  ·obtain ⟨v,z⟩:=hcell y a h;exact (cellK _ _ z).2
  ·show (vs.map some++vcs.map some).length=(ps++caps).length;rw[yaq,yaq,yab,yab,hl,hlen]
 refine PySem.W.kla_codeExpr (wpAny_mono (hb A outer s H (hr.deeper _) [] _ _ H Q I hq) (fun u s' hu=>?_) fun _ _ z=>(show False from z).elim);obtain ⟨v,H',J,rv,q⟩:=hu;exact ⟨v,H',J.os,J.bare,J.base,J.hok,rv,q⟩
end L2
namespace L2
open PySem PySem.Spec PyProof.Rows
def Gro (Pt:Addr)(H H':Hp):Prop:=∀ b o,b≠Pt→H b=some o→H' b=some o
theorem Gro.refl (Pt:Addr)(H:Hp):Gro Pt H H:=fun _ _ _ h=>h
structure zbc (H:Hp)(Pt:Addr)(pos:Pos)(q:Str):Prop where
 ex:∃ tab:Array Value,H Pt=some (.tbl tab)∧TriplesOk tab.toList∧(codeAmong pos tab.toList=none∨∃ c,codeAmong pos tab.toList=some (.ref c)∧ze0 H c q)
theorem zbc.ext {H H':Hp}{Pt:Addr}{pos:Pos}{q:Str}(x:zbc H Pt pos q)(e:Ext H H'):zbc H' Pt pos q:=by
 obtain ⟨tab,h1,h2,h3⟩:=x.ex;refine ⟨tab,e _ _ h1 (fun _ z=>nomatch z),h2,?_⟩;rcases h3 with h3 | ⟨c,h3,h4⟩
 ·exact .inl h3
 ·exact .inr ⟨c,h3,e _ _ h4 (fun _ z=>nomatch z)⟩
def BMAt (mg:Str→Option Value)(base:Heap):Prop:=∃ bm o,mg "__builtins__" = some (.ref bm)∧bm≠builtinsNs∧bm≠mainGlobals∧base.get? bm=some o∧o.cls=.type "module"∧o.dict=some builtinsNs∧o.data=.plain
section
variable {X:Cx}{pins:List (Addr×Obj)}{σ:St}{H:Hp}{s:Shared}{params:Arguments}{body:Expr}{scope:Scope}{lpos:Pos}{c Pt:Addr}{Q:Value→Shared→Prop}
theorem znP {c':Addr}{q:Str}{tab more:Array Value}{h':Heap}{tk:Nat}(I:Inv X pins σ H s)(hP:H Pt=some (.tbl tab))(hx:∀ b o,b≠Pt→s.heap.get? b=some o→h'.get? b=some o)(hge:s.heap.objs.size≤c')
  (hrec:h'.CodeRec (.ref c') q) (htb:h'.get? Pt=some (PySem.W.tabObj (tab++more))):Inv X pins σ (upd (upd H Pt (.tbl (tab++more))) c' (.ext (zmA c' q))) { s with heap:=h',toks:=tk }:=by
 have hfr:H c'=none:=I.hok.fresh hge;have nPc:Pt≠c':=zac hP hfr;have low:∀ b u,H b=some u→b≠c':=fun b u e=>zac e hfr;have lows:∀ b o,s.heap.get? b=some o→b≠c':=fun b o e=>yao (yaw (yaf e) hge);have nP:∀ b,H b=none→b≠Pt:=fun b n z=>by rw[z,hP]at n;cases n
 refine I.un (t':=tk) ⟨fun b o e n _ _=>hx b o (nP b n) e,fun b o e n _ _=>⟨o.slots,hx b o (nP b n) e⟩,fun b o e n _=>?_,fun b o e _=>?_,fun b xs e=>?_,fun b o u e=>?_,fun b ps e=>?_⟩ fun a o e=>?_
 ·rw[zag (lows b o e),zag (nP b n)];exact n
 ·by_cases z:b=Pt
  ·exact ⟨_,by rw[z];exact htb⟩
  ·exact ⟨o,hx b o z e⟩
 ·rw[zag (low b _ e),zag (fun z=>by rw[z,hP]at e;cases e)]
  exact e
 ·rw[zag (low b _ e),zag (fun z=>by rw[z,hP]at e;cases e)]
  exact e
 ·by_cases z:b=Pt
  ·rw[z,hP]at e;cases e
   exact ⟨more,by rw[z,zag nPc,zab]⟩
  ·exact ⟨#[],by rw[zag (low b _ e),zag z,e];simp⟩
 ·by_cases z:a=c'
  ·subst z;rw[zab]at e;cases e
   obtain ⟨c2,o2,vs,t,e2,ho2,r2⟩:=id hrec;cases e2
   exact ⟨hrec,⟨o2,ho2⟩,fun h1 h2 x k=>zkx h1 h2 x k⟩
  ·rw[zag z]at e;by_cases y:a=Pt
   ·subst y;rw[zab]at e;cases e
    exact htb
   ·rw[zag y]at e;refine (I.hok a o e).stay (fun b u hb q=>hx b u ?_ q) (fun b q=>?_) fun b xs q=>?_
    ·rcases hb with rfl | hb
     ·exact y
     ·intro z2;rw[z2,hP]at hb;cases hb
    ·rw[zag (low b _ q),zag (fun z2=>by rw[z2,hP]at q;cases q)]
     exact q
    ·rw[zag (low b _ q),zag (fun z2=>by rw[z2,hP]at q;cases q)]
     exact q
theorem znG (I:Inv X pins σ H s)(hdef:defaultsOf params X.env=([],[]))(hfr:∀ x,(x,NameKind.free)∈scope.names→(X.env.kindOf x=some .cell∨X.env.kindOf x=some .free))(hcode:X.env.code=.ref c)(hC:codeHdIn X.K c Pt=true)(hBM:BMAt X.mg X.base)
  (hT:zbc H Pt lpos (X.env.qual ++ "<lambda>"))
  (h:∀(f c':Addr) (cl:List (Str×Addr)) (pm ctv:Value) (H':Hp) (s':Shared),zid scope X.env cl→Inv X pins σ H' s'→s'.heap.get? f=some (PySem.W.kla_obj "<lambda>" (X.env.qual ++ "<lambda>") params body scope cl pm c' ctv)→H' f=none→s.heap.objs.size≤f→
   Gro Pt H H'→zbc H' Pt lpos (X.env.qual ++ "<lambda>")→ze0 H' c' (X.env.qual ++ "<lambda>")→Q (.ref f) s') :
  wpAny (model X.prog X.w) X.A (eval (.Lambda params body scope lpos) X.env) Q X.xe s:=by
 obtain ⟨cl,hcl⟩:=zfW (scope:=scope) (env:=X.env) fun x hx=>I.ok.has x (hfr x hx);obtain ⟨tab,hP,ht,hor⟩:=hT.ex;have hPo:s.heap.get? Pt=some (PySem.W.tabObj tab):=I.hok Pt _ hP;have C:PySem.W.CodeHd s.heap c Pt:=(PySem.W.codeHd_of_K I.ok.mod.kin hC).keeps I.bk;have hgl:=I.mod.glob.keeps I.bk;have hgP:mainGlobals≠Pt:=fun z=>by
  obtain ⟨o,es,ep,e,_⟩:=I.mod.glob;have:=(I.bs _ _ e).2;rw[z,hP]at this;cases this
 have hb:s.heap.BuiltinsAt X.mg Pt:=by
  obtain ⟨bm,o,b1,b2,b3,b4,b5⟩:=hBM;refine ⟨bm,o,b1,b2,b3,fun z=>?_,I.bk _ _ b4,b5⟩;have:=(I.bs _ _ b4).2;rw[z,hP]at this;cases this
 refine PySem.W.kla_eval hdef ?_;rcases hor with hnone | ⟨c',hsome,hca⟩
 ·refine PySem.W.kla_makeFunction (clos:=cl) hcl.eq I.ok.glob hgl hcode C hPo ht hnone hgP hb fun c' ctv h' tk hx hge hlt hrec htb=>?_;have hx':∀ o2 b o,b≠Pt→s.heap.get? b=some o→(h'.push o2).get? b=some o:=fun o2 b o n e=>yah _ (hx b o n e);have I':=znP (c':=c') (q:=X.env.qual ++ "<lambda>") (tk:=tk) I hP (hx' _) hge (hrec.push (PySem.W.kla_obj "<lambda>" (X.env.qual ++ "<lambda>") params body scope cl ((X.mg "__name__").getD .none) c' ctv)) (yah _ htb);have hsz:s.heap.objs.size≤h'.objs.size:=ya1 (ya2 hge hlt);have nPc:Pt≠c':=zac hP (I.hok.fresh hge);have eT:(tab++#[rawInt lpos.line,rawInt lpos.col,.ref c']).toList=tab.toList++[rawInt lpos.line,rawInt lpos.col,.ref c']:=by simp
  have hTI:zbc (upd (upd H Pt (.tbl (tab++#[rawInt lpos.line,rawInt lpos.col,.ref c']))) c' (.ext (zmA c' (X.env.qual ++ "<lambda>")))) Pt lpos (X.env.qual ++ "<lambda>"):=
   ⟨_,by rw[zag nPc,zab],by rw[eT];exact TriplesOk_snoc _ _ _ _ ht,.inr ⟨c',by rw[eT];exact codeAmong_snoc _ ht hnone,zab⟩⟩
  refine h h'.objs.size c' cl _ ctv _ _ hcl I' (yaB _ rfl) ?_ hsz ?_ hTI zab
  ·rw[zag (ybi hlt),zag (fun z=>?_)]
   ·exact I.hok.fresh hsz
   ·have:=yaf hPo;rw[← z]at this;exact absurd this (Nat.not_lt.mpr hsz)
  ·intro b o n e;rw[zag (zac e (I.hok.fresh hge)),zag n];exact e
 ·refine PySem.W.kla_makeFunctionHit (clos:=cl) hcl.eq I.ok.glob hgl hcode C hPo ht hsome hb fun ctv h' tk hk hsz=>?_;exact h h'.objs.size c' cl _ ctv H _ hcl (I.kept (t':=tk) fun b o e=>yah _ (hk b o e)) (yaB _ rfl) (I.hok.fresh hsz) hsz (Gro.refl _ _) hT hca
end
end L2
namespace L2
open PySem PySem.Spec PyProof.Rows
def zet (X:Cx)(s:Shared)(H:Hp):Heap:=PySem.W.hideAll s.heap (trk s.heap H++frs X.stack)
theorem zfO {h b1 b2:Heap}:∀{l:List Env},h.FunFrames b1 l→(∀ b∈frs l,b2.get? b=none)→h.FunFrames b2 l
 | [],_,_=>trivial
 | env::l,⟨h1,⟨L,o,h2,h3,h4,h5⟩,h6⟩,k=>by
  have m:∀ b∈frs l,b∈frs (env::l):=fun b hb=>by
   unfold frs;rw[ybw,h2];exact yax _ hb
  refine ⟨h1,⟨L,o,h2,k L ?_,h4,h5⟩,zfO h6 fun b hb=>k b (m b hb)⟩;unfold frs;rw[ybw,h2];exact yaF
section
variable {X:Cx}{pins:List (Addr×Obj)}{σ:St}{H:Hp}{s:Shared}
theorem zeN {b:Addr}{o:Obj}(e:s.heap.get? b=some o)(n:H b=none)(hf:b∉frs X.stack):(zet X s H).get? b=some o:=
 PySem.W.hideAll_get _ e fun hm=>by
  rcases yaj.mp hm with z | z
  ·have q:(H b).isSome=true:=(ya7.mp z).2;rw[n]at q;cases q
  ·exact hf z
theorem zhL {b:Addr}{o:Obj}(e:(zet X s H).get? b=some o):s.heap.get? b=some o∧H b=none∧b∉frs X.stack:=by
 have e1:=PySem.W.of_hideAll _ e;have hm:b∉trk s.heap H++frs X.stack:=fun z=>by
  unfold zet at e;rw[PySem.W.hideAll_none _ z]at e;cases e
 rw[yaj,not_or]at hm;refine ⟨e1,?_,hm.2⟩;cases q:H b with
 | none=>rfl
 | some u=>exact absurd (ya7.mpr ⟨ya8.mpr (yaf e1),by rw[q];rfl⟩) hm.1
theorem zkA (I:Inv X pins σ H s):∀ b o,X.base.get? b=some o→(zet X s H).get? b=some o:=fun b o e=>by
 obtain ⟨h1,h2⟩:=I.bs b o e;refine zeN h1 h2 fun z=>?_;have:=(I.stack.mem z).1;rw[e]at this;cases this
theorem ziX (I:Inv X pins σ H s):Env0 X.prog X.w X.K X.mg (zet X s H) X.A X.stack s H:=by
 have sub:=zkA I;refine ⟨I.ok.frames,⟨I.mod.kin.keeps sub,I.mod.glob.keeps sub,?_,I.mod.nolimit.keeps sub⟩,fun b o e=>⟨(zhL e).1,(zhL e).2.1⟩,Nat.le_of_eq (PySem.W.hideAll_size _ _),zfO I.stack fun b hb=>PySem.W.hideAll_none _ (yaC _ hb),I.stkFree,I.hok,I.bare⟩;obtain ⟨mb,h1,h2⟩:=I.mod.blt;exact ⟨mb,h1.keeps sub,h2⟩
end
structure FV (P:Program)(w:World)(K:Frag)(mg:Str→Option Value)(base:Heap)(k:Nat)(f:Addr)(ps:List Str)(sp:Sp):Prop where
 ex:∃ fd,FnOk P w K mg base CX0 k f fd ps sp∧zcZ K fd ps []∧PySem.W.FnAt f base
section
variable {X:Cx}
def zqe (X:Cx)(kr:Nat)(tf:TE)(t:TA):TE:=fun σ H Q=>tf σ H fun x H1=>∃ f k ps sp,x=.ref f∧FV X.prog X.w X.K X.mg X.base k f ps sp∧k≤kr∧t σ H1 fun vs H2=>sp vs H2 Q E0
theorem zne {kr:Nat}{x:Str}{e:Expr}{es:List Expr}{tf:TE}{t:TA}{p pos:Pos}(hr:Room kr X.A)(hf:PE X (.Name x p) tf)(ha:PA X (e::es) t)
  (he:starEach (e::es) X.env=(false,eval e X.env)::starEach es X.env:=by rfl) (hpl:(backTo pos (starEach es X.env)).any (·.1)=false:=by rfl):PE X (.Call (.Name x p) (e::es) [] pos) (zqe X kr tf t):=by
 intro pins s σ H Q I h;refine wpAny_Call_Name_kw (thn (hf pins s σ H _ I h) fun u s1 zq0=>?_);obtain ⟨x1,H1,I1,r1,q1⟩:=zq0;obtain ⟨f,k,ps,sp,rfl,hF,hk,q⟩:=q1;cases r1
 obtain ⟨fd,ok,bd,oc,od,fd2,sl,ho⟩:=hF.ex;refine PySem.W.callWith_F ⟨oc,od,fd2,sl,I1.bk _ _ ho⟩ (thn (ha pos pins s1 σ H1 _ I1 q) fun us s2 zq0=>?_) he hpl;obtain ⟨vs,H2,I2,r,q2⟩:=zq0;refine ⟨⟨oc,od,fd2,sl,I2.bk _ _ ho⟩,?_⟩;exact zjp ok (hr.mono hk) bd .nil zlq I2 r (by rw[yay];exact q2)
structure zp1 (X:Cx)(params:Arguments)(body:Expr)(scope:Scope)(ps caps:List Str)(cap:List Nat):Prop where
 sc:zho scope ps caps
 frees:∀ x,(x,NameKind.free)∈scope.names→(X.env.kindOf x=some .cell∨X.env.kindOf x=some .free)
 capAt:∀(j:Nat) (x:Str),caps[j]?=some x→∃ i:Nat,cap[j]?=some i∧X.N[i]?=some x∧(X.env.kindOf x=some .cell∨X.env.kindOf x=some .free)
 dflt:defaultsOf params X.env=([],[])
 binds:∀(cl:List (Str×Addr)) (pm cdv ct:Value) (us:List Value),us.length=ps.length→bindArgs (PySem.W.kla_fn "<lambda>" (X.env.qual ++ "<lambda>") params body scope cl pm cdv ct) ⟨us,[]⟩=pure (ps.zip us)
 own:∀ x,X.fn x=true
theorem zrT {pins:List (Addr×Obj)}{σ:St}{H:Hp}{s:Shared}{params:Arguments}{body:Expr}{scope:Scope}{ps caps:List Str}{cap:List Nat}{f c':Addr}{cl:List (Str×Addr)}{pm ctv:Value}{vcs:List V}{tb:TE}{k n:Nat}(I:Inv X pins σ H s)(L:zp1 X params body scope ps caps cap)(hcl:zid scope X.env cl)
  (ho:s.heap.get? f=some (PySem.W.kla_obj "<lambda>" (X.env.qual ++ "<lambda>") params body scope cl pm c' ctv)) (hn:H f=none) (hfr:∀ b∈frs X.stack,b < n) (hge:n≤f)
  (hv:vcs.length=caps.length) (hvs:∀(j i:Nat) (v:V),cap[j]?=some i→vcs[j]?=some v→σ[i]?=some (some v))
  (hb:∀(base:Heap) (f:Addr) (cd:Value) (cl:List (Str×Addr)) (A:Around) (outer:List Env) (s:Shared) (H:Hp),Room k (A.deeper (PySem.W.envX (X.env.qual ++ "<lambda>") scope s.heap.objs.size f cd cl))→PE (znY X.prog X.w X.K X.mg base (ps++caps) (X.env.qual ++ "<lambda>") scope f cd cl A outer s H) body tb) :
  FV X.prog X.w X.K X.mg (zet X s H) (k+1) f ps (zo0 ps.length tb vcs c' (X.env.qual ++ "<lambda>")):=by
 have nf:f∉frs X.stack:=fun z=>absurd (yaw (hfr f z) hge) (ybh _);have hbf:=zeN (X:=X) ho hn nf;have cellB:∀ x a v,X.env.cells.lookup x=some a→s.heap.IsCell a v→(zet X s H).IsCell a v:=fun x a v e ⟨o,h1,h2⟩=>by
  refine ⟨o,zeN h1 (I.freeC x a e) fun z=>?_,h2⟩;rcases yam.mp (I.stkSub a z) with y | y
  ·exact I.cne x a e y
  ·obtain ⟨_,o2,h3,_⟩:=I.ok.funs.mem y;exact absurd (yaw (yaf h3) (I.ok.cab x a (L.own x) e)) (ybh _)
 refine ⟨_,zqZ L.sc hbf hv (fun j x v h1 h2=>?_) (fun x a e=>?_) (fun x y a h1 h2=>I.ok.inj x y a (hcl.sub x a h1) (hcl.sub y a h2)) (fun x e=>?_) (fun A outer s H hr=>hb _ f _ cl A outer s H hr),.all (L.binds cl pm (.ref c') ctv),⟨_,_,_,_,hbf⟩⟩
 ·obtain ⟨i,e1,e2,e3⟩:=L.capAt j x h1;obtain ⟨m,hm,hl⟩:=I.loc;obtain ⟨u,ru,lk⟩:=hl i x v e2 (hvs j i v e1 h2) (by
   rcases e3 with z | z
   ·exact .inr (.inl z)
   ·exact .inr (.inr z))
  rcases lk with ⟨z,_⟩ | ⟨_,a,e4,e5⟩
  ·rcases e3 with y | y
   ·rw[y]at z;cases z
   ·rw[y]at z;cases z
  ·obtain ⟨a',e6⟩:=hcl.has x (PySem.mem_of_lookup (L.sc.cap x (yaD h1)));have e7:=hcl.sub x a' e6;rw[e4]at e7;cases e7
   exact ⟨a,u,e6,cellB x a _ e4 e5,ru⟩
 ·obtain ⟨v,z⟩:=I.cell x a (hcl.sub x a e);exact ⟨v,cellB x a v (hcl.sub x a e) z⟩
 ·exact hcl.has x (PySem.mem_of_lookup e)
def zmY (X:Cx)(n kf:Nat)(ps:List Str)(cap:List Nat)(Pt:Addr)(lpos:Pos)(tb te:TE)(spH:Heap→Sp):TE:=fun σ H Q=>te σ H fun x1 H1=>zbc H1 Pt lpos (X.env.qual ++ "<lambda>")∧∃ vcs:List V,vcs.length=n∧(∀(j i:Nat) (v:V),cap[j]?=some i→vcs[j]?=some v→σ[i]?=some (some v))∧
 ∀(base:Heap) (f c':Addr) (H2:Hp),Gro Pt H1 H2→zbc H2 Pt lpos (X.env.qual ++ "<lambda>")→ze0 H2 c' (X.env.qual ++ "<lambda>")→FV X.prog X.w X.K X.mg base kf f ps (zo0 ps.length tb vcs c' (X.env.qual ++ "<lambda>"))→spH base [x1,.ref f] H2 Q E0
theorem zj6 {x q1 q2:Str}{e1:Expr}{params:Arguments}{body:Expr}{scope:Scope}{lpos p pos:Pos}{te tb:TE}{spH:Heap→Sp}{j k kf:Nat}{c Pt:Addr}{ps caps:List Str}{cap:List Nat}
  (F:∀ base,FC X.prog X.w X.K X.mg base j x [q1,q2] (spH base)) (hr:Room k X.A) (h1:PE X e1 te) (L:zp1 X params body scope ps caps cap) (hcode:X.env.code=.ref c) (hC:codeHdIn X.K c Pt=true) (hBM:BMAt X.mg X.base)
  (hb:∀(base:Heap) (f:Addr) (cd:Value) (cl:List (Str×Addr)) (A:Around) (outer:List Env) (s:Shared) (H:Hp),Room kf (A.deeper (PySem.W.envX (X.env.qual ++ "<lambda>") scope s.heap.objs.size f cd cl))→PE (znY X.prog X.w X.K X.mg base (ps++caps) (X.env.qual ++ "<lambda>") scope f cd cl A outer s H) body tb)
  (hjk:j≤k:=by decide) (hg:Gl X x:=by rfl) (hdb:(x == ("__debug__" : Str))=false:=by decide) (he:starEach [e1,.Lambda params body scope lpos] X.env=(false,eval e1 X.env)::starEach [.Lambda params body scope lpos] X.env:=by rfl)
  (he2:starEach [.Lambda params body scope lpos] X.env=[(false,eval (.Lambda params body scope lpos) X.env)]:=by rfl) (hpl:(backTo pos (starEach [.Lambda params body scope lpos] X.env)).any (·.1)=false:=by rfl) :
  PE X (.Call (.Name x p) [e1,.Lambda params body scope lpos] [] pos) (zmY X caps.length (kf+1) ps cap Pt lpos tb te spH):=by
 intro pins s σ H Q I h;obtain ⟨g,fd,_,_,kp,m,oc,od,osl,lk⟩:=(F X.base).ex;refine wpAny_Call_Name_kw (zdU I hg m ?_ hdb);refine PySem.W.callWith_K (h₀:=X.base) I.ok.mod.kin kp ?_ he hpl;rw[he];show wpAny _ _ (spliced ((false,eval e1 X.env)::backTo pos (starEach [.Lambda params body scope lpos] X.env))) _ _ s;refine Calls.spliced_cons (thn (h1 pins s σ H _ I h) fun u s1 zq0=>?_);obtain ⟨x1,H1,I1,r1,q1⟩:=zq0;obtain ⟨hT,vcs,hv,hvs,q⟩:=q1;rw[he2];show wpAny _ _ (spliced ((false,eval (.Lambda params body scope lpos) X.env)::[])) _ _ s1;refine Calls.spliced_cons (znG I1 L.dflt L.frees hcode hC hBM hT fun f c' cl pm ctv H2 s2 hcl I2 ho hn hge hgr hT2 hca=>?_);refine Calls.spliced_nil ⟨I2.kIn,?_⟩;have hF:=zrT (k:=kf) (n:=s1.heap.objs.size) I2 L hcl ho hn (fun b hb=>by
  obtain ⟨_,o,e,_⟩:=I1.stack.mem hb;exact yaf e) hge hv hvs hb
 have hsp:=q (zet X s2 H2) f c' H2 hgr hT2 hca hF;obtain ⟨g2,fd2,ok,bd,_,m2,_⟩:=(F (zet X s2 H2)).ex;rw[m]at m2;cases m2
 have r2:Vals [x1,.ref f] [u,.ref f]:=.cons r1 (.cons rfl .nil);refine wpAny_call (codeAny_mono (ok.run X.A X.stack s2 H2 ⟨[u,.ref f],[]⟩ [u,.ref f] [x1,.ref f] Q E0 (hr.mono hjk) (ziX I2) (bd s2 [u,.ref f] I2.kIn rfl) r2 hsp) fun r s' hq=>?_);cases r with
 | error e=>exact False.elim hq
 | ok fl=>
  cases fl with
  | ret u=>exact I2.after hq
  | next=>exact False.elim hq
  | brk=>exact False.elim hq
  | cont=>exact False.elim hq
end
end L2
namespace L2
open PySem PySem.Spec PyProof.Rows
theorem zlY {P:Program}{w:World}{K:Frag}{mg mb:Str→Option Value}{CX:CXT}{k:Nat}{fa a:Addr}{fd:FuncData}{x:Str}{sp:Sp}{s₁:Shared}{vs:List Value}{ns:List Int}{tabs:List (Addr×Addr)}
  (KX:K.In s₁.heap) (hns:s₁.heap.Ns mainGlobals mg) (hb:s₁.heap.Ns builtinsNs mb) (hbb:∀ x:Str,x ≠ "__name__"→mb x=bootBuiltins x) (hlim:s₁.heap.NoLimit) (hg:s₁.gens=#[]) (hBM:BMAt mg s₁.heap)
  (hT:PySem.W.TabsAt tabs s₁.heap) (hKT:∀ q∈tabs,K.lookup q.2=none)
  (ha:s₁.heap.get? a=some { cls:=.type "list",data:=.seq vs.toArray }) (hi:IntsAre vs ns) (hl:ns.length≤sizeLine) (hr:Room k callerA)
  (F:∀ base:Heap,K.In base→base.Ns mainGlobals mg→BMAt mg base→FnOk P w K mg base CX k fa fd [x] sp) (hbind:∀(s:Shared) (u:Value),BindsTo s fd ⟨[u],[]⟩ [(x,u)])
  (hsp:∀ H:Hp,(∀ q∈tabs,H q.2=some (.tbl #[]))→SqL K H a (ns.map V.int)→sp [.ref a] H (fun v _=>v=.bl true) fun _ _ _=>False)
  (hCX:∀ H e s',CX [] H s₁ (fun _ _ _=>False) e s'→False) :
  codeAny (model P w) callerA (.call (.ref fa) ⟨[.ref a],[]⟩) (fun r s'=>r=.ok (.ret (.bool true))∧OldK s₁.heap s'.heap∧s'.os=s₁.os∧AllBare s'.gens) s₁:=by
 have rv:=zhr hi;have lenV:=hi.length;have tabO:∀ b,b∈tabs.map (·.2)→s₁.heap.get? b=some (PySem.W.tabObj #[])∧isCodeTable s₁.heap b∧K.lookup b=none:=fun b hm=>by
  obtain ⟨q,hq,rfl⟩:=yaG.mp hm;exact ⟨(hT q hq).2,((hT q hq).1.tab (hT q hq).2).isCodeTable,hKT q hq⟩
 have nat:a∉tabs.map (·.2):=fun z=>by
  have:=(tabO a z).1;rw[ha]at this;cases this
 have core:∀ Hs:Hp,(∀ b,Hs b=none∨(b=a∧Hs b=some (.frz { cls:=.type "list",data:=.seq vs.toArray } (.lst (ns.map V.int)))))→(∀ H:Hp,(∀ b,b∉tabs.map (·.2)→H b=Hs b)→SqL K H a (ns.map V.int))→(Hs a≠none→K.lookup a=none)→
   codeAny (model P w) callerA (.call (.ref fa) ⟨[.ref a],[]⟩) (fun r s'=>r=.ok (.ret (.bool true))∧OldK s₁.heap s'.heap∧s'.os=s₁.os∧AllBare s'.gens) s₁:=by
  intro Hs hO hS hK;obtain ⟨H,hH⟩:∃ H:Hp,H=fun b=>if b∈tabs.map (·.2) then some (.tbl #[]) else Hs b:=⟨_,rfl⟩
  have H1:∀ b,b∈tabs.map (·.2)→H b=some (.tbl #[]):=fun b z=>by rw[hH];exact if_pos z
  have H2:∀ b,b∉tabs.map (·.2)→H b=Hs b:=fun b z=>by rw[hH];exact if_neg z
  have cases3:∀ b,H b=none∨(b=a∧H b=some (.frz { cls:=.type "list",data:=.seq vs.toArray } (.lst (ns.map V.int))))∨(b∈tabs.map (·.2)∧H b=some (.tbl #[])):=fun b=>by
   by_cases z:b∈tabs.map (·.2)
   ·exact .inr (.inr ⟨z,H1 b z⟩)
   ·rcases hO b with y | ⟨y1,y2⟩
    ·exact .inl ((H2 b z).trans y)
    ·exact .inr (.inl ⟨y1,(H2 b z).trans y2⟩)
  have hok:HOk P w H s₁.heap:=fun b u e=>by
   rcases cases3 b with y | ⟨y1,y2⟩ | ⟨y1,y2⟩
   ·rw[y]at e;cases e
   ·rw[y2]at e;cases e
    subst y1;exact ⟨ha,by rw[yab];exact hl,vs,_,rv,ha⟩
   ·rw[y2]at e;cases e
    exact (tabO b y1).1
  have base_of:∀{b:Addr} {o:Obj},s₁.heap.get? b=some o→H b=none→(hidT s₁.heap H).get? b=some o:=fun e n=>znM e n;have noD:∀{b:Addr} {o:Obj},s₁.heap.get? b=some o→(∀ xs n,o.data≠.seq xs n)→(∀ xs,o.data≠.fields xs)→H b=none:=fun {b o} e d1 d2=>by
   rcases cases3 b with y | ⟨y1,y2⟩ | ⟨y1,y2⟩
   ·exact y
   ·subst y1;rw[ha]at e;cases e
    exact absurd rfl (d1 _ _)
   ·rw[(tabO b y1).1]at e;cases e
    exact absurd rfl (d2 _)
  have nsK:∀{b:Addr} {m:Str→Option Value},s₁.heap.Ns b m→(hidT s₁.heap H).Ns b m:=fun {b m} ⟨o,es,ep,e,d,r⟩=>⟨o,es,ep,base_of e (noD e (fun _ _ z=>by rw[d]at z;cases z) (fun _ z=>by rw[d]at z;cases z)),d,r⟩
  have hKb:K.In (hidT s₁.heap H):=fun b o e=>base_of (KX b o e) (by
   rcases cases3 b with y | ⟨y1,y2⟩ | ⟨y1,y2⟩
   ·exact y
   ·subst y1;rw[hK (by rw[← H2 b nat,y2];exact fun z=>nomatch z)]at e;cases e
   ·rw[(tabO b y1).2.2]at e;cases e)
  have hM:Mod K mg (hidT s₁.heap H):=⟨hKb,nsK hns,⟨mb,nsK hb,hbb⟩,let ⟨mc,h1,h2⟩:=hlim;⟨mc,nsK h1,h2⟩⟩;have hBMb:BMAt mg (hidT s₁.heap H):=by
   obtain ⟨bm,o,b1,b2,b3,b4,b5,b6,b7⟩:=hBM;exact ⟨bm,o,b1,b2,b3,base_of b4 (noD b4 (fun _ _ z=>by rw[b7]at z;cases z) (fun _ z=>by rw[b7]at z;cases z)),b5,b6,b7⟩
  have e0:Env0 P w K mg (hidT s₁.heap H) callerA [] s₁ H:=⟨rfl,hM,fun b o e=>zpt e,Nat.le_of_eq (zmb _ _),trivial,fun b hb=>absurd (show b∈([]:List Addr) from hb) (by simp),hok,.of_eq hg⟩;refine codeAny_mono ((F _ hKb (nsK hns) hBMb).run callerA [] s₁ H ⟨[.ref a],[]⟩ [.ref a] [.ref a] _ _ hr e0 (hbind s₁ (.ref a)) (.cons rfl .nil) (hsp H (fun q hq=>H1 _ (List.mem_map_of_mem hq)) (hS H H2))) fun r s' h=>?_;cases r with
  | error e=>exact (hCX H e s' h).elim
  | ok fl=>
   cases fl with
   | next=>exact False.elim h
   | brk=>exact False.elim h
   | cont=>exact False.elim h
   | ret u=>
    obtain ⟨v,H',os,bare,un,hok',r',q⟩:=h;have q':v=.bl true:=q;subst q';obtain rfl:u=Value.bool true:=r';have keep:∀ b o,H b=none→s₁.heap.get? b=some o→s'.heap.get? b=some o:=fun b o n e=>un.keep b o e n (by intro z;exact absurd (show b∈([]:List Addr) from z) (by simp)) (by simp);have frz:∀ b o,b=a→H b=some (.frz { cls:=.type "list",data:=.seq vs.toArray } (.lst (ns.map V.int)))→s₁.heap.get? b=some o→s'.heap.get? b=some o:=fun b o y1 y2 e=>by
     obtain ⟨e1,_⟩:=hok b _ y2;obtain ⟨e2,_⟩:=hok' b _ (un.frzs b _ _ y2);rw[e]at e1;cases e1
     exact e2
    have tbl:∀ b,H b=some (.tbl #[])→∃ ps,s'.heap.get? b=some (PySem.W.tabObj ps):=fun b y=>by
     obtain ⟨more,e⟩:=un.tbls b _ y;exact ⟨_,hok' b _ e⟩
    refine ⟨rfl,⟨fun b o e=>?_,fun b o e=>?_⟩,os,bare⟩
    ·rcases cases3 b with y | ⟨y1,y2⟩ | ⟨y1,y2⟩
     ·exact .inl (keep b o y e)
     ·exact .inl (frz b o y1 y2 e)
     ·obtain ⟨ps,hp⟩:=tbl b y2;obtain ⟨t1,t2,_⟩:=tabO b y1;rw[e]at t1;cases t1
      exact .inr (.inl ⟨t2,rfl,#[],ps,rfl,by rw[Array.empty_append];exact hp⟩)
    ·rcases cases3 b with y | ⟨y1,y2⟩ | ⟨y1,y2⟩
     ·exact ⟨o,keep b o y e⟩
     ·exact ⟨o,frz b o y1 y2 e⟩
     ·obtain ⟨ps,hp⟩:=tbl b y2;exact ⟨_,hp⟩
 cases hk:K.lookup a with
 | some o=>
  have e:=KX a o hk;rw[ha]at e;cases e
  exact core (fun _=>none) (fun _=>.inl rfl) (fun H _=>.inr ⟨_,vs.toArray,_,hk,rfl,rfl,rfl,by rw[yar,lenV];exact hl,by simpa using rv⟩) fun z=>absurd rfl z
 | none=>
  refine core (fun b=>if b=a then some (.frz { cls:=.type "list",data:=.seq vs.toArray } (.lst (ns.map V.int))) else none) (fun b=>?_) (fun H h=>.inl (.inr ⟨{ cls:=.type "list",data:=.seq vs.toArray },by rw[h a nat];exact if_pos rfl⟩)) fun _=>hk
  by_cases z:b=a
  ·exact .inr ⟨z,if_pos z⟩
  ·exact .inl (if_neg z)
theorem zmR {l:OpenLaw}{n k:Nat}{q:Program}{loose:List Str}{XP:(Str→Option Value)→Heap→Prop}{YP:World→Heap→Prop}{d:DefRec}{K:Params→Frag}{sp:World→Sp}{x:Str}{tabs:List (Addr×Addr)}
  (hn:l.most=some n) (hn2:n≤sizeLine) (hdf:d.params.defaults=[]) (hr:Room k callerA)
  (hY:∀(w:World) (h:Heap),YP w h→(K w.params).In h) (hYT:∀(w:World) (h:Heap),YP w h→∀ q∈tabs,h.get? q.2=some (PySem.W.tabObj #[]))
  (hC:∀(w:World),∀ q∈tabs,codeHdIn (K w.params) q.1 q.2=true∧(K w.params).lookup q.2=none)
  (F:∀(w:World) (mg:Str→Option Value) (fa:Addr) (h:Heap),(K w.params).In h→h.Ns mainGlobals mg→mg d.name=some (.ref fa)→
   ∃ fd:FuncData,(∀(s:Shared) (u:Value),BindsTo s fd ⟨[u],[]⟩ [(x,u)])∧
    ∀ base:Heap,(K w.params).In base→base.Ns mainGlobals mg→BMAt mg base→FnOk l.prog w (K w.params) mg base CX0 k fa fd [x] (sp w))
  (hsp:∀(w:World) (H:Hp) (a:Addr) (ns:List Int),ns.length≤n→(∀ q∈tabs,H q.2=some (.tbl #[]))→SqL (K w.params) H a (ns.map V.int)→sp w [.ref a] H (fun v _=>v=.bl true) fun _ _ _=>False) :
  PySem.W.WalkO q loose XP YP l.row.toRowW d [] (fun f vs=>PySem.call f vs):=by
 refine Att.attach_call hn hdf fun w s₀ s₁ mg mb fa o pm cd doc a vs ns G Y ho hd hcd hmg hobj hints hlen hg=>?_;have KX:=hY w _ Y;obtain ⟨fd,hb,hF⟩:=F w mg fa _ KX G.T.g hmg;have hBM:BMAt mg s₁.heap:=by
  obtain ⟨bm,ob,b1,b2,b3,b4,b5,b6⟩:=G.T.bmain;refine ⟨bm,ob,b1,b2,fun z=>?_,b3,b4,b5,b6⟩;obtain ⟨o,es,ep,e,hd,_⟩:=G.T.g;rw[z,e]at b3;cases b3
  rw[hd]at b6;cases b6
 exact zlY (tabs:=tabs) KX G.T.g G.T.b G.T.builtins G.T.nolimit hg hBM (fun q hq=>⟨PySem.W.codeHd_of_K KX (hC w q hq).1,hYT w _ Y q hq⟩) (fun q hq=>(hC w q hq).2) hobj hints (yaA hlen hn2) hr hF hb (fun H hO hS=>hsp w H a ns hlen hO hS) fun H e s' z=>z
structure DFT (K:Frag)(mg:Str→Option Value)(x:Str)(st:Stmt)(ps:List Str)(c Pt:Addr):Prop where
 ex:∃(f:Addr) (oc:Value) (od:Option Addr) (kV dc pm:Value) (an:Option Addr) (ct:Value) (osl:Array (Option Value)),K.lookup f=some ⟨oc,od,.func (fnOf x x (zbD st) (zaW st) (zah st) .none kV dc pm an (.ref c) ct),osl⟩∧
  codeIn K (.ref c) x=true∧keepIn K (.ref f)=true∧mg x=some (.ref f)∧zcZ K (fnOf x x (zbD st) (zaW st) (zah st) .none kV dc pm an (.ref c) ct) ps []
 hd:codeHdIn K c Pt=true
theorem DFT.ok {P:Program}{w:World}{K:Frag}{mg:Str→Option Value}{base:Heap}{x:Str}{st:Stmt}{N ps:List Str}{k:Nat}{sp:Sp}{c Pt:Addr}(D:DFT K mg x st ps c Pt)(S:zap N ps (zah st))(len:∀ vs H Q E,sp vs H Q E→vs.length=ps.length)
  (hbody:∀(f:Addr) (A:Around) (outer:List Env) (s:Shared) (H:Hp) (vs:List V) (Q:VK) (E:XK),Room k (A.deeper (envOfC x (zah st) s.heap.objs.size f (.ref c)))→sp vs H Q E→
   ∃ t,PSs (cxOf CX0 P w K mg base N x (zah st) f (.ref c) A outer s H E).nox (zaW st) t∧t { nx:=fun _ H'=>Q .non H',rt:=Q } (zcO N vs) H):FC P w K mg base (k+1) x ps sp:=by
 obtain ⟨f,oc,od,kV,dc,pm,an,ct,osl,lk,hcd,kp,m,bd⟩:=D.ex;refine ⟨f,_,znU lk hcd S len fun A outer s H vs Q E hr hsp=>?_,bd,kp,m,oc,od,osl,lk⟩;obtain ⟨t,h,q⟩:=hbody f A outer s H vs Q E hr hsp;exact ⟨t,h.nox,q⟩
theorem zmW {K:Frag}{x:Str}{c Pt f:Addr}{oc:Value}{od:Option Addr}{fd:FuncData}{sl:Array (Option Value)}(a:nsIn K mainGlobals x=some (some (.ref f)))(l:K.lookup f=some ⟨oc,od,.func fd,sl⟩)(t:tabIn K x=some (c,Pt)):fd.code=.ref c:=by
 unfold tabIn at t;rw[a]at t;dsimp only at t;rw[l]at t;dsimp only at t;split at t
 ·rename_i c2 hc;split at t
  ·split at t
   ·cases t
    exact hc
   ·cases t
  ·cases t
 ·cases t
end L2
namespace L2
open PySem PySem.Spec PyProof.Rows
theorem zq4 {X:Cx}{params:Arguments}{body:Expr}{scope osc:Scope}{N ps caps:List Str}{cap:List Nat}(sc:zho scope ps caps)
  (h1:∀ p∈scope.names,p.2=NameKind.free→osc.names.lookup p.1=some NameKind.cell) (h2:∀ p∈caps.zip cap,N[p.2]?=some p.1∧osc.names.lookup p.1=some NameKind.cell) (hl:caps.length=cap.length)
  (ho:X.env.scope=osc) (hN:X.N=N) (d:defaultsOf params X.env=([],[]))
  (b:∀(cl:List (Str×Addr)) (pm cdv ct:Value) (us:List Value),us.length=ps.length→bindArgs (PySem.W.kla_fn "<lambda>" (X.env.qual ++ "<lambda>") params body scope cl pm cdv ct) ⟨us,[]⟩=pure (ps.zip us))
  (o:∀ x,X.fn x=true):zp1 X params body scope ps caps cap:=by
 have hk:∀ x,X.env.kindOf x=osc.names.lookup x:=fun x=>by
  unfold Env.kindOf;rw[ho]
 refine ⟨sc,fun x hx=>.inl ?_,fun j x hj=>?_,d,b,o⟩
 ·rw[hk];exact h1 (x,.free) hx rfl
 ·have hj':=(yak.mp hj).1;have hc:cap[j]?=some (cap[j]'(by omega)):=yac _;have hz:(caps.zip cap)[j]?=some (x,cap[j]'(by omega)):=by
   rw[List.getElem?_zip_eq_some];exact ⟨hj,hc⟩
  obtain ⟨a1,a2⟩:=h2 _ (yaD hz);refine ⟨_,hc,?_,.inl ?_⟩
  ·rw[hN];exact a1
  ·rw[hk];exact a2
end L2
namespace L2
open PySem PySem.Spec PyProof.Rows PySem.SeqAt
structure Tri (α β γ:Type) where
 a:α
 b:β
 c:γ
end L2
namespace L2
open PySem PySem.Spec PyProof.Rows
structure DM (K:Frag)(C:Addr)(m q:Str)(st:Stmt)(ps:List Str):Prop where
 ex:∃ f fd,Fun K m q st f fd∧zcZ K fd ps []∧Meth K C m f
structure FM (P:Program)(w:World)(K:Frag)(mg:Str→Option Value)(base:Heap)(C:Addr)(k:Nat)(m:Str)(ps:List Str)(sp:Sp):Prop where
 ex:∃ f fd,FnOk P w K mg base CX0 k f fd ps sp∧zcZ K fd ps []∧Meth K C m f∧∃ oc od osl,K.lookup f=some ⟨oc,od,.func fd,osl⟩
structure DI (K:Frag)(C:Addr)(q:Str)(st:Stmt)(ps:List Str):Prop where
 ex:∃ f fd,Fun K "__init__" q st f fd∧zcZ K fd ps []∧Mk K C f
structure FI (P:Program)(w:World)(K:Frag)(mg:Str→Option Value)(base:Heap)(C:Addr)(k:Nat)(ps:List Str)(sp:Sp):Prop where
 ex:∃ f fd,FnOk P w K mg base CX0 k f fd ps sp∧zcZ K fd ps []∧Mk K C f
section
variable {P:Program}{w:World}{K:Frag}{mg:Str→Option Value}{base:Heap}{C:Addr}{m q:Str}{st:Stmt}{N ps:List Str}{k:Nat}{sp:Sp}
theorem DM.ok (D:DM K C m q st ps)(S:zap N ps (zah st))(len:∀ vs H Q E,sp vs H Q E→vs.length=ps.length)
  (hbody:∀(f:Addr) (cdv:Value) (A:Around) (outer:List Env) (s:Shared) (H:Hp) (vs:List V) (Q:VK) (E:XK),Room k (A.deeper (envOfC q (zah st) s.heap.objs.size f cdv))→sp vs H Q E→
   ∃ t,PSs (cxOf CX0 P w K mg base N q (zah st) f cdv A outer s H E).nox (zaW st) t∧t { nx:=fun _ H'=>Q .non H',rt:=Q } (zcO N vs) H):FM P w K mg base C (k+1) m ps sp:=by
 obtain ⟨f,fd,F,b,me⟩:=D.ex;exact ⟨f,fd,F.ok S len fun cdv A outer s H vs Q E hr h=>hbody f cdv A outer s H vs Q E hr h,b,me,by
  obtain ⟨oc,od,kV,doc,pm,an,cdv,ct,osl,rfl,lk,hcd⟩:=F.ex;exact ⟨oc,od,osl,lk⟩⟩
theorem DI.ok (D:DI K C q st ps)(S:zap N ps (zah st))(len:∀ vs H Q E,sp vs H Q E→vs.length=ps.length)
  (hbody:∀(f:Addr) (cdv:Value) (A:Around) (outer:List Env) (s:Shared) (H:Hp) (vs:List V) (Q:VK) (E:XK),Room k (A.deeper (envOfC q (zah st) s.heap.objs.size f cdv))→sp vs H Q E→
   ∃ t,PSs (cxOf CX0 P w K mg base N q (zah st) f cdv A outer s H E).nox (zaW st) t∧t { nx:=fun _ H'=>Q .non H',rt:=Q } (zcO N vs) H):FI P w K mg base C (k+1) ps sp:=by
 obtain ⟨f,fd,F,b,me⟩:=D.ex;exact ⟨f,fd,F.ok S len fun cdv A outer s H vs Q E hr h=>hbody f cdv A outer s H vs Q E hr h,b,me⟩
end
section
variable {X:Cx}{j k:Nat}{C:Addr}{m x:Str}{ps:List Str}{sp:Sp}{o e:Expr}{es:List Expr}{ta:TE}{t:TA}{p pos apos:Pos}
theorem zir {pl:Sem Bool}(F:FM X.prog X.w X.K X.mg X.base C j m ps sp)(c:Cls X.K C)(hr:Room k X.A)(he:PE X o ta)(ha:PA X (e::es) t)(hjk:j≤k:=by decide)
  (hst:starEach (e::es) X.env=(false,eval e X.env)::starEach es X.env:=by rfl) (hpl:(backTo pos (starEach es X.env)).any (·.1)=false:=by rfl)
  (ht:eval (.Call (.Attribute o m apos) (e::es) [] pos) X.env=(do
   let ov ← eval o X.env
   standAt apos.atName
   let (f,first) ← holding [ov] (getMethod ov m pl)
   callWith pos f first (backTo pos (starEach (e::es) X.env)) (backToKw pos (keywordEach [] X.env))):=by rfl) :
  PE X (.Call (.Attribute o m apos) (e::es) [] pos) (zmX C m sp [] E0 ta t):=by
 obtain ⟨f,fd,ok,b,me,_⟩:=F.ex;exact zpc he c me ok (hr.mono hjk) b .nil zlq ha hst hpl ht
theorem zoz {pl:Sem Bool}(F:FM X.prog X.w X.K X.mg X.base C j m ps sp)(c:Cls X.K C)(hr:Room k X.A)(he:PE X o ta)(hjk:j≤k:=by decide)
  (ht:eval (.Call (.Attribute o m apos) [] [] pos) X.env=(do
   let ov ← eval o X.env
   standAt apos.atName
   let (f,first) ← holding [ov] (getMethod ov m pl)
   callWith pos f first (backTo pos (starEach [] X.env)) (backToKw pos (keywordEach [] X.env))):=by rfl) :
  PE X (.Call (.Attribute o m apos) [] [] pos) (zmX C m sp [] E0 ta tNil):=by
 obtain ⟨f,fd,ok,b,me,_⟩:=F.ex;exact zna he c me ok (hr.mono hjk) b .nil zlq ht
theorem zrJ (F:FI X.prog X.w X.K X.mg X.base C j ps sp)(hr:Room k X.A)(hm:X.mg x=some (.ref C))(ha:PA X (e::es) t)(hjk:j+1≤k:=by decide)(hg:Gl X x:=by rfl)
  (hdb:(x == ("__debug__" : Str))=false:=by decide) (he:starEach (e::es) X.env=(false,eval e X.env)::starEach es X.env:=by rfl) (hpl:(backTo pos (starEach es X.env)).any (·.1)=false:=by rfl) :
  PE X (.Call (.Name x p) (e::es) [] pos) (zqa C sp [] E0 t):=by
 obtain ⟨f,fd,ok,b,me⟩:=F.ex;exact zpd me ok (hr.mono hjk) hg hm b .nil zlq ha hdb he hpl
end
end L2
namespace L2
open PySem PySem.Spec PyProof.Rows
section
variable {X:Cx}
theorem zly (hu:X.A.units+1 < cLine):OpR X (compareOp .NotIn) (fun x y H Q=>∃ a o,y=.ref a∧DGet H a x o∧Q (.bl (!o.isSome)) H):=by
 intro pins s σ H x y v u Q I rx ry h;obtain ⟨a,o,rfl,g,q⟩:=h;cases ry
 exact zpQ hu I g rx fun s' I'=>⟨.bl _,H,I',rfl,q⟩
theorem zj9 {A:Around}(hu:A.units+1 < cLine)(hA:X.A=A:=by rfl):OpR X (compareOp .NotIn) (fun x y H Q=>∃ a o,y=.ref a∧DGet H a x o∧Q (.bl (!o.isSome)) H):=by
 subst hA;exact zly hu
end
end L2
namespace L2
open PySem PySem.Spec PyProof.Rows
section
variable {X:Cx}
def zqu (K:Frag):R2:=fun x y H Q=>∃ a b xs ys,x=.ref a∧y=.ref b∧SqT K H a xs∧SqT K H b ys∧xs.length+ys.length≤sizeLine∧
 (xs=[]→Q (.ref b) H)∧(xs≠[]→(ys=[]→Q (.ref a) H)∧(ys≠[]→∀ p,H p=none→Q (.ref p) (upd H p (.tup (xs++ys)))))
theorem zpi:OpR X (binaryOp .Add) (zqu X.K):=by
 intro pins s σ H x y v u Q I rx ry h;obtain ⟨a,b,xs,ys,e1,e2,ha,hb,hz,q1,q2⟩:=h;by_cases hx:xs=[]
 ·subst e1 e2;cases rx
  cases ry
  obtain ⟨its,r1,p1,_⟩:=I.tuple ha;obtain ⟨its2,r2,p2,_⟩:=I.tuple hb;obtain ⟨⟨cls,dd,data,sl⟩,ho,hc,n,hd⟩:=id p1;obtain ⟨⟨cls2,dd2,data2,sl2⟩,ho2,hc2,n2,hd2⟩:=id p2;simp only at hc hd hc2 hd2;subst hc hd hc2 hd2;have hv:its=[]:=r1.nil_iff.mpr hx;exact concat_meets ⟨_,ho,rfl⟩ ⟨_,ho2,rfl⟩ noFill_tuple_add seq_tuple_add PySem.F.slot_tuple_add PySem.F.entry_tuple_add (PySem.F.args_tuple_add_2 _ _)
   (tuple_addW0 a b its.toArray its2.toArray n n2 dd dd2 sl sl2 (by simp[hv])) ⟨ho,ho2,.ref b,H,I,rfl,q1 hx⟩
 ·exact zfz pins s σ H x y v u Q I rx ry ⟨a,b,xs,ys,e1,e2,ha,hb,hx,hz,fun z=>(q2 hx).1 z,fun z=>(q2 hx).2 z⟩
end
end L2
namespace L2
open PySem PySem.Spec PyProof.Rows
theorem za9.there {P:Program}{w:World}{H:Hp}{h:Heap}{a:Addr}{o:HO}(x:za9 P w H h a o):∃ ob,h.get? a=some ob:=by
 cases o with
 | lst xs=>obtain ⟨_,_,_,_,e⟩:=x;exact ⟨_,e⟩
 | tup xs=>obtain ⟨_,_,_,o,e,_⟩:=x;exact ⟨_,e⟩
 | dK kvs=>obtain ⟨_,_,_,_,o,_,_,e,_⟩:=x;exact ⟨_,e⟩
 | dT kvs=>obtain ⟨_,_,_,_,o,_,_,e,_⟩:=x;exact ⟨_,e⟩
 | set S n=>obtain ⟨o,_,_,_,e,_⟩:=x;exact ⟨_,e⟩
 | ins C dx fs=>obtain ⟨_,_,_,e,_⟩:=x;exact ⟨_,e⟩
 | own y=>obtain ⟨o,e⟩:=x;exact ⟨o,e⟩
 | xd fs=>obtain ⟨_,⟨o,_,_,e,_⟩,_⟩:=x;exact ⟨_,e⟩
 | rng lo hi=>obtain ⟨_,_,_,e⟩:=x;exact ⟨_,e⟩
 | frz ob u=>obtain ⟨e,_⟩:=x;exact ⟨_,e⟩
 | tbl ps=>exact ⟨_,(show h.get? a=some _ from x)⟩
 | met f y=>exact ⟨_,(show h.get? a=some _ from x)⟩
 | ext φ=>obtain ⟨_,⟨o,e⟩,_⟩:=x;exact ⟨o,e⟩
structure Air (P:Program)(w:World)(l:List Env)(H:Hp)(old:Heap)(a:Addr)(cls fl:Value)(H':Hp)(h:Heap):Prop where
 un:Un (frs l) [] H H' old h
 hok:HOk P w H' h
 ua:H' a=none
 na:old.get? a=none
 uf:∀ b∈frs l,H' b=none
 nf:∀ b∈frs l,∃ o,h.get? b=some o∧∀ vs,o.data≠.fields vs
 tr:∃(a0:Value) (oe:Obj) (vs:Array Value) (T:Addr) (oT:Obj) (ts:Array Value),(h.get? a=some oe∧(oe.cls=cls∧vs[0]?=some a0)∧oe.data=.fields vs∧vs[1]?=some (.ref T)∧T≠a∧h.get? T=some oT∧oT.data=.fields ts∧ts[3]?=some fl)∧H' T=none∧old.get? T=none
section
variable {P:Program}{w:World}{l:List Env}{H H':Hp}{old h h':Heap}{a:Addr}{cls fl fl':Value}
theorem Air.step (x:Air P w l H old a cls fl H' h)(hl:∀ B:Heap,(∀ b,b∈frs l→B.get? b=none)→∀ h:Heap,(∀ b∈frs l,∃ o,h.get? b=some o∧∀ vs,o.data≠.fields vs)→h.FunFrames B l) :
  ∃(B:Heap) (a0:Value),B.StaysIn h∧B.get? a=none∧h.FunFrames B l∧h.TracedAtW B a cls a0 fl∧
   ∀(h':Heap) (fl':Value),B.StaysIn h'→h.UpToSlots h'→h'.TracedAtW B a cls a0 fl'→Air P w l H old a cls fl' H' h':=by
 obtain ⟨a0,oe,vs,T,oT,ts,⟨e1,e2,e3,e4,e5,e6,e7,e8⟩,u1,u2⟩:=x.tr;have hB:∀ b o,h.get? b=some o→b≠a→b≠T→b∉frs l→(PySem.W.hideAll h (a::T::frs l)).get? b=some o:=fun b o e n1 n2 n3=>PySem.W.hideAll_get _ e fun hm=>by
  rcases yam.mp hm with z | hm
  ·exact n1 z
  rcases yam.mp hm with z | hm
  ·exact n2 z
  ·exact n3 hm
 refine ⟨PySem.W.hideAll h (a::T::frs l),a0,fun b o q=>PySem.W.of_hideAll _ q,PySem.W.hideAll_none _ yaF,hl _ (fun b hb=>PySem.W.hideAll_none _ (yax _ (yax _ hb))) h x.nf,?_,?_⟩
 ·exact ⟨oe,vs,T,oT,ts,e1,e2,e3,e4,PySem.W.hideAll_none _ (yax _ yaF),e5,e6,e7,e8⟩
 intro h' fl' k1 k2 k3;have kT:∀ b o,h.get? b=some o→b≠a→b≠T→∃ sl,h'.get? b=some { o with slots:=sl }:=fun b o e n1 n2=>by
  by_cases hb:b∈frs l
  ·obtain ⟨o',q,nf⟩:=x.nf b hb;rw[e]at q;cases q
   exact k2 b o e nf
  ·exact ⟨o.slots,k1 b o (hB b o e n1 n2 hb)⟩
 have ne:∀ b u,H' b=some u→b≠a∧b≠T∧b∉frs l:=fun b u e=>⟨zac e x.ua,zac e u1,fun hb=>(by rw[x.uf b hb]at e;cases e)⟩
 have ne2:∀ b o,old.get? b=some o→b≠a∧b≠T:=fun b o e=>⟨fun z=>(by rw[z,x.na]at e;cases e),fun z=>(by rw[z,u2]at e;cases e)⟩
 refine ⟨⟨fun b o e n hb hx=>?_,fun b o e n hb hx=>?_,x.un.free,fun b o e hx=>?_,x.un.tups,x.un.frzs,x.un.tbls⟩,fun b u e=>?_,x.ua,x.na,x.uf,fun b hb=>?_,?_⟩
 ·exact k1 b o (hB b o (x.un.keep b o e n hb hx) (ne2 b o e).1 (ne2 b o e).2 hb)
 ·obtain ⟨sl,q⟩:=x.un.slot b o e n hb hx;obtain ⟨sl',q'⟩:=kT b _ q (ne2 b o e).1 (ne2 b o e).2;exact ⟨sl',q'⟩
 ·obtain ⟨o',q⟩:=x.un.there b o e hx;obtain ⟨sl',q'⟩:=kT b _ q (ne2 b o e).1 (ne2 b o e).2;exact ⟨_,q'⟩
 ·refine (x.hok b u e).stay (fun c v hc q=>?_) (fun _ q=>q) fun _ _ q=>q;have hc':∃ z,H' c=some z:=by
   rcases hc with rfl | z
   ·exact ⟨_,e⟩
   ·exact ⟨_,z⟩
  obtain ⟨z,ez⟩:=hc';exact k1 c v (hB c v q (ne c z ez).1 (ne c z ez).2.1 (ne c z ez).2.2)
 ·obtain ⟨o,q,nf⟩:=x.nf b hb;obtain ⟨sl,q'⟩:=k2 b o q nf;exact ⟨_,q',nf⟩
 ·obtain ⟨oe',vs',T',oT',ts',f1,f2,f3,f4,f5,f6,f7,f8,f9⟩:=k3;have hnT:T'∉frs l:=fun hb=>by
   obtain ⟨o,q,nf⟩:=x.nf T' hb;obtain ⟨sl,q'⟩:=k2 T' o q nf;rw[f7]at q';cases q'
   exact nf _ f8
  have hno:∀ o,h.get? T'=some o→T'=T:=fun o e=>Decidable.byContradiction fun z=>by
   rw[hB T' o e f6 z hnT]at f5;cases f5
  refine ⟨a0,oe',vs',T',oT',ts',⟨f1,f2,f3,f4,f6,f7,f8,f9⟩,?_,?_⟩
  ·cases e:H' T' with
   | none=>rfl
   | some u=>
    obtain ⟨o,q⟩:=(x.hok T' u e).there;rw[hno o q,u1]at e;cases e
  ·cases e:old.get? T' with
   | none=>rfl
   | some o=>
    obtain ⟨o',q⟩:=x.un.there T' o e (by simp);rw[hno o' q,u2]at e;cases e
end
theorem zen {base h0:Heap}:∀{l:List Env},h0.FunFrames base l→∀ B h:Heap,(∀ b,b∈frs l→B.get? b=none)→(∀ b∈frs l,∃ o,h.get? b=some o∧∀ vs,o.data≠.fields vs)→h.FunFrames B l
 | [],_,_,_,_,_=>trivial
 | env::r,⟨hk,⟨L,o,hf,_,_,_⟩,hr⟩,B,h,hB,hh=>by
  have e:frs (env::r)=L::frs r:=by unfold frs;rw[ybw,hf]
  rw[e]at hB hh;obtain ⟨o',q,nf⟩:=hh L yaF;exact ⟨hk,⟨L,o',hf,hB L yaF,q,nf⟩,zen hr B h (fun b hb=>hB b (yax _ hb)) fun b hb=>hh b (yax _ hb)⟩
def CXE (P:Program)(w:World):CXT:=fun outer H s E e s'=>∃(a:Addr) (cls:Value) (H':Hp),e=.ref a∧s'.os=s.os∧AllBare s'.gens∧Air P w outer H s.heap a cls .none H' s'.heap∧E cls none H'
section
variable {P:Program}{w:World}{K:Frag}{mg:Str→Option Value}{base:Heap}{N:List Str}{q:Str}{sc:Scope}{f:Addr}{cd:Value}{A:Around}{outer:List Env}{s0:Shared}{H0:Hp}{E:XK}
abbrev cxE (P:Program)(w:World)(K:Frag)(mg:Str→Option Value)(base:Heap)(N:List Str)(q:Str)(sc:Scope)(f:Addr)(cd:Value)(A:Around)(outer:List Env)(s0:Shared)(H0:Hp)(E:XK):Cx:=cxOf (CXE P w) P w K mg base N q sc f cd A outer s0 H0 E
theorem zrh {X:Cx}{pins:List (Addr×Obj)}{σ:St}{H:Hp}{s:Shared}(I:Inv X pins σ H s):∀ b∈frs X.stack,∃ o,s.heap.get? b=some o∧∀ vs,o.data≠.fields vs:=fun b hb=>(I.stack.mem hb).2
theorem Air.out {pins:List (Addr×Obj)}{σ:St}{H H':Hp}{s:Shared}{h:Heap}{a:Addr}{cls fl:Value}(I:Inv (cxE P w K mg base N q sc f cd A outer s0 H0 E) pins σ H s)(x:Air P w (envOfC q sc s0.heap.objs.size f cd::outer) H s.heap a cls fl H' h):Air P w outer H0 s0.heap a cls fl H' h:=by
 have ef:frs (envOfC q sc s0.heap.objs.size f cd::outer)=s0.heap.objs.size::frs outer:=rfl;have nl:∀ b o,s0.heap.get? b=some o→b≠s0.heap.objs.size:=fun b o e=>yao (yaf e);have nx:∀ b:Addr,b∉(cxE P w K mg base N q sc f cd A outer s0 H0 E).ex:=fun b z=>absurd (show b∈([]:List Addr) from z) (by simp);obtain ⟨a0,oe,vs,T,oT,ts,tr,u1,u2⟩:=x.tr;have old:∀ b,s.heap.get? b=none→s0.heap.get? b=none:=fun b e=>by
  cases z:s0.heap.get? b with
  | none=>rfl
  | some o=>
   obtain ⟨o',e'⟩:=I.base.there b o z (nx b);rw[e]at e';cases e'
 refine ⟨⟨fun b o e n hb hx=>?_,fun b o e n hb hx=>?_,fun b o e n hx=>?_,fun b o e hx=>?_,fun b xs e=>x.un.tups b xs (I.base.tups b xs e),fun b o u e=>x.un.frzs b o u (I.base.frzs b o u e),fun b ps e=>?_⟩,x.hok,x.ua,old a x.na,fun b hb=>x.uf b (by rw[ef];exact yax _ hb),fun b hb=>x.nf b (by rw[ef];exact yax _ hb),a0,oe,vs,T,oT,ts,tr,u1,old T u2⟩
 ·exact x.un.keep b o (I.base.keep b o e n hb (nx b)) (I.base.free b o e n (nx b)) (by rw[ef];exact fun z=>(yam.mp z).elim (nl b o e) hb) hx
 ·obtain ⟨sl,e1⟩:=I.base.slot b o e n hb (nx b);obtain ⟨sl',e2⟩:=x.un.slot b _ e1 (I.base.free b o e n (nx b)) (by rw[ef];exact yax _ hb) hx;exact ⟨sl',e2⟩
 ·obtain ⟨o',e'⟩:=I.base.there b o e (nx b);exact x.un.free b o' e' (I.base.free b o e n (nx b)) hx
 ·obtain ⟨o',e'⟩:=I.base.there b o e (nx b);exact x.un.there b o' e' hx
 ·obtain ⟨m1,e1⟩:=I.base.tbls b ps e;obtain ⟨m2,e2⟩:=x.un.tbls b _ e1;exact ⟨m1++m2,by rw[e2,Array.append_assoc]⟩
theorem zpg:zdO (CXE P w) (cxE P w K mg base N q sc f cd A outer s0 H0 E) E:=by
 intro pins σ H s e s' I h;obtain ⟨a,cls,H',rfl,ho,hb,x,hE⟩:=h;obtain ⟨B,a0,b1,b2,b3,b4,next⟩:=x.step fun B hB h hh=>zen I.stack B h hB hh
 show wpAny _ _ (leaving _ _) _ _ _;refine wpAny_leaves_onW (base:=B) (cls:=cls) (a0:=a0) I.ok.frames rfl ⟨b1,b2,b3,b4⟩ fun h' k1 k2=>?_;exact ⟨a,cls,H',rfl,ho.trans I.os,hb,(next h' .none k1.1 k2 k1.2.2.2).out I,hE⟩
theorem zp5 {pins:List (Addr×Obj)}{σ:St}{H:Hp}{s:Shared}{h':Heap}{a:Addr}{cls:Value}{vs:List Value}(I:Inv (cxE P w K mg base N q sc f cd A outer s0 H0 E) pins σ H s)(m:Heap.MadeExcOf s.heap h' a cls vs)(hE:E cls none H) :
  (cxE P w K mg base N q sc f cd A outer s0 H0 E).xe (.ref a) { s with heap:=h' }:=by
 have hin:=zrh I;have hB:∀ b o,s.heap.get? b=some o→b∉frs (envOfC q sc s0.heap.objs.size f cd::outer)→(PySem.W.hideAll s.heap (frs (envOfC q sc s0.heap.objs.size f cd::outer))).get? b=some o:=fun b o e n=>PySem.W.hideAll_get _ e n;show wpAny _ _ (leaving _ _) _ _ _;refine wpAny_leaves_madeW (base:=PySem.W.hideAll s.heap (frs (envOfC q sc s0.heap.objs.size f cd::outer))) I.ok.frames rfl (fun b o q=>PySem.W.of_hideAll _ q) (zen I.stack _ _ (fun b hb=>PySem.W.hideAll_none _ hb) hin) m fun h2 t k1 k2 k3 k4=>?_;obtain ⟨k11,k12,k13,oe,ws,T,oT,ts,f1,f2,f3,f4,f5,f6,f7,f8,f9⟩:=k1;have kT:∀ b o,s.heap.get? b=some o→∃ sl,h2.get? b=some { o with slots:=sl }:=fun b o e=>by
  by_cases hb:b∈frs (envOfC q sc s0.heap.objs.size f cd::outer)
  ·obtain ⟨o',z,nf⟩:=hin b hb;rw[e]at z;cases z
   exact k4 b o (m.keeps b o e) nf
  ·exact ⟨o.slots,k11 b o (hB b o e hb)⟩
 have trk:∀ b u,H b=some u→∃ o,s.heap.get? b=some o∧b∉frs (envOfC q sc s0.heap.objs.size f cd::outer):=fun b u e=>by
  obtain ⟨o,z⟩:=(I.hok b u e).there;exact ⟨o,z,fun hb=>(by rw[I.stkFree b hb]at e;cases e)⟩
 have hnT:T∉frs (envOfC q sc s0.heap.objs.size f cd::outer):=fun hb=>by
  obtain ⟨o,z,nf⟩:=hin T hb;obtain ⟨sl,z'⟩:=kT T o z;rw[f7]at z';cases z'
  exact nf _ f8
 have x:Air P w (envOfC q sc s0.heap.objs.size f cd::outer) H s.heap a cls .none H h2:=by
  refine ⟨⟨fun b o e n hb hx=>k11 b o (hB b o e hb),fun b o e n hb hx=>kT b o e,fun b o e n hx=>n,fun b o e hx=>?_,fun b xs e=>e,fun b o u e=>e,fun b ps e=>⟨#[],by rw[e];simp⟩⟩,fun b u e=>?_,?_,m.new,I.stkFree,fun b hb=>?_,.ref t,oe,ws,T,oT,ts,⟨f1,f2,f3,f4,f6,f7,f8,f9⟩,?_,?_⟩
  ·obtain ⟨sl,z⟩:=kT b o e;exact ⟨_,z⟩
  ·refine (I.hok b u e).stay (fun c v hc z=>?_) (fun _ q=>q) fun _ _ q=>q;have hc':∃ y,H c=some y:=by
    rcases hc with rfl | y
    ·exact ⟨_,e⟩
    ·exact ⟨_,y⟩
   obtain ⟨y,ey⟩:=hc';obtain ⟨o,_,n⟩:=trk c y ey;exact k11 c v (hB c v z n)
  ·cases e:H a with
   | none=>rfl
   | some u=>
    obtain ⟨o,z,_⟩:=trk a u e;rw[m.new]at z;cases z
  ·obtain ⟨o,z,nf⟩:=hin b hb;obtain ⟨sl,z'⟩:=kT b o z;exact ⟨_,z',nf⟩
  ·cases e:H T with
   | none=>rfl
   | some u=>
    obtain ⟨o,z,n⟩:=trk T u e;rw[hB T o z n]at f5;cases f5
  ·cases e:s.heap.get? T with
   | none=>rfl
   | some o=>
    rw[hB T o e hnT]at f5;cases f5
 exact ⟨a,cls,H,rfl,I.os,I.bare,x.out I,hE⟩
end
end L2
namespace L2
open PySem PySem.Spec PyProof.Rows
abbrev zkK:List Value:=[.type "ValueError",.type "Exception",.type "BaseException",.type "object"]
theorem zpN {K:Frag}{h:Heap}{C:Addr}{bmB:List Value}{newId:String}(X:K.In h)(q:PySem.W.excIn K C bmB newId=true) :
  ∃ bm N nm qn bs hdct sn sub ab col dd k0 k1 k2 k3 k5,∃ mN:Str→Option Value,h.get? C=some (excClassObj nm qn C N bs bm hdct sn sub ab col dd k0 k1 k2 k3 k5 newId)∧h.Ns N mN∧mN "__init__" = none∧OwnTail h bmB bm:=by
 unfold PySem.W.excIn at q;split at q
 rotate_left
 ·exact absurd q (by decide)
 rename_i dct cdt slots hlook;split at q
 rotate_left
 ·exact absurd q (by decide)
 rename_i C2 tail s0 s1 s2 s3 nid s5 hmro hslots;simp only[ybn,beq_iff_eq,ybC]at q;obtain ⟨⟨⟨⟨⟨z1,z2⟩,z3⟩,z4⟩,z5⟩,z6⟩:=q;subst z1 z2;obtain ⟨cnm,cbs,cmro,cns,cqn,chd,csn,csub,cab,ccol,cdel⟩:=cdt;dsimp only at hmro z3 z5 z6;subst hmro z3;obtain ⟨ls⟩:=slots;dsimp only at hslots;subst hslots;exact ⟨tail,cns,cnm,cqn,cbs,chd,csn,csub,cab,ccol,dct,s0,s1,s2,s3,s5,_,X _ _ hlook,.of_isNs (PySem.W.isNs_of_in X z5),PySem.W.nsMap_none_of_in X z5 z6,PySem.W.tail_of_in X z4⟩
structure Exc (K:Frag)(mg:Str→Option Value)(x:Str)(C:Addr):Prop where
 nm:mg x=some (.ref C)
 ex:PySem.W.excIn K C zkK "ValueError.__new__" = true
def Thr (X:Cx)(E:XK):Prop:=∀(pins:List (Addr×Obj)) (σ:St) (H:Hp) (s:Shared) (h':Heap) (a:Addr) (cls:Value) (vs:List Value),Inv X pins σ H s→Heap.MadeExcOf s.heap h' a cls vs→E cls none H→X.xe (.ref a) { s with heap:=h' }
theorem thrX {P:Program}{w:World}{K:Frag}{mg:Str→Option Value}{base:Heap}{N:List Str}{q:Str}{sc:Scope}{f:Addr}{cd:Value}{A:Around}{outer:List Env}{s0:Shared}{H0:Hp}{E:XK}:Thr (cxE P w K mg base N q sc f cd A outer s0 H0 E) E:=fun _ _ _ _ _ _ _ _ I m hE=>zp5 I m hE
def zp8 (C:Addr)(E:XK)(t:TA):TS:=fun _ σ H=>t σ H fun vs H1=>vs.length≤sizeLine∧E (.ref C) none H1
section
variable {X:Cx}{x:Str}{C:Addr}{E:XK}{e:Expr}{es:List Expr}{t:TA}{np cpos pos:Pos}
theorem zfg (O:Exc X.K X.mg x C)(hT:Thr X E)(hc:X.calm=true)(hg:Gl X x)(ha:PA X (e::es) t)(hd:(x == ("__debug__" : Str))=false:=by decide)(he:starEach (e::es) X.env=(false,eval e X.env)::starEach es X.env:=by rfl)(hpl:(backTo cpos (starEach es X.env)).any (·.1)=false:=by rfl) :
  PS X (.Raise (some (.Call (.Name x np) (e::es) [] cpos)) none pos) (zp8 C E t):=by
 intro pins s σ H D I h;obtain ⟨bm,Nn,nm,qn,bs,hdct,sn,sub,ab,col,dd,k0,k1,k2,k3,k5,mN,hC,hN,hni,T⟩:=zpN I.mod.kin O.ex;refine wpAny_Raise_call_subT (C:=C) (nm:=nm) (q:=qn) (N:=Nn) (bs:=bs) (bm:=bm) (hdct:=hdct) (sn:=sn) (sub:=sub) (ab:=ab) (col:=col) (dd:=dd) (k0:=k0) (k1:=k1) (k2:=k2) (k3:=k3) (k5:=k5)
  F.excBase_ValueError (mN:=mN) (T.hasType F.excBase_ValueError.hasBase) (I.ok.hd hc) (by rw[he];exact hpl) hni (zdU I hg O.nm ⟨rfl,?_⟩ hd)
 have h1:=ha cpos pins s σ H _ I h;rw[he]at h1 ⊢;refine Calls.evalArgs_plain (thn h1 fun us s1 zq0=>?_);obtain ⟨vs,H1,I1,r,hl,hE⟩:=zq0;exact ⟨rfl,by rw[← r.length];exact hl,I1.bk _ _ hC,hN.keeps I1.bk,T.keeps I1.bk,fun h' a m=>hT pins σ H1 s1 h' a _ _ I1 m hE⟩
end
structure FX (P:Program)(w:World)(K:Frag)(mg:Str→Option Value)(base:Heap)(k:Nat)(x:Str)(ps:List Str)(sp:Sp):Prop where
 ex:∃ f fd,FnOk P w K mg base (CXE P w) k f fd ps sp∧zcZ K fd ps []∧keepIn K (.ref f)=true∧mg x=some (.ref f)∧∃ oc od osl,K.lookup f=some ⟨oc,od,.func fd,osl⟩
theorem DF.okx {P:Program}{w:World}{K:Frag}{mg:Str→Option Value}{base:Heap}{x:Str}{st:Stmt}{N ps:List Str}{k:Nat}{sp:Sp}(D:DF K mg x st ps)(S:zap N ps (zah st))(len:∀ vs H Q E,sp vs H Q E→vs.length=ps.length)
  (hbody:∀(f:Addr) (cdv:Value) (A:Around) (outer:List Env) (s:Shared) (H:Hp) (vs:List V) (Q:VK) (E:XK),Room k (A.deeper (envOfC x (zah st) s.heap.objs.size f cdv))→sp vs H Q E→
   ∃ t,PSs (cxE P w K mg base N x (zah st) f cdv A outer s H E) (zaW st) t∧t { nx:=fun _ H'=>Q .non H',rt:=Q } (zcO N vs) H):FX P w K mg base (k+1) x ps sp:=by
 obtain ⟨f,fd,F,b,m⟩:=D.ex;obtain ⟨oc,od,kV,doc,pm,an,cdv,ct,osl,rfl,lk,hcd⟩:=F.ex;exact ⟨f,_,znU lk hcd S len fun A outer s H vs Q E hr hsp=>hbody f cdv A outer s H vs Q E hr hsp,b,F.kp,m,oc,od,osl,lk⟩
section
variable {X:Cx}{j k:Nat}{x:Str}{ps:List Str}{sp:Sp}{e:Expr}{es:List Expr}{t:TA}{p pos:Pos}{E:XK}
theorem zro (F:FX X.prog X.w X.K X.mg X.base j x ps sp)(hr:Room k X.A)(ha:PA X.nox (e::es) t){pins:List (Addr×Obj)}{s:Shared}{σ:St}{H:Hp}{Q:VK}(I:Inv X pins σ H s)(h:t σ H fun vs H1=>sp vs H1 Q E)(hjk:j≤k:=by decide)(hg:Gl X x:=by rfl)
  (hdb:(x == ("__debug__" : Str))=false:=by decide) (he:starEach (e::es) X.env=(false,eval e X.env)::starEach es X.env:=by rfl) (hpl:(backTo pos (starEach es X.env)).any (·.1)=false:=by rfl) :
  wpAny (model X.prog X.w) X.A (eval (.Call (.Name x p) (e::es) [] pos) X.env) (EP X pins σ Q) (fun er s'=>∃ H1 s1,Inv X pins σ H1 s1∧CXE X.prog X.w X.stack H1 s1 E er s') s:=by
 obtain ⟨f,fd,ok,b,kp,m,_⟩:=F.ex;refine wpAny_Call_Name_kw (zdU I hg m ?_ hdb);refine PySem.W.callWith_K (h₀:=X.base) I.ok.mod.kin kp (wpAny_mono (ha pos pins s σ H _ (I.wish _) h) (fun us s1 zq0=>?_) fun _ _ z=>z.elim) he hpl;obtain ⟨vs,H1,I1,r,q⟩:=zq0;refine ⟨I1.kIn,?_⟩;have I1':Inv X pins σ H1 s1:=I1.unwish;have hl:(us++[]).length=ps.length:=by rw[yay,← r.length];exact ok.len _ _ _ _ q
 have hb:=b s1 us I1'.kIn hl;rw[yay]at hb;refine wpAny_call (codeAny_mono (ok.run X.A X.stack s1 H1 ⟨us,[]⟩ us vs Q E (hr.mono hjk) I1'.env0 hb r q) fun res s' hq=>?_);cases res with
 | error er=>exact ⟨H1,s1,I1',hq⟩
 | ok fl=>
  cases fl with
  | ret u=>exact I1'.after hq
  | next=>exact False.elim hq
  | brk=>exact False.elim hq
  | cont=>exact False.elim hq
theorem zoA (F:FX X.prog X.w X.K X.mg X.base j x ps sp)(hr:Room k X.A)(hP:zdO (CXE X.prog X.w) X E)(ha:PA X.nox (e::es) t)(hjk:j≤k:=by decide)(hg:Gl X x:=by rfl)
  (hdb:(x == ("__debug__" : Str))=false:=by decide) (he:starEach (e::es) X.env=(false,eval e X.env)::starEach es X.env:=by rfl) (hpl:(backTo pos (starEach es X.env)).any (·.1)=false:=by rfl):PE X (.Call (.Name x p) (e::es) [] pos) (zoW sp [] E t):=by
 intro pins s σ H Q I h;refine wpAny_mono (zro F hr ha I (Q:=Q) (E:=E) ?_ hjk hg hdb he hpl) (fun _ _ q=>q) fun er s' zq0=>(by obtain ⟨H1,s1,I1,q⟩:=zq0;exact hP pins σ H1 s1 er s' I1 q);have e1:(fun vs H1=>sp (vs++[]) H1 Q E)=fun vs H1=>sp vs H1 Q E:=by funext vs H1;rw[yay]
 have h':t σ H fun vs H1=>sp (vs++[]) H1 Q E:=h;rw[e1]at h';exact h'
end
end L2
namespace L2
open PySem PySem.Spec PyProof.Rows
def zhW (a:Addr)(cls:Value):HO:=.ext fun h=>∃ oe vs,h.get? a=some oe∧oe.cls=cls∧oe.data=.fields vs
def Cx.inH (X:Cx)(a:Addr):Cx:={ X with A:=X.A.mark (some (.ref a)),calm:=false,xe:=fun _ _=>False }
section
variable {X:Cx}{pins:List (Addr×Obj)}{σ:St}{H H':Hp}{s:Shared}
theorem Inv.inH (I:Inv X pins σ H s)(a:Addr):Inv (X.inH a) pins σ H s:=
 ⟨⟨I.ok.mod,I.ok.kind,I.ok.glob,I.ok.blt,I.ok.above,I.ok.inj,I.ok.has,I.ok.cab,(fun z=>nomatch z),I.ok.frames,I.ok.stk,I.ok.exf,I.ok.bs,I.ok.bsz,I.ok.noex,I.ok.exfs,I.ok.funs,I.ok.frf⟩,I.os,I.bare,I.base,I.loc,I.cell,I.free,I.freeC,I.pin,I.hok,I.len⟩
theorem Inv.outH {a:Addr}(hh:X.calm=true→X.A.handled=none)(I:Inv (X.inH a) pins σ H s):Inv X pins σ H s:=
 ⟨⟨I.ok.mod,I.ok.kind,I.ok.glob,I.ok.blt,I.ok.above,I.ok.inj,I.ok.has,I.ok.cab,hh,I.ok.frames,I.ok.stk,I.ok.exf,I.ok.bs,I.ok.bsz,I.ok.noex,I.ok.exfs,I.ok.funs,I.ok.frf⟩,I.os,I.bare,I.base,I.loc,I.cell,I.free,I.freeC,I.pin,I.hok,I.len⟩
theorem Inv.unname {i:Nat}{x:Str}{m:Str→Option Value}{h':Heap}{v:Option Value}{tk:Nat}(I:Inv X pins σ H s)(hN:X.N.Nodup)(hi:X.N[i]?=some x)(hn:s.heap.Ns X.env.locals m)(hn':h'.Ns X.env.locals (fun y=>if y=x then v else m y))(hs:Heap.SameBut X.env.locals s.heap h') :
  Inv X pins (σ.set i none) H { s with heap:=h',toks:=tk }:=by
 obtain ⟨m0,hn0,hl⟩:=id I.loc;have em:m0=m:=by
  funext y
  obtain ⟨o,es,ep,a1,a2,a3,a4⟩:=hn0;obtain ⟨o',es',ep',b1,b2,b3,b4⟩:=hn;rw[a1]at b1;cases b1
  rw[a2]at b2;cases b2
  rw[← a4 y,← b4 y]
 subst em;have ab:∀ b o,X.s₀.heap.get? b=some o→b≠X.env.locals:=fun b o e=>yao (yaw (yaf e) I.ok.above);have trk:∀ b u,H b=some u→b≠X.env.locals:=fun b u e=>zac e I.free;refine ⟨I.ok,I.os,I.bare,⟨fun b o e n hb hx=>(hs.2 b (ab b o e)).trans (I.base.keep b o e n hb hx),fun b o e n hb hx=>?_,I.base.free,fun b o e hx=>?_,I.base.tups,I.base.frzs,I.base.tbls⟩,⟨_,hn',fun j y u e1 e2 e3=>?_⟩,fun y c e=>?_,I.free,I.freeC,fun p hp=>?_,fun b u e=>?_,by simpa using I.len⟩
 ·obtain ⟨sl,e1⟩:=I.base.slot b o e n hb hx;exact ⟨sl,(hs.2 b (ab b o e)).trans e1⟩
 ·obtain ⟨o',e1⟩:=I.base.there b o e hx;exact ⟨o',(hs.2 b (ab b o e)).trans e1⟩
 ·have hj:j≠i:=fun z=>by
   subst z;rw[ybu]at e2;simp at e2
  rw[ycs (Ne.symm hj)]at e2;obtain ⟨u',r',q⟩:=hl j y u e1 e2 e3;have hyx:y≠x:=fun z=>hj (zg9 hN e1 (z ▸ hi));refine ⟨u',r',?_⟩;rcases q with ⟨k,e⟩ | ⟨k,c,e,z⟩
  ·exact .inl ⟨k,by simp[hyx,e]⟩
  ·exact .inr ⟨k,c,e,z.sameBut hs (I.cne y c e)⟩
 ·obtain ⟨w',z⟩:=I.cell y c e;exact ⟨w',z.sameBut hs (I.cne y c e)⟩
 ·obtain ⟨e,n,ne,nf,d⟩:=I.pin p hp;exact ⟨(hs.2 p.1 ne).trans e,n,ne,nf,d⟩
 ·refine (I.hok b u e).stay (fun c w' hc q=>(hs.2 c ?_).trans q) (fun _ q=>q) fun _ _ q=>q;rcases hc with rfl | z
  ·exact trk _ _ e
  ·exact trk _ _ z
theorem Air.held {H1:Hp}{s1 s':Shared}{h:Heap}{a:Addr}{cls fl:Value}(I:Inv X pins σ H1 s1)(ho:s'.os=s1.os)(hg:AllBare s'.gens)(x:Air X.prog X.w X.stack H1 s1.heap a cls fl H' h)(tk:Nat):Inv X pins σ (upd H' a (zhW a cls)) { s' with heap:=h,toks:=tk }:=by
 obtain ⟨a0,oe,vs,T,oT,ts,⟨e1,e2,e3,_⟩,_,_⟩:=x.tr;have nt:∀ b u,H' b=some u→b≠a:=fun b u e=>zac e x.ua;have un:Un (frs X.stack) [] H1 (upd H' a (zhW a cls)) s1.heap h:=by
  refine ⟨x.un.keep,x.un.slot,fun b o e n hx=>?_,x.un.there,fun b xs e=>?_,fun b o u e=>?_,fun b ps e=>?_⟩
  ·rw[zag (fun z=>by rw[z,x.na]at e;cases e)]
   exact x.un.free b o e n hx
  ·have:=x.un.tups b xs e;rw[zag (nt b _ this)];exact this
  ·have:=x.un.frzs b o u e;rw[zag (nt b _ this)];exact this
  ·obtain ⟨m,this⟩:=x.un.tbls b ps e;exact ⟨m,by rw[zag (nt b _ this)];exact this⟩
 have hok:HOk X.prog X.w (upd H' a (zhW a cls)) h:=fun b u e=>by
  by_cases hb:b=a
  ·subst hb;rw[zab]at e;cases e
   exact ⟨⟨oe,vs,e1,e2.1,e3⟩,⟨oe,e1⟩,fun h1 h2 zq0 k=>(by obtain ⟨o,ws,z1,z2,z3⟩:=zq0;exact ⟨o,ws,k o z1,z2,z3⟩)⟩
  ·rw[zag hb]at e;refine (x.hok b u e).stay (fun c v _ q=>q) (fun c q=>by rw[zag (nt c _ q)];exact q) fun c xs q=>by rw[zag (nt c _ q)];exact q
 obtain ⟨hh,g,d,t,os⟩:=s';obtain rfl:os=s1.os:=ho;have J:=I.call (h':=h) (g':=g) (d':=d) (t':=tk) (ch:=[]) un hok hg (fun b z=>absurd z (by simp));exact J
theorem Air.inv {H1:Hp}{s1 s':Shared}{h:Heap}{a:Addr}{cls fl:Value}(I:Inv X pins σ H1 s1)(ho:s'.os=s1.os)(hg:AllBare s'.gens)(x:Air X.prog X.w X.stack H1 s1.heap a cls fl H' h)(tk:Nat):Inv X pins σ H' { s' with heap:=h,toks:=tk }:=by
 obtain ⟨hh,g,d,t,os⟩:=s';obtain rfl:os=s1.os:=ho;have J:=I.call (h':=h) (g':=g) (d':=d) (t':=tk) (ch:=[]) x.un x.hok hg (fun b z=>absurd z (by simp));exact J
end
structure zdY (K:Frag)(C D:Addr):Prop where
 sub:mroIn K C (.ref D)=some true
 cls:(PySem.W.clsIn K D).isSome=true
 ty:PySem.W.typeIn K (.ref D)=some (.type "type")
 exc:mroIn K D (.type "BaseException")=some true
theorem zmn {K:Frag}{prog:Program}{w:World}{A:Around}{E:Value→Shared→Prop}{s:Shared}{a C D:Addr}{oe:Obj}{Q:Bool→Shared→Prop}(X:K.In s.heap)(c:zdY K C D)(he:s.heap.get? a=some oe)(hc:oe.cls=.ref C)(q:Q true s):wpAny (model prog w) A (excMatches (.ref a) (.ref D)) Q E s:=by
 obtain ⟨hh,g,d,t,os⟩:=s;have L1:PySem.W.Looks (model prog w) hh (isInstance (.ref D) (.type "tuple")) false:=(PySem.W.looks_typeIn X c.ty).andThen (PySem.W.Looks.of_pure (by rw[isSubtype_type];kernel_rfl));have L2:PySem.W.Looks (model prog w) hh (isType (.ref D)) true:=by
  obtain ⟨cd,hcd⟩:=yb3.mp c.cls;unfold PySem.W.clsIn at hcd;split at hcd
  ·rename_i ho;intro A' Q' E' s' k z;unfold isType loadHead;exact wpAny_bind (wpAny_loadPart (k _ _ (X _ _ ho)) (wpAny_pure z))
  ·cases hcd
 have L3:=PySem.W.looks_mroIn (M:=model prog w) X c.exc;have L4:PySem.W.Looks (model prog w) hh (typeOf (.ref a)) (.ref C):=hc ▸ (PySem.W.Looks.ld he).andThen .now;have L5:=PySem.W.looks_mroIn (M:=model prog w) X c.sub;unfold excMatches;refine wpAny_bind (L1.at ?_);simp only[yaK,if_false];refine wpAny_bind (wpAny_pure ?_);simp only[List.forIn_cons,List.forIn_nil];refine wpAny_bind (wpAny_bind (wpAny_bind (m:=isExcClass _) ?_));unfold isExcClass;refine wpAny_bind (L2.at ?_);simp only[if_true];refine L3.at ?_;simp only[ybR,yaK,if_false];refine wpAny_pure (wpAny_pure ?_);refine wpAny_bind (L4.at ?_);refine wpAny_bind (wpAny_bind (wpAny_bind (L5.at ?_)));simp only[if_true];exact wpAny_pure (wpAny_pure (wpAny_pure q))
end L2
namespace L2
open PySem PySem.Spec PyProof.Rows
def PX (X:Cx)(e:Expr)(t:XK→TE):Prop:=∀(E:XK) (pins:List (Addr×Obj)) (s:Shared) (σ:St) (H:Hp) (Q:VK),Inv X pins σ H s→t E σ H Q→
 wpAny (model X.prog X.w) X.A (eval e X.env) (EP X pins σ Q) (fun er s'=>∃ H1 s1,Inv X pins σ H1 s1∧CXE X.prog X.w X.stack H1 s1 E er s') s
def hndE (K:Frag)(D:Addr)(i:Nat)(ts:TS)(De:Ends)(σ:St):XK:=fun cls _ H'=>∃ C,cls=.ref C∧zdY K C D∧
 ∀ a,H' a=none→ts { nx:=fun σ2 H2=>De.nx (σ2.set i none) H2,rt:=fun _ _=>False } (σ.set i (some (.ref a))) (upd H' a (zhW a cls))
def zrv (K:Frag)(D:Addr)(i:Nat)(ts:TS)(tc:XK→TE):TS:=fun De σ H=>tc (hndE K D i ts De σ) σ H fun _ H'=>De.nx σ H'
section
variable {X:Cx}{i:Nat}{n c:Str}{D:Addr}{b0:Stmt}{bs:List Stmt}{ts:TS}{np hpos:Pos}
theorem zn3 (hst:X.stack=X.env::X.outer)(hf:X.env.frame=some X.env.locals)(hN:X.N.Nodup)(hi:X.N[i]?=some n)(hx:X.env.scope.names.lookup n=some .local)(hm:X.mg c=some (.ref D))(hg:Gl X c)(suite:∀ a,PSs (X.inH a) (b0::bs) ts)(hdb:(c == ("__debug__" : Str))=false)
  {De:Ends} {pins:List (Addr×Obj)} {σ:St} {H1:Hp} {s1 s':Shared} {er:Value} (I1:Inv X pins σ H1 s1) (q:CXE X.prog X.w X.stack H1 s1 (hndE X.K D i ts De σ) er s') :
  wpAny (model X.prog X.w) X.A (noteFrame er X.env) (fun _ s2=>wpAny (model X.prog X.w) X.A (setFlight er none) (fun _ s3=>wpAny (model X.prog X.w) X.A (handleBy er X.env [.ExceptHandler (some (.Name c np)) (some n) (b0::bs) hpos]) (SP X pins De) X.xe s3) X.xe s2) X.xe s':=by
 obtain ⟨a,cls,H',rfl,ho,hb,x,C,rfl,cat,hq⟩:=q;have fo:=fun B h hB hh=>zen I1.stack B h hB hh;obtain ⟨B,a0,b1,b2,b3,b4,next⟩:=x.step fun B hB h hh=>fo B h hB hh
 refine wpAny_looks_onW (base:=B) (cls:=.ref C) (a0:=a0) (env:=X.env) (outer:=X.outer) (by rw[I1.ok.frames,hst]) hf ⟨b1,b2,hst ▸ b3,b4⟩ fun h4 k1 k2=>?_;have x4:=next h4 _ k1.1 k2 k1.2.2.2
 obtain ⟨B',a1,c1,c2,c3,c4,next'⟩:=x4.step fun B hB h hh=>fo B h hB hh
 refine wpAny_landsW (base:=B') (l:=X.stack) (cls:=.ref C) (a0:=a1) (L:=X.env.locals) ⟨c1,c2,c3,c4⟩ fun h5 k3 k4=>?_;have x5:=next' h5 .none k3.1 k4 k3.2.2.2
 have J5:Inv (X.inH a) pins σ H' { s' with heap:=h5 }:=(x5.inv I1 ho hb s'.toks).inH a;refine wpAny_handleBy_cons (codeAny_handlers_test ?_) (by intro z;cases z)
 refine zdU (X:=X.inH a) J5 hg hm ?_ hdb;obtain ⟨_,oe,vs,T,oT,tt,⟨e1,e2,_⟩,_,_⟩:=x5.tr;refine zmn (K:=X.K) J5.kIn cat e1 e2.1 ?_;refine codeAny_handlers_suite_as ?_;obtain ⟨B2,a2,d1,d2,d3,d4,next2⟩:=x5.step fun B hB h hh=>fo B h hB hh;refine lands_againW (base:=B2) (l:=X.stack) (cls:=.ref C) (a0:=a2) ⟨d1,d2,d3,d4⟩ fun h6 k5 k6=>?_;have x6:=next2 h6 .none k5.1 k6 k5.2.2.2;have J6:Inv (X.inH a) pins σ (upd H' a (zhW a (.ref C))) { s' with heap:=h6 }:=(x6.held I1 ho hb s'.toks).inH a;refine zgF (X:=X.inH a) J6 hN hi (.inl hx) (v:=.ref a) rfl (fun s7 J7=>?_) (.inr hx);refine wpAny_mono (suite a pins s7 _ _ _ J7 (hq a x.ua)) (fun fl s8 hf8=>?_) fun _ _ z=>z.elim;cases fl with
 | next=>
  obtain ⟨σ2,H2,J8,q2⟩:=hf8;obtain ⟨m,hn,_⟩:=id J8.loc;refine wpAny_nameGoes_keeps hx hn (by rw[I1.ok.kind];rfl) fun h9 v hn9 hs9=>?_;exact ⟨σ2.set i none,H2,(J8.outH I1.ok.hd).unname hN hi hn hn9 hs9,q2⟩
 | ret u=>
  obtain ⟨_,_,_,_,_,z⟩:=hf8;exact z.elim
 | brk=>
  obtain ⟨_,_,_,z⟩:=hf8;exact z.elim
 | cont=>
  obtain ⟨_,_,_,z⟩:=hf8;exact z.elim
variable {ce:Expr}{tc:XK→TE}{epos tpos:Pos}
theorem zo8 (hc:PX X ce tc)(hst:X.stack=X.env::X.outer)(hf:X.env.frame=some X.env.locals)(hN:X.N.Nodup)(hi:X.N[i]?=some n)(hx:X.env.scope.names.lookup n=some .local)(hm:X.mg c=some (.ref D))(hg:Gl X c)(suite:∀ a,PSs (X.inH a) (b0::bs) ts)
  (hdb:(c == ("__debug__" : Str))=false:=by decide) (hs:swapsWith ce none epos.line X.env=pure false:=by rfl):PS X (.Try [.Expr ce epos] [.ExceptHandler (some (.Name c np)) (some n) (b0::bs) hpos] [] [] tpos) (zrv X.K D i ts tc):=by
 intro pins s σ H De I h;refine wpAny_Try_except (wpAny_execs_cons (wpAny_Expr_any (wpAny_mono (hc _ pins s σ H _ I h) (fun v s1 ⟨y,H1,I1,r1,q1⟩=>?_) fun er s' ⟨H1,s1,I1,q⟩=>?_) I.quiet hs))
 ·exact wpAny_execs_nil (wpAny_execs_nil ⟨σ,H1,I1,q1⟩)
 ·exact zn3 hst hf hN hi hx hm hg suite hdb I1 q
end
end L2
namespace L2
open PySem PySem.Spec PyProof.Rows PySem.W
structure ExcC (K:Frag)(C:Addr):Prop where
 ga:findIn K (.ref C) "__getattribute__" = some (some (.builtin "BaseException.__getattribute__"))
 gn:findIn K (.ref C) "__getattr__" = some none
 ca:findIn K (.ref C) "__class__" = some (some (.builtin "object.__class__"))
 gg:specialIn K (.builtin "object.__class__") "__get__" = some (some (.builtin "getset_descriptor.__get__"))
 gt:takesIn K (.builtin "object.__class__")=some true
 ob:mroIn K C (.type "object")=some true
 be:mroIn K C (.type "BaseException")=some true
 cl:(clsIn K C).isSome=true
section
variable {prog:Program}{w:World}{A:Around}{E:Value→Shared→Prop}{s:Shared}{K:Frag}{x C:Addr}{ox:Obj}{vs:Array Value}
theorem zpO {R:Result→Shared→Prop}{hh:Heap}{g:Array GenState}{d:Drawn}{t:Nat}{os:OsState}(L0:Looks (model prog w) hh (typeOf (.ref x)) (.ref C))(L6:Looks (model prog w) hh (isSubtype (.ref C) (.type "object")) true)(hq:R (.ok (.ret (.ref C))) ⟨hh,g,d,t,os⟩) :
  codeAny (model prog w) A (.call (.builtin "getset_descriptor.__get__") ⟨[.builtin "object.__class__",.ref x,.ref C],[]⟩) R ⟨hh,g,d,t,os⟩:=by
 have hT5:(⟨hh,g,d,t,os⟩:Shared).TypeIs (.builtin "object.__class__") "getset_descriptor":=F.typeOf_object_class;have eo:(".".intercalate ("object.__class__".cutAt '.').dropLast) = "object":=by
  rw[show "object.__class__".cutAt '.'=["object","__class__"] by first | rfl | decide +kernel]
  decide +kernel
 have L8:Looks (model prog w) hh (isSubtype (.ref C) (.type (".".intercalate ("object.__class__".cutAt '.').dropLast))) true:=by rw[eo];exact L6
 refine codeAny_call_builtin F.slot_gs_get.plain F.entry_gs_get ?_;refine F.slot_gs_get.check _ _ _ _ _ _ _ _ hT5 (F.args_gs_get _ _ _) ?_
 repeat (any_goals (first | assumption | (with_reducible refine L0.at ?_) | (with_reducible refine L8.at ?_) | wp_step))
 refine ⟨Code.quiet_builtin _ (by decide +kernel),?_⟩;refine codeAny_builtin F.entry_object_class ?_
 repeat (any_goals (first | assumption | (with_reducible refine L0.at ?_) | wp_step))
set_option maxHeartbeats 4000000 in
theorem zmo {Q:Option Value→Shared→Prop}(X:K.In s.heap)(c:ExcC K C)(he:s.heap.get? x=some ox)(hc:ox.cls=.ref C)(hd:ox.data=.fields vs)(h:Q (some (.ref C)) { s with toks:=s.toks+1 }) :
  wpAny (model prog w) A (getAttr? (.ref x) "__class__") Q E s:=by
 obtain ⟨hh,g,d,t,os⟩:=s;have L0:Looks (model prog w) hh (typeOf (.ref x)) (.ref C):=hc ▸ (Looks.ld he).andThen .now;have L1:=looks_findIn (M:=model prog w) X c.ga;have f3:=F.excAttr_ValueError.ga.bind (.ref x);unfold getAttr? getAttrBy? getAttrBy;refine wpAny_bind (wpAny_mkText (wpAny_bind (wpAny_attempt (wpAny_holding (wpAny_bind (L0.at (wpAny_bind (L1.at ?_))))))));have hx2:(onTheHeap (Value.ref C) && Value.builtin "BaseException.__getattribute__" == Value.builtin "object.__getattribute__")=false:=by
  rw[show (Value.builtin "BaseException.__getattribute__" == Value.builtin "object.__getattribute__")=false by decide +kernel,yb5]
 show wpAny _ _ (if _ then _ else _) _ _ _
 rw[hx2];simp only[yaK,if_false];have L2:=looks_findIn (M:=model prog w) X c.gn;have hx0:(false && onTheHeap (Value.builtin "BaseException.__getattribute__"))=false:=rfl;unfold getAttrByItsOwn hookBefore callGetattribute;dsimp only at X he L1 L2
 repeat (any_goals (first | assumption | (with_reducible refine L0.at ?_) | (with_reducible refine L1.at ?_) | (with_reducible refine L2.at ?_) | wp_step))
 have L3:=looks_mroIn (M:=model prog w) X c.be;have L6:=looks_mroIn (M:=model prog w) X c.ob;have LI:Looks (model prog w) hh (isInstance (.ref x) (.type "BaseException")) true:=L0.andThen L3;have L4:=looks_findIn (M:=model prog w) X c.ca;have L5:=looks_specialIn (M:=model prog w) X c.gg;have L7:=looks_takesIn (M:=model prog w) X c.gt;have hk:builtinKind "BaseException.__getattribute__" = some .slot:=by decide +kernel
 have hsp:splitId "BaseException.__getattribute__" = some ("BaseException","__getattribute__"):=by decide +kernel
 refine codeAny_call_builtin F.excAttr_ValueError.ga.plain F.entry_bexc_ga ?_;have ha:=F.args_bexc_ga (.ref x) (.str "__class__" t);show wpAny _ _ (checkBuiltinCall _ _) _ _ _;simp only[checkBuiltinCall,hk,hsp];refine wpAny_bind (LI.at ?_)
 repeat (any_goals (first | assumption | (with_reducible refine L0.at ?_) | (with_reducible refine L4.at ?_) | (with_reducible refine L5.at ?_) | (with_reducible refine L7.at ?_) | wp_step))
 refine zpO L0 L6 ?_
 repeat (any_goals (first | assumption | wp_step))
end
theorem zhe {K:Frag}{a C:Addr}(c:ExcC K C):KitX K (.ref a) (.ref C) (fun h=>∃ oe vs,h.get? a=some oe∧oe.cls=.ref C∧oe.data=.fields vs) where
 ty:=fun M h _ ⟨oe,_,e1,e2,_⟩=>e2 ▸ (Looks.ld e1).andThen .now
 it:=fun M h X _=>by
  obtain ⟨cd,hcd⟩:=yb3.mp c.cl;unfold clsIn at hcd;split at hcd
  ·rename_i ho;intro A' Q' E' s' k z;unfold isType loadHead;exact wpAny_bind (wpAny_loadPart (k _ _ (X _ _ ho)) (wpAny_pure z))
  ·cases hcd
 ne:=fun h tp dd its n sl X htp=>by
  obtain ⟨cd,hcd⟩:=yb3.mp c.cl;refine ybS.mpr fun q=>?_;have e:C=tp:=Value.ref.inj (beq_iff_eq.mp q);subst e;unfold clsIn at hcd;split at hcd
  ·rename_i ho;rw[X _ _ ho]at htp;cases htp
  ·cases hcd
 ca:=fun X ⟨_,_,e1,e2,e3⟩ k=>zmo X c e1 e2 e3 k
def zrI (K:Frag):List V→Hp→VK→Prop:=fun xs H Q=>∃ a C c b,xs=[.ref a,c]∧H a=some (zhW a (.ref C))∧ExcC K C∧
 ((∃ D,c=.ref D∧kitOne K (.ref C) (.ref D)=some b)∨(∃ n,c=.ty n∧kitOne K (.ref C) (.type n)=some b)∨∃(tp:Addr) (Ds:List Addr),c=.ref tp∧H tp=some (.tup (Ds.map V.ref))∧kitAny K (.ref C) (Ds.map Value.ref)=some b)∧Q (.bl b) H
theorem zi5:∀{Ds:List Addr} {us:List Value},Vals (Ds.map V.ref) us→us=Ds.map Value.ref
 | [],_,.nil=>rfl
 | d::ds,_,.cons r t=>by
  cases r
  rw[zi5 t];rfl
theorem zcM {X:Cx}:zbG X (.builtin "isinstance") (zrI X.K):=by
 intro pins s σ H xs us Q I r h;obtain ⟨a,C,c,b,rfl,ea,cc,hk,q⟩:=h;obtain ⟨u,v,rfl,r1,r2⟩:=zf5 r;cases r1
 obtain ⟨p,_,_⟩:=(show za9 X.prog X.w H s.heap a (zhW a (.ref C)) from I.hok a _ ea);rcases hk with ⟨D,rfl,e⟩ | ⟨n,rfl,e⟩ | ⟨tp,Ds,rfl,ht,e⟩
 ·cases r2
  exact kia_one (zhe cc) I.kIn p e (fun z=>nomatch z) fun tk=>⟨.bl b,H,I.tok tk,rfl,q⟩
 ·cases r2
  exact kia_one (zhe cc) I.kIn p e (fun z=>nomatch z) fun tk=>⟨.bl b,H,I.tok tk,rfl,q⟩
 ·cases r2
  obtain ⟨_,its,rv,o,h1,h2,n,h3⟩:=(show za9 X.prog X.w H s.heap tp (.tup (Ds.map V.ref)) from I.hok tp _ ht);have ei:=zi5 rv;subst ei;obtain ⟨oc,odc,oda,osl⟩:=o;dsimp only at h2 h3;subst h2 h3;exact kia_tup (zhe cc) I.kIn p h1 e (fun z=>nomatch z) fun tk=>⟨.bl b,H,I.tok tk,rfl,q⟩
end L2
namespace L2
open PySem PySem.Spec PyProof.Rows
section
variable {P:Program}{w:World}{K:Frag}{mg:Str→Option Value}{base:Heap}{k:Nat}{x:Str}{ps:List Str}{sp sp2:Sp}
theorem FC.fx (F:FC P w K mg base k x ps sp):FX P w K mg base k x ps sp:=by
 obtain ⟨f,fd,ok,b,kp,m,l⟩:=F.ex;refine ⟨f,fd,⟨ok.len,fun A outer s H args us vs Q E hr he hb hv hs=>?_⟩,b,kp,m,l⟩;refine codeAny_mono (ok.run A outer s H args us vs Q E hr he hb hv hs) fun r s' hq=>?_;cases r with
 | error e=>exact False.elim hq
 | ok fl=>
  cases fl with
  | ret u=>exact hq
  | next=>exact hq
  | brk=>exact hq
  | cont=>exact hq
theorem FX.or (F:FX P w K mg base k x ps sp)(G:FX P w K mg base k x ps sp2):FX P w K mg base k x ps (fun vs H Q E=>sp vs H Q E∨sp2 vs H Q E):=by
 obtain ⟨f,fd,ok,b,kp,m,oc,od,osl,l⟩:=F.ex;obtain ⟨f2,fd2,ok2,b2,kp2,m2,oc2,od2,osl2,l2⟩:=G.ex;rw[m]at m2;cases m2
 rw[l]at l2;cases l2
 refine ⟨f,fd,⟨fun vs H Q E h=>h.elim (ok.len _ _ _ _) (ok2.len _ _ _ _),fun A outer s H args us vs Q E hr he hb hv hs=>?_⟩,b,kp,m,oc,od,osl,l⟩;rcases hs with hs | hs
 ·exact ok.run A outer s H args us vs Q E hr he hb hv hs
 ·exact ok2.run A outer s H args us vs Q E hr he hb hv hs
end
end L2
namespace L2
open PySem PySem.Spec PyProof.Rows
structure FMX (P:Program)(w:World)(K:Frag)(mg:Str→Option Value)(base:Heap)(C:Addr)(k:Nat)(m:Str)(ps:List Str)(sp:Sp):Prop where
 ex:∃ f fd,FnOk P w K mg base (CXE P w) k f fd ps sp∧zcZ K fd ps []∧Meth K C m f∧∃ oc od osl,K.lookup f=some ⟨oc,od,.func fd,osl⟩
theorem DM.okx {P:Program}{w:World}{K:Frag}{mg:Str→Option Value}{base:Heap}{C:Addr}{m q:Str}{st:Stmt}{N ps:List Str}{k:Nat}{sp:Sp}(D:DM K C m q st ps)(S:zap N ps (zah st))(len:∀ vs H Q E,sp vs H Q E→vs.length=ps.length)
  (hbody:∀(f:Addr) (cdv:Value) (A:Around) (outer:List Env) (s:Shared) (H:Hp) (vs:List V) (Q:VK) (E:XK),Room k (A.deeper (envOfC q (zah st) s.heap.objs.size f cdv))→sp vs H Q E→
   ∃ t,PSs (cxE P w K mg base N q (zah st) f cdv A outer s H E) (zaW st) t∧t { nx:=fun _ H'=>Q .non H',rt:=Q } (zcO N vs) H):FMX P w K mg base C (k+1) m ps sp:=by
 obtain ⟨f,fd,F,b,me⟩:=D.ex;obtain ⟨oc,od,kV,doc,pm,an,cdv,ct,osl,rfl,lk,hcd⟩:=F.ex;exact ⟨f,_,znU lk hcd S len fun A outer s H vs Q E hr hsp=>hbody f cdv A outer s H vs Q E hr hsp,b,me,oc,od,osl,lk⟩
section
variable {P:Program}{w:World}{K:Frag}{mg:Str→Option Value}{base:Heap}{C:Addr}{k:Nat}{m:Str}{ps:List Str}{sp sp2:Sp}
theorem FM.fx (F:FM P w K mg base C k m ps sp):FMX P w K mg base C k m ps sp:=by
 obtain ⟨f,fd,ok,b,me,l⟩:=F.ex;refine ⟨f,fd,⟨ok.len,fun A outer s H args us vs Q E hr he hb hv hs=>?_⟩,b,me,l⟩;refine codeAny_mono (ok.run A outer s H args us vs Q E hr he hb hv hs) fun r s' hq=>?_;cases r with
 | error e=>exact False.elim hq
 | ok fl=>
  cases fl with
  | ret u=>exact hq
  | next=>exact hq
  | brk=>exact hq
  | cont=>exact hq
theorem FMX.or (F:FMX P w K mg base C k m ps sp)(G:FMX P w K mg base C k m ps sp2):FMX P w K mg base C k m ps (fun vs H Q E=>sp vs H Q E∨sp2 vs H Q E):=by
 obtain ⟨f,fd,ok,b,me,oc,od,osl,l⟩:=F.ex;obtain ⟨f2,fd2,ok2,b2,me2,oc2,od2,osl2,l2⟩:=G.ex;have e:=me.at_.symm.trans me2.at_;cases e
 rw[l]at l2;cases l2
 refine ⟨f,fd,⟨fun vs H Q E h=>h.elim (ok.len _ _ _ _) (ok2.len _ _ _ _),fun A outer s H args us vs Q E hr he hb hv hs=>?_⟩,b,me,oc,od,osl,l⟩;rcases hs with hs | hs
 ·exact ok.run A outer s H args us vs Q E hr he hb hv hs
 ·exact ok2.run A outer s H args us vs Q E hr he hb hv hs
end
def zoh (C:Addr)(m:Str)(sp:Sp)(ta:TE)(t:TA)(E:XK):TE:=fun σ H Q=>ta σ H fun x H1=>∃ a dx fs,x=.ref a∧H1 a=some (.ins C dx fs)∧fs.lookup m=none∧t σ H1 fun vs H2=>sp (x::vs) H2 Q E
section
variable {X:Cx}{j k:Nat}{C:Addr}{m:Str}{ps:List Str}{sp:Sp}{o e:Expr}{es:List Expr}{ta:TE}{t:TA}{p pos apos:Pos}{E:XK}
theorem zll {pl:Sem Bool}(F:FMX X.prog X.w X.K X.mg X.base C j m ps sp)(c:Cls X.K C)(hr:Room k X.A)(he:PE X.nox o ta)(ha:PA X.nox (e::es) t)(hjk:j≤k:=by decide)
  (hst:starEach (e::es) X.env=(false,eval e X.env)::starEach es X.env:=by rfl) (hpl:(backTo pos (starEach es X.env)).any (·.1)=false:=by rfl)
  (ht:eval (.Call (.Attribute o m apos) (e::es) [] pos) X.env=(do
   let ov ← eval o X.env
   standAt apos.atName
   let (f,first) ← holding [ov] (getMethod ov m pl)
   callWith pos f first (backTo pos (starEach (e::es) X.env)) (backToKw pos (keywordEach [] X.env))):=by rfl) :
  PX X (.Call (.Attribute o m apos) (e::es) [] pos) (zoh C m sp ta t):=by
 intro E pins s σ H Q I h;obtain ⟨f,fd,ok,b,me,_⟩:=F.ex;refine PySem.W.methodCall_KW (pl:=pl) (wpAny_mono (he pins s σ H _ (I.wish _) h) (fun u s1 z=>?_) fun _ _ z=>z.elim) ht;obtain ⟨x,H1,I1,rx,a,dx,fs,ex,ea,l,q⟩:=z;subst ex;obtain rfl:u=Value.ref a:=rx;refine zeF I1.unwish ea c me l ?_;refine PySem.W.callWith_K (first:=[.ref a]) (h₀:=X.base) I.ok.mod.kin me.kp (wpAny_mono (ha pos pins s1 σ H1 _ I1 q) (fun us s2 z=>⟨?_,?_⟩) fun _ _ z=>z.elim) hst hpl
 ·obtain ⟨vs,H2,I2,r,q2⟩:=z;exact I2.kIn
 obtain ⟨vs,H2,I2,r,q2⟩:=z;have I2':Inv X pins σ H2 s2:=I2.unwish;have r2:Vals (.ref a::vs) (.ref a::us):=.cons rfl r;have hl:(Value.ref a::us++[]).length=ps.length:=by rw[yay,← r2.length];exact ok.len _ _ _ _ q2
 have hb:=b s2 (.ref a::us) I2'.kIn hl;rw[yay]at hb;refine wpAny_call (codeAny_mono (ok.run X.A X.stack s2 H2 ⟨.ref a::us,[]⟩ (.ref a::us) (.ref a::vs) Q E (hr.mono hjk) I2'.env0 hb r2 q2) fun res s' hq=>?_);cases res with
 | error er=>exact ⟨H2,s2,I2',hq⟩
 | ok fl=>
  cases fl with
  | ret u=>exact I2'.after hq
  | next=>exact False.elim hq
  | brk=>exact False.elim hq
  | cont=>exact False.elim hq
theorem zqA {pl:Sem Bool}(F:FMX X.prog X.w X.K X.mg X.base C j m ps sp)(c:Cls X.K C)(hr:Room k X.A)(hP:zdO (CXE X.prog X.w) X E)(he:PE X.nox o ta)(ha:PA X.nox (e::es) t)(hjk:j≤k:=by decide)
  (hst:starEach (e::es) X.env=(false,eval e X.env)::starEach es X.env:=by rfl) (hpl:(backTo pos (starEach es X.env)).any (·.1)=false:=by rfl)
  (ht:eval (.Call (.Attribute o m apos) (e::es) [] pos) X.env=(do
   let ov ← eval o X.env
   standAt apos.atName
   let (f,first) ← holding [ov] (getMethod ov m pl)
   callWith pos f first (backTo pos (starEach (e::es) X.env)) (backToKw pos (keywordEach [] X.env))):=by rfl) :
  PE X (.Call (.Attribute o m apos) (e::es) [] pos) (zoh C m sp ta t E):=by
 intro pins s σ H Q I h;exact wpAny_mono (zll F c hr he ha hjk hst hpl ht E pins s σ H Q I h) (fun _ _ q=>q) fun er s' z=>by
  obtain ⟨H1,s1,I1,q⟩:=z;exact hP pins σ H1 s1 er s' I1 q
end
end L2
set_option maxHeartbeats 4000000
namespace My
open PySem PySem.Spec PyProof.Rows L2
local macro_rules | `(tactic| walk_at "sc") => `(tactic| exact ⟨rfl,rfl,rfl,by decide +kernel,rfl,by decide +kernel,by decide +kernel⟩)
local macro_rules | `(tactic| walk_at "side")=>`(tactic| first | omega | (dsimp only;omega) | (simp only[CDiv,zrV,CPow,CMul];omega) | decide)
local macro_rules | `(tactic| walk_at "rd")=>`(tactic| repeat (first | (refine ⟨_,rfl,?_⟩) | (refine ⟨_,_,rfl,rfl,?_⟩) | (refine ⟨rfl,?_⟩) | (refine ⟨(by walk_at "side"),?_⟩)))
def top (i:Nat):Stmt:=PySem.Challenge.pw_bridgefind_k51_full_shelves.main.body.getD i (.Pass ⟨0,0,0,0⟩)
abbrev zdn:Stmt:=top 16
abbrev zfd:Stmt:=top 17
abbrev zcE:Stmt:=top 18
abbrev zjo:Stmt:=top 19
abbrev zbl:Stmt:=top 20
abbrev zez:Stmt:=top 21
abbrev zcP:Stmt:=top 22
abbrev zbv:Stmt:=top 25
abbrev ze7:Stmt:=top 26
abbrev ze9:Stmt:=top 27
abbrev zcr:Stmt:=top 29
abbrev zcs:Stmt:=top 30
abbrev zd8:Stmt:=top 31
abbrev zgQ:Stmt:=top 32
abbrev zfe:Stmt:=top 33
abbrev za0:Stmt:=top 36
abbrev zd5:Stmt:=top 37
abbrev zcb:Stmt:=top 38
abbrev zdo:Stmt:=top 39
abbrev zd9:Stmt:=top 40
abbrev ze8:Stmt:=top 43
abbrev zbw:Stmt:=top 44
abbrev zdl:Stmt:=top 45
abbrev zdk:Stmt:=top 46
abbrev zb2:Stmt:=top 47
abbrev za3:Stmt:=top 48
abbrev zcQ:Stmt:=top 49
abbrev zd4:Stmt:=top 51
abbrev zd7:Stmt:=top 54
abbrev zd6:Stmt:=top 55
abbrev zfb:Stmt:=top 56
abbrev zgR:Stmt:=top 57
abbrev zfa:Stmt:=top 58
abbrev zdm:Stmt:=top 59
abbrev zfc:Stmt:=top 60
abbrev zgS:Stmt:=top 61
abbrev zm2:Stmt:=top 62
abbrev zbn:Stmt:=zdV (top 52) 0
abbrev zbe:Stmt:=zdV (top 52) 1
abbrev zbm:Stmt:=zdV (top 52) 2
abbrev zcc:Stmt:=zdV (top 52) 3
abbrev zcR:Stmt:=zdV (top 52) 4
abbrev zb3:Stmt:=zdV (top 52) 6
abbrev zct:Stmt:=zdV (top 52) 7
theorem sc_is_whole:zap ["thing"] ["thing"] (zah zdn):=by walk_at "sc"
theorem sc_is_key:zap ["thing"] ["thing"] (zah zfd):=by walk_at "sc"
theorem sc_need_key:zap ["thing"] ["thing"] (zah zcE):=by walk_at "sc"
theorem sc_code:zap ["entry","key","z"] ["entry"] (zah zjo):=by walk_at "sc"
theorem sc_how_many_below:zap ["length","is_below","low","high","middle"] ["length","is_below"] (zah zbl):=by walk_at "sc"
theorem sc_place:zap ["row","key"] ["row","key"] (zah zez):=by walk_at "sc"
theorem sc_joined_up:zap ["lists","together","entries"] ["lists"] (zah zcP):=by walk_at "sc"
theorem sc_lowest_unlike:zap ["one","other","unlike"] ["one","other"] (zah zbv):=by walk_at "sc"
theorem sc_turned:zap ["numbers","told","at","number","figure"] ["numbers"] (zah ze7):=by walk_at "sc"
theorem sc_labels:zap ["entries","numbers","turn"] ["entries"] (zah ze9):=by walk_at "sc"
theorem sc_neighbours:zap ["things","at"] ["things","at"] (zah zcr):=by walk_at "sc"
theorem sc_least_free:zap ["taken"] ["taken"] (zah zcs):=by walk_at "sc"
theorem sc_colours:zap ["numbers","told","label","at"] ["numbers"] (zah zd8):=by walk_at "sc"
theorem sc_marks:zap ["entries","tints","told","colour","at"] ["entries"] (zah zgQ):=by walk_at "sc"
theorem sc_handed:zap ["entries"] ["entries"] (zah zfe):=by walk_at "sc"
theorem sc_is_one_of_first:zap ["many","thing"] ["many","thing"] (zah za0):=by walk_at "sc"
theorem sc_tree_of:zap ["parents","knot"] ["parents"] (zah zd5):=by walk_at "sc"
theorem sc_need_knot:zap ["tree","thing"] ["tree","thing"] (zah zcb):=by walk_at "sc"
theorem sc_children:zap ["tree","knot"] ["tree","knot"] (zah zdo):=by walk_at "sc"
theorem sc_beneath:zap ["tree","knot","told","other"] ["tree","knot"] (zah zd9):=by walk_at "sc"
theorem sc_row_of:zap ["things","thing"] ["things"] (zah ze8):=by walk_at "sc"
theorem sc_long_together:zap ["lists"] ["lists"] (zah zbw):=by walk_at "sc"
theorem sc_stand_of:zap ["tree","rows","told"] ["tree","rows"] (zah zdl):=by walk_at "sc"
theorem sc_with_row:zap ["stand","knot","row","rows"] ["stand","knot","row"] (zah zdk):=by walk_at "sc"
theorem sc_own_entries:zap ["stand","knot"] ["stand","knot"] (zah zb2):=by walk_at "sc"
theorem sc_full_rows_beneath:zap ["stand","knot","tree","told","at","parts"] ["stand","knot"] (zah za3):=by walk_at "sc"
theorem sc_full_rows:zap ["stand","told"] ["stand"] (zah zcQ):=by walk_at "sc"
theorem sc_without:zap ["entries","others","away","entry"] ["entries","others"] (zah zd4):=by walk_at "sc"
theorem sc_l_begin:zap ["_law_script"] ["_law_script"] (zah zd7):=by walk_at "sc"
theorem sc_l_mixed:zap ["_law_cell","_law_k","_law_one","_law_two"] ["_law_cell","_law_k"] (zah zd6):=by walk_at "sc"
theorem sc_l_take:zap ["_law_state","_law_most","_law_k","_law_script","_law_cell","_law_found"] ["_law_state","_law_most"] (zah zfb):=by walk_at "sc"
theorem sc_l_key:zap ["_law_state","_law_way"] ["_law_state"] (zah zgR):=by walk_at "sc"
theorem sc_l_tree:zap ["_law_state","_law_most","_law_way","_law_parents","_law_k"] ["_law_state","_law_most"] (zah zfa):=by walk_at "sc"
theorem sc_l_filled:zap ["_law_state","_law_tree_here","_law_count","_law_way","_law_last","_law_rows","_law_k","_law_knot"] ["_law_state","_law_tree_here"] (zah zdm):=by walk_at "sc"
theorem sc_l_said:zap ["_law_shelf","_law_knot","_law_key_here","_law_caught","e","_law_some"] ["_law_shelf","_law_knot","_law_key_here"] (zah zfc):=by walk_at "sc"
theorem sc_l_due:zap ["_law_rows","_law_knot","_law_key_here"] ["_law_rows","_law_knot","_law_key_here"] (zah zgS):=by walk_at "sc"
theorem sc_law:zap ["_law_script","_law_state","_law_tree_here","_law_rows","_law_shelf","_law_k","_law_knot","_law_key_here","_law_due_here","_law_fulls"] ["_law_script"] (zah zm2):=by walk_at "sc"
theorem sc_Shelf___init__:zap ["self","stand"] ["self","stand"] (zah zbn):=by walk_at "sc"
theorem sc_Shelf_row_for:zap ["self","knot","key"] ["self","knot","key"] (zah zbe):=by walk_at "sc"
theorem sc_Shelf_carry_up:zap ["self","knot","gone","come","told","before","after"] ["self","knot","gone","come"] (zah zbm):=by walk_at "sc"
theorem sc_Shelf_put:zap ["self","knot","key","row","at"] ["self","knot","key"] (zah zcc):=by walk_at "sc"
theorem sc_Shelf_out:zap ["self","knot","key","row","at"] ["self","knot","key"] (zah zcR):=by walk_at "sc"
theorem sc_Shelf_stand:zap ["self"] ["self"] (zah zb3):=by walk_at "sc"
theorem sc_Shelf_full:zap ["self","knot"] ["self","knot"] (zah zct):=by walk_at "sc"
abbrev zbK:List Str:=["thing"]
abbrev zcG:List Str:=["thing"]
abbrev zbq:List Str:=["thing"]
abbrev zgX:List Str:=["entry"]
abbrev zbg:List Str:=["length","is_below"]
abbrev zds:List Str:=["row","key"]
abbrev zbR:List Str:=["lists"]
abbrev zbo:List Str:=["one","other"]
abbrev zec:List Str:=["numbers"]
abbrev zee:List Str:=["entries"]
abbrev zbx:List Str:=["things","at"]
abbrev zb4:List Str:=["taken"]
abbrev zdv:List Str:=["numbers"]
abbrev zfh:List Str:=["entries"]
abbrev zc7:List Str:=["entries"]
abbrev zaB:List Str:=["many","thing"]
abbrev zdr:List Str:=["parents"]
abbrev za2:List Str:=["tree","thing"]
abbrev zcU:List Str:=["tree","knot"]
abbrev zdw:List Str:=["tree","knot"]
abbrev zed:List Str:=["things"]
abbrev zaP:List Str:=["lists"]
abbrev zcS:List Str:=["tree","rows"]
abbrev zbJ:List Str:=["stand","knot","row"]
abbrev zbL:List Str:=["stand","knot"]
abbrev zaZ:List Str:=["stand","knot"]
abbrev zbS:List Str:=["stand"]
abbrev zdq:List Str:=["entries","others"]
abbrev zdu:List Str:=["_law_script"]
abbrev zdt:List Str:=["_law_cell","_law_k"]
abbrev zce:List Str:=["_law_state","_law_most"]
abbrev zfi:List Str:=["_law_state"]
abbrev zef:List Str:=["_law_state","_law_most"]
abbrev zcT:List Str:=["_law_state","_law_tree_here"]
abbrev zeg:List Str:=["_law_shelf","_law_knot","_law_key_here"]
abbrev zfj:List Str:=["_law_rows","_law_knot","_law_key_here"]
abbrev zjv:List Str:=["_law_script"]
abbrev zbh:List Str:=["self","stand"]
abbrev zaE:List Str:=["self","knot","key"]
abbrev zaO:List Str:=["self","knot","gone","come"]
abbrev zbu:List Str:=["self","knot","key"]
abbrev zcv:List Str:=["self","knot","key"]
abbrev zbM:List Str:=["self"]
abbrev zb5:List Str:=["self","knot"]
structure Txt (K:Frag)(mg:Str→Option Value):Prop where
 m_ValueError:mg "ValueError" = none
 m_abs:mg "abs" = none
 m_bool:mg "bool" = none
 m_enumerate:mg "enumerate" = none
 m_int:mg "int" = none
 m_isinstance:mg "isinstance" = none
 m_len:mg "len" = none
 m_list:mg "list" = none
 m_max:mg "max" = none
 m_min:mg "min" = none
 m_range:mg "range" = none
 m_reversed:mg "reversed" = none
 m_set:mg "set" = none
 m_sorted:mg "sorted" = none
 m_sum:mg "sum" = none
 m_tuple:mg "tuple" = none
 m_zip:mg "zip" = none
 g_KNOT_NUMBERS:∃ t,mg "KNOT_NUMBERS" = some (.int 64 t)
 g_TURNS:∃ t,mg "TURNS" = some (.int 5 t)
 g_MOST_KNOTS:∃ t,mg "MOST_KNOTS" = some (.int 40 t)
 g_MOST_KEYS:∃ t,mg "MOST_KEYS" = some (.int 300 t)
structure OwnC (K:Frag)(mg:Str→Option Value)(C:Addr):Prop where
 cl:L2.Cls K C
 mgC:mg "Shelf" = some (.ref C)
 n_kept:zeZ K C "kept"
 n_fulls:zeZ K C "fulls"
structure Cls (K:Frag)(mg:Str→Option Value)(C_BridgeError C_NoTree C_NoWay C_NoStand C_Twice C_Missing C_NoRoom C_NoKnot C_NoKey C_NoOrder C_NoRow C_NoText C_Shelf:Addr):Prop where
 n_BridgeError:mg "BridgeError" = some (.ref C_BridgeError)
 n_NoTree:mg "NoTree" = some (.ref C_NoTree)
 n_NoWay:mg "NoWay" = some (.ref C_NoWay)
 n_NoStand:mg "NoStand" = some (.ref C_NoStand)
 n_Twice:mg "Twice" = some (.ref C_Twice)
 n_Missing:mg "Missing" = some (.ref C_Missing)
 n_NoRoom:mg "NoRoom" = some (.ref C_NoRoom)
 n_NoKnot:mg "NoKnot" = some (.ref C_NoKnot)
 n_NoKey:mg "NoKey" = some (.ref C_NoKey)
 n_NoOrder:mg "NoOrder" = some (.ref C_NoOrder)
 n_NoRow:mg "NoRow" = some (.ref C_NoRow)
 n_NoText:mg "NoText" = some (.ref C_NoText)
 n_Shelf:mg "Shelf" = some (.ref C_Shelf)
 c_NoKnot:Exc K mg "NoKnot" C_NoKnot
 x_NoKnot:ExcC K C_NoKnot
 h_NoKnot:zdY K C_NoKnot C_BridgeError
 v_NoKnot:kitOne K (.ref C_NoKnot) (.type "ValueError")=some true
 k_NoKnot_BridgeError:kitOne K (.ref C_NoKnot) (.ref C_BridgeError)=some true
 k_NoKnot_NoTree:kitOne K (.ref C_NoKnot) (.ref C_NoTree)=some false
 k_NoKnot_NoWay:kitOne K (.ref C_NoKnot) (.ref C_NoWay)=some false
 k_NoKnot_NoStand:kitOne K (.ref C_NoKnot) (.ref C_NoStand)=some false
 k_NoKnot_Twice:kitOne K (.ref C_NoKnot) (.ref C_Twice)=some false
 k_NoKnot_Missing:kitOne K (.ref C_NoKnot) (.ref C_Missing)=some false
 k_NoKnot_NoRoom:kitOne K (.ref C_NoKnot) (.ref C_NoRoom)=some false
 k_NoKnot_NoKnot:kitOne K (.ref C_NoKnot) (.ref C_NoKnot)=some true
 k_NoKnot_NoKey:kitOne K (.ref C_NoKnot) (.ref C_NoKey)=some false
 k_NoKnot_NoOrder:kitOne K (.ref C_NoKnot) (.ref C_NoOrder)=some false
 k_NoKnot_NoRow:kitOne K (.ref C_NoKnot) (.ref C_NoRow)=some false
 k_NoKnot_NoText:kitOne K (.ref C_NoKnot) (.ref C_NoText)=some false
 k_NoKnot_Shelf:kitOne K (.ref C_NoKnot) (.ref C_Shelf)=some false
 c_NoKey:Exc K mg "NoKey" C_NoKey
 x_NoKey:ExcC K C_NoKey
 h_NoKey:zdY K C_NoKey C_BridgeError
 v_NoKey:kitOne K (.ref C_NoKey) (.type "ValueError")=some true
 k_NoKey_BridgeError:kitOne K (.ref C_NoKey) (.ref C_BridgeError)=some true
 k_NoKey_NoTree:kitOne K (.ref C_NoKey) (.ref C_NoTree)=some false
 k_NoKey_NoWay:kitOne K (.ref C_NoKey) (.ref C_NoWay)=some false
 k_NoKey_NoStand:kitOne K (.ref C_NoKey) (.ref C_NoStand)=some false
 k_NoKey_Twice:kitOne K (.ref C_NoKey) (.ref C_Twice)=some false
 k_NoKey_Missing:kitOne K (.ref C_NoKey) (.ref C_Missing)=some false
 k_NoKey_NoRoom:kitOne K (.ref C_NoKey) (.ref C_NoRoom)=some false
 k_NoKey_NoKnot:kitOne K (.ref C_NoKey) (.ref C_NoKnot)=some false
 k_NoKey_NoKey:kitOne K (.ref C_NoKey) (.ref C_NoKey)=some true
 k_NoKey_NoOrder:kitOne K (.ref C_NoKey) (.ref C_NoOrder)=some false
 k_NoKey_NoRow:kitOne K (.ref C_NoKey) (.ref C_NoRow)=some false
 k_NoKey_NoText:kitOne K (.ref C_NoKey) (.ref C_NoText)=some false
 k_NoKey_Shelf:kitOne K (.ref C_NoKey) (.ref C_Shelf)=some false
 c_Twice:Exc K mg "Twice" C_Twice
 x_Twice:ExcC K C_Twice
 h_Twice:zdY K C_Twice C_BridgeError
 v_Twice:kitOne K (.ref C_Twice) (.type "ValueError")=some true
 k_Twice_BridgeError:kitOne K (.ref C_Twice) (.ref C_BridgeError)=some true
 k_Twice_NoTree:kitOne K (.ref C_Twice) (.ref C_NoTree)=some false
 k_Twice_NoWay:kitOne K (.ref C_Twice) (.ref C_NoWay)=some false
 k_Twice_NoStand:kitOne K (.ref C_Twice) (.ref C_NoStand)=some false
 k_Twice_Twice:kitOne K (.ref C_Twice) (.ref C_Twice)=some true
 k_Twice_Missing:kitOne K (.ref C_Twice) (.ref C_Missing)=some false
 k_Twice_NoRoom:kitOne K (.ref C_Twice) (.ref C_NoRoom)=some false
 k_Twice_NoKnot:kitOne K (.ref C_Twice) (.ref C_NoKnot)=some false
 k_Twice_NoKey:kitOne K (.ref C_Twice) (.ref C_NoKey)=some false
 k_Twice_NoOrder:kitOne K (.ref C_Twice) (.ref C_NoOrder)=some false
 k_Twice_NoRow:kitOne K (.ref C_Twice) (.ref C_NoRow)=some false
 k_Twice_NoText:kitOne K (.ref C_Twice) (.ref C_NoText)=some false
 k_Twice_Shelf:kitOne K (.ref C_Twice) (.ref C_Shelf)=some false
 c_NoRoom:Exc K mg "NoRoom" C_NoRoom
 x_NoRoom:ExcC K C_NoRoom
 h_NoRoom:zdY K C_NoRoom C_BridgeError
 v_NoRoom:kitOne K (.ref C_NoRoom) (.type "ValueError")=some true
 k_NoRoom_BridgeError:kitOne K (.ref C_NoRoom) (.ref C_BridgeError)=some true
 k_NoRoom_NoTree:kitOne K (.ref C_NoRoom) (.ref C_NoTree)=some false
 k_NoRoom_NoWay:kitOne K (.ref C_NoRoom) (.ref C_NoWay)=some false
 k_NoRoom_NoStand:kitOne K (.ref C_NoRoom) (.ref C_NoStand)=some false
 k_NoRoom_Twice:kitOne K (.ref C_NoRoom) (.ref C_Twice)=some false
 k_NoRoom_Missing:kitOne K (.ref C_NoRoom) (.ref C_Missing)=some false
 k_NoRoom_NoRoom:kitOne K (.ref C_NoRoom) (.ref C_NoRoom)=some true
 k_NoRoom_NoKnot:kitOne K (.ref C_NoRoom) (.ref C_NoKnot)=some false
 k_NoRoom_NoKey:kitOne K (.ref C_NoRoom) (.ref C_NoKey)=some false
 k_NoRoom_NoOrder:kitOne K (.ref C_NoRoom) (.ref C_NoOrder)=some false
 k_NoRoom_NoRow:kitOne K (.ref C_NoRoom) (.ref C_NoRow)=some false
 k_NoRoom_NoText:kitOne K (.ref C_NoRoom) (.ref C_NoText)=some false
 k_NoRoom_Shelf:kitOne K (.ref C_NoRoom) (.ref C_Shelf)=some false
theorem ziE (m n i j:Nat)(hi:i < 2)(hj:j < 2):(2*m+i) &&& (2*n+j)=2*(m &&& n)+(i &&& j):=by
 apply Nat.eq_of_testBit_eq;intro k;cases k with
 | zero=>
  have h1:i=0∨i=1:=by omega
  have h2:j=0∨j=1:=by omega
  rcases h1 with rfl | rfl <;> rcases h2 with rfl | rfl <;> simp[Nat.testBit_zero] <;> omega
 | succ k=>
  have h1:i=0∨i=1:=by omega
  have h2:j=0∨j=1:=by omega
  have e1:(2*m+i)/2=m:=by omega
  have e2:(2*n+j)/2=n:=by omega
  have e3:(2*(m &&& n)+(i &&& j))/2=m &&& n:=by
   rcases h1 with rfl | rfl <;> rcases h2 with rfl | rfl <;> simp <;> omega
  rw[Nat.testBit_and,ybG,ybG,ybG,e1,e2,e3,Nat.testBit_and]
theorem zqY (m n i j:Nat)(hi:i < 2)(hj:j < 2):(2*m+i) ||| (2*n+j)=2*(m ||| n)+(i ||| j):=by
 apply Nat.eq_of_testBit_eq;intro k;cases k with
 | zero=>
  have h1:i=0∨i=1:=by omega
  have h2:j=0∨j=1:=by omega
  rcases h1 with rfl | rfl <;> rcases h2 with rfl | rfl <;> simp[Nat.testBit_zero] <;> omega
 | succ k=>
  have h1:i=0∨i=1:=by omega
  have h2:j=0∨j=1:=by omega
  have e1:(2*m+i)/2=m:=by omega
  have e2:(2*n+j)/2=n:=by omega
  have e3:(2*(m ||| n)+(i ||| j))/2=m ||| n:=by
   rcases h1 with rfl | rfl <;> rcases h2 with rfl | rfl <;> simp <;> omega
  rw[Nat.testBit_or,ybG,ybG,ybG,e1,e2,e3,Nat.testBit_or]
def lu (a b:Nat):Nat:=if a=b then 0 else if a % 2=b % 2 then lu (a / 2) (b / 2)+1 else 0
termination_by a+b
decreasing_by omega
theorem ziC {a b:Nat}(hab:a≠b)(h:a % 2=b % 2):lu a b=lu (a / 2) (b / 2)+1:=by
 rw[lu,if_neg hab,if_pos h]
theorem zlT {a b:Nat}(h:a % 2≠b % 2):lu a b=0:=by
 rw[lu];split
 ·rfl
 ·rfl
def xr (a b:Nat):Nat:=(a ||| b) - (a &&& b)
def zeV (n:Nat):Nat:=n - (n &&& (n - 1))
theorem zh9 (a b:Nat):a &&& b≤a ||| b:=yaA Nat.and_le_left Nat.left_le_or
theorem zrt (m n i j:Nat)(hi:i < 2)(hj:j < 2):xr (2*m+i) (2*n+j)=2 * xr m n+(if i=j then 0 else 1):=by
 unfold xr;rw[zqY m n i j hi hj,ziE m n i j hi hj];have q:=zh9 m n;have h1:i=0∨i=1:=by omega
 have h2:j=0∨j=1:=by omega
 rcases h1 with rfl | rfl <;> rcases h2 with rfl | rfl <;> simp <;> omega
theorem zkE (a b:Nat):xr a b=2 * xr (a / 2) (b / 2)+(if a % 2=b % 2 then 0 else 1):=by
 have e1:2 * (a / 2)+a % 2=a:=by omega
 have e2:2 * (b / 2)+b % 2=b:=by omega
 have q:=zrt (a / 2) (b / 2) (a % 2) (b % 2) (by omega) (by omega);rw[e1,e2]at q;exact q
theorem zob:∀(n a b:Nat),a+b≤n→a≠b→0 < xr a b:=by
 intro n
 induction n with
 | zero=>intro a b h1 h2;omega
 | succ n ih=>
  intro a b h1 h2;rw[zkE];by_cases h:a % 2=b % 2
  ·have:=ih (a / 2) (b / 2) (by omega) (by omega);omega
  ·rw[if_neg h];omega
theorem zpw (m:Nat):zeV (2 * m+1)=1:=by
 unfold zeV;have q:=ziE m m 1 0 (by omega) (by omega);have e:2 * m+1 - 1=2 * m+0:=by omega
 rw[e,q];simp
theorem znF (m:Nat)(h:0 < m):zeV (2 * m)=2 * zeV m:=by
 unfold zeV;have q:=ziE m (m - 1) 0 1 (by omega) (by omega);have e:2 * m - 1=2 * (m - 1)+1:=by omega
 have e':2 * m=2 * m+0:=by omega
 rw[e];have:(2 * m &&& 2 * (m - 1)+1)=2 * (m &&& m - 1)+(0 &&& 1):=q;rw[this];have z:m &&& (m - 1)≤m:=Nat.and_le_left;simp;omega
theorem zqW:∀(n a b:Nat),a+b≤n→a≠b→zeV (xr a b)=2 ^ lu a b:=by
 intro n
 induction n with
 | zero=>intro a b h1 h2;omega
 | succ n ih=>
  intro a b h1 h2;rw[zkE];by_cases h:a % 2=b % 2
  ·rw[if_pos h,ziC h2 h,ybr,znF _ (zob n _ _ (by omega) (by omega)),ih _ _ (by omega) (by omega),ybU];omega
  ·rw[if_neg h,zlT h,zpw,Nat.pow_zero]
theorem zpv:∀(n a b:Nat),a+b≤n→a≠b→a % 2 ^ lu a b=b % 2 ^ lu a b∧a % 2 ^ (lu a b+1)≠b % 2 ^ (lu a b+1):=by
 intro n
 induction n with
 | zero=>intro a b h1 h2;omega
 | succ n ih=>
  intro a b h1 h2;by_cases h:a % 2=b % 2
  ·rw[ziC h2 h];obtain ⟨q1,q2⟩:=ih (a / 2) (b / 2) (by omega) (by omega);have s:∀ x k:Nat,x % 2 ^ (k+1)=2 * (x / 2 % 2 ^ k)+x % 2:=by
    intro x k;rw[ybU,Nat.mul_comm,Nat.mod_mul];omega
   rw[s a,s b,s a,s b];constructor
   ·omega
   ·omega
  ·rw[zlT h];simp[Nat.mod_one];omega
theorem zrK:∀(k a b:Nat),a≠b→a < 2 ^ k→b < 2 ^ k→lu a b < k:=by
 intro k
 induction k with
 | zero=>intro a b h1 h2 h3;simp at h2 h3;omega
 | succ k ih=>
  intro a b h1 h2 h3;by_cases h:a % 2=b % 2
  ·rw[ziC h1 h];have:=ih (a / 2) (b / 2) (by omega) (by rw[ybU]at h2;omega) (by rw[ybU]at h3;omega);omega
  ·rw[zlT h];omega
def fig (a b:Nat):Nat:=2 * lu a b+b / 2 ^ lu a b % 2
theorem zhk (a b:Nat):fig a b / 2=lu a b:=by
 unfold fig;have:=ybH (b / 2 ^ lu a b) (by decide:0 < 2);omega
theorem ziN (a b:Nat):fig a b % 2=b / 2 ^ lu a b % 2:=by
 unfold fig;have:=ybH (b / 2 ^ lu a b) (by decide:0 < 2);omega
theorem zeS (x k:Nat):x % 2 ^ (k+1)=x % 2 ^ k+2 ^ k * (x / 2 ^ k % 2):=by
 rw[ybU,Nat.mod_mul]
theorem zoF {a b:Nat}(h:a≠b):a / 2 ^ lu a b % 2≠b / 2 ^ lu a b % 2:=by
 obtain ⟨h1,h2⟩:=zpv _ a b (yaa _) h;intro e;apply h2;rw[zeS,zeS,h1,e]
theorem zri {a b c:Nat}(h2:b≠c):fig a b≠fig b c:=by
 intro e;have e1:lu a b=lu b c:=by rw[← zhk,e,zhk]
 have e2:b / 2 ^ lu a b % 2=c / 2 ^ lu b c % 2:=by rw[← ziN,e,ziN]
 rw[e1]at e2;exact zoF h2 e2
theorem zpM {a b:Nat}(h:a≠b):a % 2≠fig a b:=by
 intro e;have l:a % 2 < 2:=ybH _ (by decide);have e1:lu a b=0:=by
  have:=zhk a b;omega
 have e2:=ziN a b;have e3:=zoF h;rw[e1]at e2 e3;simp at e2 e3;omega
theorem zrj {a b k:Nat}(h:a≠b)(ha:a < 2 ^ k)(hb:b < 2 ^ k):fig a b < 2 * k:=by
 have:=zrK k a b h ha hb;have:=ybH (b / 2 ^ lu a b) (by decide:0 < 2);unfold fig;omega
def zd0 (xs:List Nat)(i:Nat):Nat:=if i=0 then xs.getD 0 0 % 2 else fig (xs.getD (i - 1) 0) (xs.getD i 0)
def zc2 (xs:List Nat):List Nat:=(List.range xs.length).map (zd0 xs)
theorem zbt (xs:List Nat):(zc2 xs).length=xs.length:=by unfold zc2;rw[yab,ybf]
theorem zhu {xs:List Nat}{i:Nat}(h:i < xs.length):(zc2 xs)[i]?=some (zd0 xs i):=by
 unfold zc2;rw[yap,ycj h];rfl
theorem zew {xs:List Nat}{i:Nat}(h:i < xs.length):(zc2 xs).getD i 0=zd0 xs i:=by
 rw[yae,zhu h];rfl
theorem zjZ {xs:List Nat}{i:Nat}(h:i < xs.length):(zc2 xs).take (i+1)=(zc2 xs).take i++[zd0 xs i]:=by
 have h':i < (zc2 xs).length:=by rw[zbt];exact h
 rw[yaM h'];have:=zhu h;rw[yac h']at this;rw[yad this]
def Unl (xs:List Nat):Prop:=∀ i,i+1 < xs.length→xs.getD i 0≠xs.getD (i+1) 0
theorem zkR {xs:List Nat}(h:Unl xs):Unl (zc2 xs):=by
 intro i hi;rw[zbt]at hi;rw[zew (by omega),zew hi];unfold zd0;rw[if_neg (by omega:¬ i+1=0),Nat.add_sub_cancel];by_cases h0:i=0
 ·subst h0;rw[if_pos rfl];exact zpM (h 0 hi)
 ·rw[if_neg h0];exact zri (h i hi)
def zdi (m:Nat)(xs:List Nat):Prop:=∀ i,i < xs.length→xs.getD i 0 < m
theorem zca {xs:List Nat}{k:Nat}(hk:1≤k)(h:Unl xs)(hb:zdi (2 ^ k) xs):zdi (2 * k) (zc2 xs):=by
 intro i hi;rw[zbt]at hi;rw[zew hi];unfold zd0;split
 ·have:xs.getD 0 0 % 2 < 2:=ybH _ (by decide);omega
 ·have:=h (i - 1) (by omega);rw[show i - 1+1=i by omega]at this;exact zrj this (hb _ (by omega)) (hb _ hi)
theorem zoM (a b:Nat):Builtin.bitXor (a:Int) (b:Int)=((xr a b:Nat):Int):=by
 have h1:Builtin.bitAnd (a:Int) (b:Int)=((a &&& b:Nat):Int):=by
  unfold Builtin.bitAnd;rw[yal (ybm a),yal (ybm b)];rfl
 have n1:¬ (0:Int)≤Builtin.bitNot (a:Int):=by unfold Builtin.bitNot;omega
 have n2:¬ (0:Int)≤Builtin.bitNot (b:Int):=by unfold Builtin.bitNot;omega
 have h2:Builtin.bitOr (a:Int) (b:Int)=((a ||| b:Nat):Int):=by
  unfold Builtin.bitOr Builtin.bitAnd;rw[yai n1,yai n2];have e:∀ x:Int,Builtin.bitNot (Builtin.bitNot x)=x:=fun x=>by unfold Builtin.bitNot;omega
  show Builtin.bitNot (Builtin.bitNot _)=_;rw[e,e,e];rfl
 unfold Builtin.bitXor xr;rw[h1,h2];have:=zh9 a b;omega
theorem zpW (n:Nat)(h:0 < n):Builtin.bitAnd (n:Int) (-(n:Int))=((zeV n:Nat):Int):=by
 have n2:¬ (0:Int)≤-(n:Int):=by omega
 have e:(Builtin.bitNot (-(n:Int))).toNat=n - 1:=by unfold Builtin.bitNot;omega
 unfold Builtin.bitAnd zeV;rw[yal (ybm n),yai n2];show (n:Int) - (((n:Int).toNat &&& (Builtin.bitNot (-(n:Int))).toNat:Nat):Int)=_;rw[e,ybk];have:n &&& (n - 1)≤n:=Nat.and_le_left;omega
theorem zqX (a b:Nat)(h:a≠b):((Builtin.Int.intBits (Builtin.bitAnd (Builtin.bitXor (a:Int) (b:Int)) (-(Builtin.bitXor (a:Int) (b:Int)))):Nat):Int) - 1=((lu a b:Nat):Int):=by
 rw[zoM,zpW _ (zob _ a b (yaa _) h),zqW _ a b (yaa _) h];unfold Builtin.Int.intBits;have p:0 < 2 ^ lu a b:=Nat.two_pow_pos _;rw[if_neg (by
  intro z;have z':=eq_of_beq z;omega),Int.natAbs_natCast,Nat.log2_two_pow]
 omega
def atZ {α:Type}(l:List α)(i:Int):Option α:=if 0≤i then l[i.toNat]? else none
theorem zdh {α:Type}(l:List α)(i:Nat):atZ l (i:Int)=l[i]?:=by
 unfold atZ;rw[if_pos (ybm i),ybk]
theorem ziZ {α:Type}{l:List α}{i:Int}(h:i < 0):atZ l i=none:=by
 unfold atZ;rw[if_neg (by omega)]
theorem zjS {α:Type}{l:List α}{i:Int}{x:α}(h:atZ l i=some x):0≤i∧i < l.length:=by
 unfold atZ at h;split at h
 ·have:=(yak.mp h).1;omega
 ·cases h
def zkh {α β:Type}(f:Option α→α→Option α→β):Option α→List α→List β
 | _,[]=>[]
 | p,x::l=>f p x l.head? :: zkh f (some x) l
def mapW {α β:Type}(f:Option α→α→Option α→β)(l:List α):List β:=zkh f none l
theorem zdc {α β:Type}(f:Option α→α→Option α→β):∀(l:List α) (p:Option α) (k:Nat),(zkh f p l)[k]?=l[k]?.map fun x=>f (if k=0 then p else l[k - 1]?) x l[k+1]?
 | [],_,_=>rfl
 | x::l,p,0=>by
  show some (f p x l.head?)=some (f p x l[0]?);rw[List.head?_eq_getElem?]
 | x::l,p,k+1=>by
  show (zkh f (some x) l)[k]?=l[k]?.map fun y=>f (x::l)[k]? y l[k+1]?;rw[zdc f l (some x) k];cases k with
  | zero=>rfl
  | succ k=>rfl
theorem zeU {α β:Type}(f:Option α→α→Option α→β):∀(l:List α) (p:Option α),(zkh f p l).length=l.length
 | [],_=>rfl
 | x::l,p=>by
  show (zkh f (some x) l).length+1=l.length+1;rw[zeU f l]
theorem zcj {α β:Type}(f:Option α→α→Option α→β)(l:List α):(mapW f l).length=l.length:=zeU f l none
theorem zpu {α β:Type}(f:Option α→α→Option α→β)(l:List α)(i:Int):atZ (mapW f l) i=(atZ l i).map fun x=>f (atZ l (i - 1)) x (atZ l (i+1)):=by
 by_cases h:0≤i
 ·obtain ⟨k,rfl⟩:∃ k:Nat,i=(k:Int):=⟨i.toNat,by omega⟩;rw[zdh,zdh,mapW,zdc,show ((k:Int)+1)=((k+1:Nat):Int) by omega,zdh];have e:atZ l ((k:Int) - 1)=if k=0 then none else l[k - 1]?:=by
   split
   ·rw[ziZ (by omega)]
   ·rw[show ((k:Int) - 1)=((k - 1:Nat):Int) by omega,zdh]
  rw[e]
 ·rw[ziZ (l:=mapW f l) (by omega),ziZ (l:=l) (i:=i) (by omega)];rfl
def UnlZ (xs:List Nat):Prop:=∀(i:Int) (x y:Nat),atZ xs i=some x→atZ xs (i+1)=some y→x≠y
theorem unlZ {xs:List Nat}(h:Unl xs):UnlZ xs:=by
 intro i x y hx hy;obtain ⟨a,b⟩:=zjS hx;obtain ⟨_,c⟩:=zjS hy;obtain ⟨k,rfl⟩:∃ k:Nat,i=(k:Int):=⟨i.toNat,by omega⟩;rw[zdh]at hx;rw[show ((k:Int)+1)=((k+1:Nat):Int) by omega,zdh]at hy;have:=h k (by omega);rw[yae,yae,hx,hy]at this;exact this
theorem zof {xs:List Nat}(h:UnlZ xs):Unl xs:=by
 intro k hk;have:=h k xs[k] xs[k+1] (by rw[zdh];exact yac (by omega)) (by rw[show ((k:Int)+1)=((k+1:Nat):Int) by omega,zdh];exact yac hk);rw[yae,yae,yac (show k < xs.length by omega),yac hk];exact this
def ze2 (p n:Option Nat):Nat:=if p≠some 0∧n≠some 0 then 0 else if p≠some 1∧n≠some 1 then 1 else 2
theorem znS (p n:Option Nat):ze2 p n≤2:=by
 unfold ze2;split
 ·omega
 ·split <;> omega
theorem zeG {p n:Option Nat}{x:Nat}(h:p=some x):ze2 p n≠x:=by
 subst h;unfold ze2;split
 ·rename_i c;intro z;exact c.1 (by rw[← z])
 ·split
  ·rename_i c;intro z;exact c.1 (by rw[← z])
  ·rename_i c d;intro z;subst z;have c1:n=some 0:=Decidable.byContradiction fun q=>c ⟨by decide,q⟩;have d1:n=some 1:=Decidable.byContradiction fun q=>d ⟨by decide,q⟩;rw[c1]at d1;cases d1
theorem zks (p n:Option Nat):ze2 p n=ze2 n p:=by
 unfold ze2;simp only[And.comm]
theorem zgu {p n:Option Nat}{x:Nat}(h:n=some x):ze2 p n≠x:=by
 rw[zks];exact zeG h
def recF (v:Nat)(p:Option Nat)(x:Nat)(n:Option Nat):Nat:=if x=v then ze2 p n else x
def recL (v:Nat)(xs:List Nat):List Nat:=mapW (recF v) xs
theorem za4 (v:Nat)(xs:List Nat):(recL v xs).length=xs.length:=zcj _ _
theorem zff {v:Nat}{xs:List Nat}(h:UnlZ xs):UnlZ (recL v xs):=by
 intro i x y hx hy;unfold recL at hx hy;rw[zpu]at hx hy;cases ex:atZ xs i with
 | none=>rw[ex]at hx;cases hx
 | some x0=>
  cases ey:atZ xs (i+1) with
  | none=>rw[ey]at hy;cases hy
  | some y0=>
   rw[ex]at hx;rw[ey]at hy;have hx:x=recF v (atZ xs (i - 1)) x0 (atZ xs (i+1)):=(yad hx).symm;have hy:y=recF v (atZ xs (i+1 - 1)) y0 (atZ xs (i+1+1)):=(yad hy).symm;have n0:=h i x0 y0 ex ey;have e1:i+1 - 1=i:=by omega
   unfold recF at hx hy;rw[e1,ex]at hy;rw[ey]at hx;split at hx
   ·rename_i c;split at hy
    ·rename_i c';omega
    ·rw[hx,hy];exact zgu rfl
   ·split at hy
    ·rw[hx,hy];exact (zeG rfl).symm
    ·omega
def colL (xs:List Nat):List Nat:=recL 5 (recL 4 (recL 3 xs))
theorem zfU (xs:List Nat):(colL xs).length=xs.length:=by
 unfold colL;rw[za4,za4,za4]
theorem zn1 {xs:List Nat}(h:UnlZ xs):UnlZ (colL xs):=zff (zff (zff h))
def zqT (sh:Nat)(p:Option (Nat×Bool))(x:Nat×Bool)(n:Option (Nat×Bool)):Nat×Bool:=
 (x.1,x.2 || (decide (x.1=sh) && p.isSome && !(p.map (·.2)).getD false && !(n.map (·.2)).getD false))
def zfC (sh:Nat)(l:List (Nat×Bool)):List (Nat×Bool):=mapW (zqT sh) l
def zcO (c:List Nat):List (Nat×Bool):=c.map fun x=>(x,false)
def marked (c:List Nat):List (Nat×Bool):=zfC 0 (zfC 1 (zfC 2 (zcO c)))
def zgq (c:List Nat):List Bool:=(marked c).map (·.2)
theorem zhd (c:List Nat):(marked c).length=c.length:=by
 unfold marked zfC zcO;rw[zcj,zcj,zcj,yab]
theorem zhc (c:List Nat):(zgq c).length=c.length:=by
 unfold zgq;rw[yab,zhd]
theorem ziL {p n:Option Nat}{y:Nat}(h:y < ze2 p n):p=some y∨n=some y:=by
 unfold ze2 at h;split at h
 ·omega
 ·rename_i c;have c0:p=some 0∨n=some 0:=Decidable.byContradiction fun q=>c ⟨fun z=>q (.inl z),fun z=>q (.inr z)⟩;split at h
  ·have:y=0:=by omega
   subst this;exact c0
  ·rename_i d;have d0:p=some 1∨n=some 1:=Decidable.byContradiction fun q=>d ⟨fun z=>q (.inl z),fun z=>q (.inr z)⟩;have:y=0∨y=1:=by omega
   rcases this with rfl | rfl
   ·exact c0
   ·exact d0
def zaX (xs:List Nat)(k:Nat):List Nat:=(if k=0 then none else xs[k - 1]?).toList++xs[k+1]?.toList
theorem zfZ {xs:List Nat}{k y:Nat}:y∈zaX xs k↔(if k=0 then none else xs[k - 1]?)=some y∨xs[k+1]?=some y:=by
 unfold zaX;rw[yaj,Option.mem_toList,Option.mem_toList]
def zdM (xs:List Nat)(k:Nat):Nat:=ze2 (if k=0 then none else xs[k - 1]?) xs[k+1]?
theorem zkr {xs:List Nat}{k:Nat}:zdM xs k∉zaX xs k:=fun h=>by
 rcases zfZ.mp h with q | q
 ·exact zeG q rfl
 ·exact zgu q rfl
theorem zhU {xs:List Nat}{k y:Nat}(h:y < zdM xs k):y∈zaX xs k:=zfZ.mpr (ziL h)
theorem zmk (xs:List Nat)(k:Nat):zdM xs k≤2:=znS _ _
theorem zgU {v:Nat}{xs:List Nat}{k:Nat}(h:k < xs.length):(recL v xs)[k]?=some (if xs.getD k 0=v then zdM xs k else xs.getD k 0):=by
 unfold recL mapW;rw[zdc,yae,yac h];rfl
def mixL (v:Nat)(xs:List Nat)(k:Nat):List Nat:=(recL v xs).take k++xs.drop k
theorem znC {v:Nat}{xs:List Nat}{k:Nat}(h:xs.length≤k):mixL v xs k=recL v xs:=by
 unfold mixL;rw[yas (by rw[za4];exact h),yaX h,yay]
theorem zfB (v:Nat)(xs:List Nat)(k:Nat):(mixL v xs k).length=xs.length:=by
 unfold mixL;rw[yaq,yan,yaN,za4];omega
theorem zdz (v:Nat)(xs:List Nat)(k j:Nat):(mixL v xs k)[j]?=if j < k then (recL v xs)[j]? else xs[j]?:=by
 unfold mixL;by_cases hk:k≤xs.length
 ·rw[List.getElem?_append,yan,za4,ybs hk];split
  ·rw[ybQ];rw[if_pos (by assumption)]
  ·rw[ycf];congr 1;omega
 ·rw[yaX (by omega),yay,yas (by rw[za4];omega)];split
  ·rfl
  ·rw[yaU (by rw[za4];omega),yaU (by omega)]
theorem zlR {v:Nat}{xs:List Nat}{k j:Nat}(h:k≤j):(mixL v xs k)[j]?=xs[j]?:=by
 rw[zdz,if_neg (by omega)]
theorem zlP {v:Nat}{xs:List Nat}{k:Nat}(h:k < xs.length)(hv:xs.getD k 0≠v):mixL v xs (k+1)=mixL v xs k:=by
 apply ya4;intro j;rw[zdz,zdz];by_cases c:j < k
 ·rw[if_pos c,if_pos (by omega)]
 ·rw[if_neg c];split
  ·have:j=k:=by omega
   subst this;rw[zgU h,if_neg hv,yae,yac h];rfl
  ·rfl
theorem zlQ {v:Nat}{xs:List Nat}{k:Nat}(hu:Unl xs)(h:k < xs.length)(hv:xs.getD k 0=v):(if k=0 then none else (mixL v xs k)[k - 1]?)=if k=0 then none else xs[k - 1]?:=by
 cases k with
 | zero=>rfl
 | succ k=>
  show (mixL v xs (k+1))[k]?=xs[k]?;rw[zdz,if_pos (by omega),zgU (by omega)];have:=hu k h;rw[hv]at this;rw[if_neg this,yae,yac (show k < xs.length by omega)];rfl
theorem ziy {v:Nat}{xs:List Nat}{k:Nat}(hu:Unl xs)(h:k < xs.length)(hv:xs.getD k 0=v):zaX (mixL v xs k) k=zaX xs k:=by
 unfold zaX;rw[zlQ hu h hv,zlR (j:=k+1) (by omega)]
theorem znB {v:Nat}{xs:List Nat}{k:Nat}(h:k < xs.length)(hv:xs.getD k 0=v):mixL v xs (k+1)=(mixL v xs k).set k (zdM xs k):=by
 apply ya4;intro j;rw[ybu,zfB,zdz,zdz];by_cases c:k=j
 ·subst c;rw[if_pos rfl,if_pos h,if_pos (by omega),zgU h,if_pos hv]
 ·rw[if_neg c];by_cases c2:j < k
  ·rw[if_pos c2,if_pos (by omega)]
  ·rw[if_neg c2,if_neg (by omega)]
def zci (sh:Nat)(cs:List Nat)(ms:List Bool):List Bool:=(zfC sh (cs.zip ms)).map (·.2)
theorem zaS {sh:Nat}{cs:List Nat}{ms:List Bool}(h:cs.length=ms.length):(zci sh cs ms).length=ms.length:=by
 unfold zci zfC;rw[yab,zcj,ycl];omega
theorem zif {cs:List Nat}:∀{ms:List Bool},cs.length=ms.length→(cs.zip ms).map (·.1)=cs:=by
 induction cs with
 | nil=>intro ms _;rfl
 | cons c cs ih=>
  intro ms h;cases ms with
  | nil=>cases h
  | cons m ms=>
   show c::(cs.zip ms).map (·.1)=c::cs;rw[ih (Nat.succ.inj h)]
theorem zi2:∀(l:List (Nat×Bool)),(l.map (·.1)).zip (l.map (·.2))=l
 | []=>rfl
 | x::l=>by
  show x::(l.map (·.1)).zip (l.map (·.2))=x::l;rw[zi2 l]
theorem zlS (sh:Nat)(l:List (Nat×Bool)):(zfC sh l).map (·.1)=l.map (·.1):=by
 apply ya4;intro k;unfold zfC mapW;rw[yap,yap,zdc];cases l[k]? <;> rfl
theorem zhO {sh:Nat}{cs:List Nat}{ms:List Bool}(h:cs.length=ms.length):zfC sh (cs.zip ms)=cs.zip (zci sh cs ms):=by
 have e:=zi2 (zfC sh (cs.zip ms));rw[zlS,zif h]at e;exact e.symm
theorem zkZ (cs:List Nat):zcO cs=cs.zip (cs.map fun _=>false):=by
 unfold zcO
 induction cs with
 | nil=>rfl
 | cons c cs ih=>
  show (c,false)::cs.map (fun x=>(x,false))=(c,false)::cs.zip (cs.map fun _=>false);rw[ih]
theorem zhN (cs:List Nat):zgq cs=zci 0 cs (zci 1 cs (zci 2 cs (cs.map fun _=>false))):=by
 have l1:cs.length=(cs.map fun _=>false).length:=by rw[yab]
 have l2:cs.length=(zci 2 cs (cs.map fun _=>false)).length:=by rw[zaS l1,← l1]
 unfold zgq marked;rw[zkZ,zhO l1,zhO l2];rfl
theorem zdy {sh:Nat}{cs:List Nat}{ms:List Bool}(hl:cs.length=ms.length){k:Nat}(h:k < cs.length):(zci sh cs ms)[k]?=some (ms.getD k false || (decide (cs.getD k 0=sh) && decide (1≤k) && !ms.getD (k - 1) false && !ms.getD (k+1) false)):=by
 unfold zci zfC mapW;have gz:∀ j,(cs.zip ms)[j]?=if h:j < cs.length then some (cs[j],ms[j]'(by omega)) else none:=fun j=>by
  split
  ·rename_i q;rw[yac (by rw[ycl];omega),List.getElem_zip]
  ·exact yaU (by rw[ycl];omega)
 have gm:∀ j,ms.getD j false=(((cs.zip ms)[j]?).map (·.2)).getD false:=fun j=>by
  rw[gz];split
  ·rw[yae,yac (by omega)];rfl
  ·rw[yae,yaU (by omega)];rfl
 rw[yap,zdc,gm k,gm (k+1),gm (k - 1),yae,yac h];have e:=gz k;rw[dif_pos h]at e;rw[e];show some _=some _;unfold zqT;cases k with
 | zero=>simp
 | succ k=>
  have e2:=gz k;rw[dif_pos (by omega)]at e2;simp[e2]
def mixM (sh:Nat)(cs:List Nat)(ms:List Bool)(k:Nat):List Bool:=(zci sh cs ms).take k++ms.drop k
theorem znA {sh:Nat}{cs:List Nat}{ms:List Bool}(hl:cs.length=ms.length){k:Nat}(h:cs.length≤k):mixM sh cs ms k=zci sh cs ms:=by
 unfold mixM;rw[yas (by rw[zaS hl];omega),yaX (by omega),yay]
theorem zfA {sh:Nat}{cs:List Nat}{ms:List Bool}(hl:cs.length=ms.length)(k:Nat):(mixM sh cs ms k).length=cs.length:=by
 unfold mixM;rw[yaq,yan,yaN,zaS hl];omega
theorem zcx {sh:Nat}{cs:List Nat}{ms:List Bool}(hl:cs.length=ms.length)(k j:Nat):(mixM sh cs ms k)[j]?=if j < k then (zci sh cs ms)[j]? else ms[j]?:=by
 unfold mixM;by_cases hk:k≤ms.length
 ·rw[List.getElem?_append,yan,zaS hl,ybs hk];split
  ·rw[ybQ];rw[if_pos (by assumption)]
  ·rw[ycf];congr 1;omega
 ·rw[yaX (by omega),yay,yas (by rw[zaS hl];omega)];split
  ·rfl
  ·rw[yaU (by rw[zaS hl];omega),yaU (by omega)]
def zoL (ms:List Bool)(k:Nat):Bool:=!ms.getD (k - 1) false && !ms.getD k false && !ms.getD (k+1) false
theorem zlN {sh:Nat}{cs:List Nat}{ms:List Bool}(hl:cs.length=ms.length){k:Nat}(h:k < cs.length)(hn:¬ (1≤k∧cs.getD k 0=sh∧zoL ms k=true)):mixM sh cs ms (k+1)=mixM sh cs ms k:=by
 apply ya4;intro j;rw[zcx hl,zcx hl];by_cases c:j < k
 ·rw[if_pos c,if_pos (by omega)]
 ·rw[if_neg c];split
  ·have:j=k:=by omega
   subst this;rw[zdy hl h];unfold zoL at hn;rw[yac (by omega)];have e:ms.getD j false=ms[j]'(by omega):=by
    rw[yae,yac (by omega)];rfl
   rw[e]at hn ⊢;congr 1;generalize ms[j]=a at hn ⊢;generalize ms.getD (j - 1) false=b at hn ⊢;generalize ms.getD (j+1) false=d at hn ⊢;cases a <;> cases b <;> cases d <;> simp at hn ⊢
   intro q;omega
  ·rfl
structure zrs (ms:List Bool)(sp:List Nat):Prop where
 up:sp.Pairwise (· < ·)
 iff:∀ j,j∈sp↔ms.getD j false=true
theorem zrs.lt {ms:List Bool}{sp:List Nat}(S:zrs ms sp){j:Nat}(h:j∈sp):j < ms.length:=by
 have h:=(S.iff j).mp h;rw[yae]at h;cases e:ms[j]? with
 | none=>rw[e]at h;cases h
 | some x=>exact (yak.mp e).1
def zcK {α:Type}(es:List α)(ms:List Bool):List α:=((es.zip ms).filter (·.2)).map (·.1)
def colN (xs:List Nat):Nat→List Nat
 | 0=>xs
 | i+1=>recL (3+i) (colN xs i)
theorem ziS (xs:List Nat)(i:Nat):(colN xs i).length=xs.length:=by
 induction i with
 | zero=>rfl
 | succ i ih=>rw[colN,za4,ih]
theorem zn0 {xs:List Nat}(h:Unl xs)(i:Nat):Unl (colN xs i):=by
 induction i with
 | zero=>exact h
 | succ i ih=>exact zof (zff (unlZ ih))
def mkN (cs:List Nat):Nat→List Bool
 | 0=>cs.map fun _=>false
 | i+1=>zci (2 - i) cs (mkN cs i)
theorem zlM (cs:List Nat):mkN cs 3=zgq cs:=(zhN cs).symm
theorem zkf (cs:List Nat)(i:Nat):cs.length=(mkN cs i).length:=by
 induction i with
 | zero=>rw[mkN,yab]
 | succ i ih=>rw[mkN,zaS ih,ih]
theorem znz {sh:Nat}{cs:List Nat}{ms:List Bool}(hl:cs.length=ms.length):mixM sh cs ms 1=ms:=by
 by_cases h:0 < cs.length
 ·rw[zlN hl h (fun z=>by omega)];rfl
 ·have:ms=[]:=List.eq_nil_of_length_eq_zero (by omega);subst this;unfold mixM;rw[List.eq_nil_of_length_eq_zero (show (zci sh cs []).length=0 by rw[zaS hl];rfl)];rfl
def zaA (ps:List Nat):Prop:=∀ i (h:i < ps.length),ps[i]≤i
def par (ps:List Nat):Nat→Option Nat
 | 0=>none
 | k+1=>ps[k]?
theorem zaM {ps:List Nat}(T:zaA ps){k p:Nat}(h:par ps k=some p):p < k∧k < ps.length+1:=by
 cases k with
 | zero=>cases h
 | succ k=>
  obtain ⟨h1,rfl⟩:=yak.mp (show ps[k]?=some p from h);have:=T k h1;omega
theorem zg0 {ps:List Nat}{k:Nat}(h1:1≤k)(h2:k < ps.length+1):∃ p,par ps k=some p:=by
 cases k with
 | zero=>omega
 | succ k=>exact ⟨_,yac (show k < ps.length by omega)⟩
theorem znf {ps:List Nat}{k:Nat}(h2:k < ps.length+1)(h:par ps k=none):k=0:=by
 cases k with
 | zero=>rfl
 | succ k=>
  have:=List.getElem?_eq_none_iff.mp (show ps[k]?=none from h);omega
def wayF (ps:List Nat)(one:Nat):Nat→Nat→Option (List Nat)
 | 0,_=>none
 | f+1,o=>if o=one then some [o] else match par ps o with
  | none=>none
  | some p=>(wayF ps one f p).map (· ++ [o])
theorem zhq {ps:List Nat}(T:zaA ps){one:Nat}:∀ f g o,o < f→o < g→wayF ps one f o=wayF ps one g o
 | 0,_,_,h,_=>absurd h (ybV _)
 | _,0,_,_,h=>absurd h (ybV _)
 | f+1,g+1,o,hf,hg=>by
  unfold wayF;split
  ·rfl
  ·cases e:par ps o with
   | none=>rfl
   | some p=>
    have:=(zaM T e).1;show (wayF ps one f p).map _=(wayF ps one g p).map _;rw[zhq T f g p (by omega) (by omega)]
def wayL (ps:List Nat)(one o:Nat):Option (List Nat):=wayF ps one (o+1) o
theorem zkI {ps:List Nat}{o:Nat}:wayL ps o o=some [o]:=by
 unfold wayL wayF;rw[if_pos rfl]
theorem zdZ {ps:List Nat}(T:zaA ps){one o:Nat}(h:o≠one):wayL ps one o=match par ps o with
  | none=>none
  | some p=>(wayL ps one p).map (· ++ [o]):=by
 unfold wayL;rw[wayF,if_neg h];cases e:par ps o with
 | none=>rfl
 | some p=>
  show (wayF ps one o p).map _=(wayF ps one (p+1) p).map _;rw[zhq T o (p+1) p (zaM T e).1 (by omega)]
theorem zkJ {ps:List Nat}(T:zaA ps){one:Nat}:∀ n o,o≤n→o < one→wayL ps one o=none
 | n,o,hn,h=>by
  rw[zdZ T (by omega)];cases e:par ps o with
  | none=>rfl
  | some p=>
   have hp:=(zaM T e).1;show (wayL ps one p).map _=none;cases n with
   | zero=>omega
   | succ n=>rw[zkJ T n p (by omega) (by omega)];rfl
def isB (ps:List Nat)(k j:Nat):Bool:=(wayL ps k j).isSome
def benL (ps:List Nat)(k n:Nat):List Nat:=(List.range n).filter (isB ps k)
theorem zb6 {ps:List Nat}{k:Nat}:isB ps k k=true:=by
 unfold isB;rw[zkI];rfl
theorem zdL {ps:List Nat}(T:zaA ps){k j:Nat}(h:j < k):isB ps k j=false:=by
 unfold isB;rw[zkJ T j j (yaa _) h];rfl
theorem zbO {ps:List Nat}(T:zaA ps){k j p:Nat}(h:j≠k)(e:par ps j=some p):isB ps k j=isB ps k p:=by
 unfold isB;rw[zdZ T h,e];show ((wayL ps k p).map _).isSome=_;cases wayL ps k p <;> rfl
theorem zn7 {ps:List Nat}(T:zaA ps)(k:Nat):benL ps k (k+1)=[k]:=by
 unfold benL;rw[ycm,ybg];have e1:(List.range k).filter (isB ps k)=[]:=by
  rw[ybI];intro j hj z;rw[zdL T (ya8.mp hj)]at z;cases z
 rw[e1,List.nil_append,ybv zb6];rfl
theorem zb7 {ps:List Nat}{k n j:Nat}:j∈benL ps k n↔j < n∧isB ps k j=true:=by
 unfold benL;rw[ya7,ya8]
theorem zh8 {ps:List Nat}{k n:Nat}:benL ps k (n+1)=benL ps k n++(if isB ps k n=true then [n] else []):=by
 unfold benL;rw[ycm,ybg];congr 1;by_cases h:isB ps k n=true
 ·rw[if_pos h,ybv h];rfl
 ·rw[if_neg h,ybW h];rfl
theorem zjR (ps:List Nat)(k n:Nat):(benL ps k n).length≤n:=by
 have:=ya6 (isB ps k) (List.range n);rw[ybf]at this;exact this
theorem ziW (ps:List Nat)(k n:Nat):(benL ps k n).Pairwise (· < ·):=List.Pairwise.filter _ List.pairwise_lt_range
theorem zjJ {ps:List Nat}(T:zaA ps):∀ n j,j≤n→j < ps.length+1→isB ps 0 j=true
 | n,j,hn,h=>by
  by_cases c:j=0
  ·rw[c];exact zb6
  ·obtain ⟨p,e⟩:=zg0 (by omega) h;have:=(zaM T e).1;rw[zbO T c e];cases n with
   | zero=>omega
   | succ n=>exact zjJ T n p (by omega) (by omega)
theorem zmJ {ps:List Nat}(T:zaA ps):benL ps 0 (ps.length+1)=List.range (ps.length+1):=by
 unfold benL;rw[List.filter_eq_self];exact fun j hj=>zjJ T j j (yaa _) (ya8.mp hj)
def zb0 (ps:List Nat)(k n:Nat):List Nat:=(List.range n).filter fun j=>decide (par ps j=some k)
theorem zaD {ps:List Nat}{k n j:Nat}:j∈zb0 ps k n↔j < n∧par ps j=some k:=by
 unfold zb0;rw[ya7,ya8,decide_eq_true_eq]
theorem zfY {ps:List Nat}{k n:Nat}:zb0 ps k (n+1)=zb0 ps k n++(if par ps n=some k then [n] else []):=by
 unfold zb0;rw[ycm,ybg];congr 1;by_cases h:par ps n=some k
 ·rw[if_pos h,ybv (by exact yal h)];rfl
 ·rw[if_neg h,ybW (by rw[yai h];decide)];rfl
theorem zgw (ps:List Nat)(k n:Nat):(zb0 ps k n).length≤n:=by
 have:=ya6 (fun j=>decide (par ps j=some k)) (List.range n);rw[ybf]at this;exact this
theorem zh0 (ps:List Nat)(k n:Nat):(zb0 ps k n).Pairwise (· < ·):=List.Pairwise.filter _ List.pairwise_lt_range
theorem zbV {ps:List Nat}(T:zaA ps){k:Nat}:∀ n j,j≤n→j < ps.length+1→(isB ps k j=true↔j=k∨∃ c,par ps c=some k∧isB ps c j=true)
 | n,j,hn,h=>by
  by_cases c:j=k
  ·constructor
   ·exact fun _=>.inl c
   ·intro _;rw[c];exact zb6
  ·cases e:par ps j with
   | none=>
    have j0:=znf h e;have no:∀ m,j≠m→isB ps m j=false:=fun m hm=>by
     unfold isB;rw[zdZ T hm,e];rfl
    constructor
    ·intro z;rw[no k c]at z;cases z
    ·rintro (z | ⟨d,hd,z⟩)
     ·exact absurd z c
     ·by_cases y:j=d
      ·rw[← y,e]at hd;cases hd
      ·rw[no d y]at z;cases z
   | some p=>
    have hp:=(zaM T e).1;cases n with
    | zero=>omega
    | succ n=>
     have ih:=zbV T (k:=k) n p (by omega) (by omega);rw[zbO T c e,ih];constructor
     ·rintro (z | ⟨d,hd,z⟩)
      ·refine .inr ⟨j,?_,zb6⟩;rw[e,z]
      ·by_cases y:j=d
       ·rw[← y]at z;rw[zdL T hp]at z;cases z
       ·exact .inr ⟨d,hd,by rw[zbO T y e];exact z⟩
     ·rintro (z | ⟨d,hd,z⟩)
      ·exact absurd z c
      ·by_cases y:j=d
       ·subst y;rw[e]at hd;exact .inl (yad hd)
       ·rw[zbO T y e]at z;exact .inr ⟨d,hd,z⟩
theorem zde {ps:List Nat}(T:zaA ps){k c d:Nat}(hc:par ps c=some k)(hd:par ps d=some k)(hcd:c≠d):∀ n j,j≤n→isB ps c j=true→isB ps d j=true→False
 | n,j,hn,h1,h2=>by
  by_cases e1:j=c
  ·subst e1;rw[zbO T hcd hc,zdL T (zaM T hd).1]at h2;cases h2
  ·by_cases e2:j=d
   ·subst e2;rw[zbO T e1 hd,zdL T (zaM T hc).1]at h1;cases h1
   ·cases e:par ps j with
    | none=>
     unfold isB at h1;rw[zdZ T e1,e]at h1;cases h1
    | some p=>
     have hp:=(zaM T e).1;rw[zbO T e1 e]at h1;rw[zbO T e2 e]at h2;cases n with
     | zero=>omega
     | succ n=>exact zde T hc hd hcd n p (by omega) h1 h2
theorem zj7 {ps:List Nat}(T:zaA ps){k:Nat}(hk:k < ps.length+1):(k::((zb0 ps k (ps.length+1)).map fun c=>benL ps c (ps.length+1)).flatten).Perm (benL ps k (ps.length+1)):=by
 have lt:∀{l:List Nat},l.Pairwise (· < ·)→l.Nodup:=fun h=>List.Pairwise.imp (fun {a b} (q:a < b)=>yao q) h;refine (ycA ?_ (lt (ziW ps k _))).mpr fun j=>?_
 ·rw[yaV];refine ⟨fun h=>?_,?_⟩
  ·obtain ⟨l,hl,hj⟩:=ycn.mp h;obtain ⟨c,hc,rfl⟩:=yaG.mp hl;have h1:=(zaD.mp hc).2;have h2:=(zb7.mp hj).2;rw[zdL T (zaM T h1).1]at h2;cases h2
  ·show List.Pairwise _ _;rw[List.pairwise_flatten];refine ⟨fun l hl=>?_,?_⟩
   ·obtain ⟨c,hc,rfl⟩:=yaG.mp hl;exact lt (ziW ps c _)
   ·rw[ybF];refine List.Pairwise.imp_of_mem (fun {c d} hc hd hcd=>?_) (zh0 ps k _);intro x hx y hy z;subst z;exact zde T (zaD.mp hc).2 (zaD.mp hd).2 (yao hcd) x x (yaa _) (zb7.mp hx).2 (zb7.mp hy).2
 ·rw[yam,ycn,zb7];constructor
  ·rintro (rfl | ⟨l,hl,hj⟩)
   ·exact ⟨hk,zb6⟩
   ·obtain ⟨c,hc,rfl⟩:=yaG.mp hl;obtain ⟨h1,h2⟩:=zb7.mp hj;exact ⟨h1,(zbV T j j (yaa _) h1).mpr (.inr ⟨c,(zaD.mp hc).2,h2⟩)⟩
  ·rintro ⟨h1,h2⟩;rcases (zbV T j j (yaa _) h1).mp h2 with q | ⟨c,hc,q⟩
   ·exact .inl q
   ·exact .inr ⟨_,yaG.mpr ⟨c,zaD.mpr ⟨(zaM T hc).2,hc⟩,rfl⟩,zb7.mpr ⟨h1,q⟩⟩
def zrx (t u:TS):TS:=fun D σ H=>∀ N:L2.St→Hp→Prop,(∀ σ' H',u D σ' H'→N σ' H')→t { D with nx:=N } σ H
theorem zaG {X:Cx}{st:Stmt}{rest:List Stmt}{t u:TS}(h1:PS X st t)(h2:PSs X rest u):PSs X (st::rest) (zrx t u):=fun pins s σ H D I h=>zaj h1 h2 pins s σ H D I (h (u D) fun _ _ z=>z)
def zrw (t u:TS):TS:=fun D σ H=>∃ M:L2.St→Hp→Prop,(∀ N:L2.St→Hp→Prop,(∀ σ' H',M σ' H'→N σ' H')→t { D with nx:=N } σ H)∧∀ σ' H',M σ' H'→u D σ' H'
theorem zeb {X:Cx}{st:Stmt}{rest:List Stmt}{t u:TS}(h1:PS X st t)(h2:PSs X rest u):PSs X (st::rest) (zrw t u):=fun pins s σ H D I h=>by
 obtain ⟨M,h3,h4⟩:=h;exact zay h1 h2 pins s σ H D I ⟨M,h3 M fun _ _ z=>z,h4⟩
theorem zrR {tb:TS}{D:Ends}{Pn:L2.St→Hp→Prop}{i:Nat}{x:V}{σ:L2.St}{H:Hp}(h:∀(N B:L2.St→Hp→Prop) (R:VK),(∀ σ H,Pn σ H→N σ H)→(∀ σ H,D.nx σ H→B σ H)→(∀ v H,D.rt v H→R v H)→tb { nx:=N,rt:=R,bk:=B,ct:=N } (σ.set i (some x)) H):zkp i x σ H fun σ2 H2=>tb { D with nx:=Pn,ct:=Pn,bk:=D.nx } σ2 H2:=h Pn D.nx D.rt (fun _ _ z=>z) (fun _ _ z=>z) (fun _ _ z=>z)
theorem zrQ {tb:TS}{D:Ends}{Pn:L2.St→Hp→Prop}{σ:L2.St}{H:Hp}(h:∀(N B:L2.St→Hp→Prop) (R:VK),(∀ σ H,Pn σ H→N σ H)→(∀ σ H,D.nx σ H→B σ H)→(∀ v H,D.rt v H→R v H)→tb { nx:=N,rt:=R,bk:=B,ct:=N } σ H):tb { D with nx:=Pn,ct:=Pn,bk:=D.nx } σ H:=h Pn D.nx D.rt (fun _ _ z=>z) (fun _ _ z=>z) (fun _ _ z=>z)
seal PSs PS PE PT PW PA PI PG PO PX
section
variable {P:Program}{w:World}{K:Frag}{mg:Str→Option Value}{base:Heap}
theorem znn (T:Txt K mg)(D_l_mixed:DF K mg "_law_mixed" zd6 zdt):FC P w K mg base 1 "_law_mixed" zdt zk5:=by
 refine D_l_mixed.ok sc_l_mixed (fun vs H Q E h=>?_) (fun f cdv A outer s H vs Q E hr h=>?_)
 ·obtain ⟨c,k,rfl,_⟩:=h;rfl
 obtain ⟨c,k,rfl,q⟩:=h;refine ⟨_,(zaj (zar (i:=2) sc_l_mixed.nd rfl (Or.inl rfl) (zav zdI (zav zch (zav zbC (zav zbC (zav zdI (pv 0) zai) (zav zch zai (pv 1))) zai) zai) zai))
   (zaj (zar (i:=3) sc_l_mixed.nd rfl (Or.inl rfl) (zav zdI (zav zbC (zav zbC (zav zch (pv 2) (pv 2)) (zav zch zai (pv 2))) (pv 1)) zai))
   (zae (zas (zav ziu (zav zdI (zav zbC (zav zbC (zav zch (pv 3) (pv 3)) (zav zch zai (pv 3))) (zav zch zai (pv 1))) zai) zai))))),?_⟩
 walk_at "rd"
 exact q _
theorem znx (T:Txt K mg)(D_l_begin:DF K mg "_law_begin" zd7 zdu):FC P w K mg base 1 "_law_begin" zdu (zlb K):=by
 refine D_l_begin.ok sc_l_begin (fun vs H Q E h=>?_) (fun f cdv A outer s H vs Q E hr h=>?_)
 ·obtain ⟨L,ns,rfl,_⟩:=h;rfl
 obtain ⟨L,ns,rfl,hS,q⟩:=h;refine ⟨_,(zae (zas (zpe (zgY zaQ (pv 0) (zgY zaQ zai (zgY zaQ zai zo9))) rfl rfl (by simp) (by decide)))),?_⟩;intro p hp;refine ⟨_,rfl,zab,[(.inr "script",.ref L),(.inr "at",.int 0),(.inr "left",.int 0)],rfl,(by show 3≤15;decide),?_⟩;have e:upd (upd H p (.dK [])) p (.dK (zeT [] [(.inr "script",.ref L),(.inr "at",.int 0),(.inr "left",.int 0)]))=upd H p (zcX L 0 0):=by
  rw[zoP];have:zeT [] [((.inr "script" : Key),V.ref L),(.inr "at",.int 0),(.inr "left",.int 0)]=[(.inr "script",.ref L),(.inr "at",.int 0),(.inr "left",.int 0)]:=by
   have a1:putK [] (.inr "script" : Key) (V.ref L)=[(.inr "script",.ref L)]:=zea (kvs:=[]) _ rfl;have a2:putK [((.inr "script" : Key),V.ref L)] (.inr "at") (.int 0)=[(.inr "script",.ref L),(.inr "at",.int 0)]:=by
    rw[zea _ (by rw[zbk (zdK (show ("script" : Str) ≠ "at" by decide +kernel))];rfl)];rfl
   have a3:putK [((.inr "script" : Key),V.ref L),(.inr "at",.int 0)] (.inr "left") (.int 0)=[(.inr "script",.ref L),(.inr "at",.int 0),(.inr "left",.int 0)]:=by
    rw[zea _ (by rw[zbk (zdK (show ("script" : Str) ≠ "left" by decide +kernel)),zbk (zdK (show ("at" : Str) ≠ "left" by decide +kernel))];rfl)];rfl
   unfold zeT;simp only[List.foldl_cons,List.foldl_nil];rw[a1,a2,a3]
  rw[this];rfl
 rw[e];exact q p _ hp (zaf hp _) ⟨ns,0,0,zab,(zaf hp _).seq hS⟩
theorem zpk (T:Txt K mg)(D_l_take:DF K mg "_law_take" zfb zce)(F_l_mixed:FC P w K mg base 1 "_law_mixed" zdt zk5):FC P w K mg base 2 "_law_take" zce (zhz K):=by
 refine D_l_take.ok sc_l_take (fun vs H Q E h=>?_) (fun f cdv A outer s H vs Q E hr h=>?_)
 ·obtain ⟨d,L,m,rfl,_⟩:=h;rfl
 obtain ⟨d,L,m,rfl,⟨hm,hm'⟩,⟨ns,a,l,hd,hS⟩,q⟩:=h;refine ⟨_,(zaj (zar (i:=2) sc_l_take.nd rfl (Or.inl rfl) (zdR (zeE hr) (pv 0) zaQ (fun _ _=>rfl)))
   (zaj (zar (i:=3) sc_l_take.nd rfl (Or.inl rfl) (zdR (zeE hr) (pv 0) zaQ (fun _ _=>rfl)))
   (zay (zaY (zat zg4 (zdR (zeE hr) (pv 0) zaQ (fun _ _=>rfl)) zai (zaH _)) (zaj (zfx (zeE hr) (pv 0) zaQ (zav zbC (pv 2) zai) rfl)
   (zaj (zar (i:=4) sc_l_take.nd rfl (Or.inl rfl) zai)
   (zay (zaY (zat zph (zam zao rfl T.m_len boot_len (zaa (pv 3) zad)) zai (zaH _)) (zae (zar (i:=4) sc_l_take.nd rfl (Or.inl rfl) (zaR za1 (pv 3) (zav zdI (pv 2) (zam zao rfl T.m_len boot_len (zaa (pv 3) zad))) (fun _ _=>rfl)))) zaw)
   (zay (zaY (PW.pt (zqv (zat zlz (pv 2) (zam zao rfl T.m_len boot_len (zaa (pv 3) zad)) (zaH _)) (zov (zat zga (zam zhm rfl T.m_abs boot_abs (zaa (pv 4) zad)) (zav zgo zai zai) (zaH _))))) (zae (zas (zav zdI (zax F_l_mixed hr (zaa (pv 4) (zaa (pv 2) zad))) (pv 1)))) zaw)
   (zae (zfx (zeE hr) (pv 0) zaQ (zam zhm rfl T.m_abs boot_abs (zaa (pv 4) zad)) rfl)))))) zaw)
   (zaj (zar (i:=5) sc_l_take.nd rfl (Or.inl rfl) (zav zdI (zdR (zeE hr) (pv 0) zaQ (fun _ _=>rfl)) (pv 1)))
   (zaj (zfx (zeE hr) (pv 0) zaQ (zav ziu (zdR (zeE hr) (pv 0) zaQ (fun _ _=>rfl)) (pv 1)) rfl)
   (zae (zas (pv 5)))))))),?_⟩
 refine ⟨_,rfl,_,_,rfl,zrg hd,_,rfl,_,_,rfl,zko hd,?_⟩;refine ⟨fun σ' H'=>∃(x2 x3 x4 x5:Option V) (a' l':Int),σ'=[some (.ref d),some (.int m),x2,x3,x4,x5]∧H' d=some (zcX L a' l')∧Keep d H H',?_,?_⟩
 ·refine ⟨_,rfl,_,_,rfl,zhh hd,rfl,_,rfl,?_⟩;refine ite2 (fun _=>?_) (fun _=>?_)
  ·refine ⟨_,rfl,_,_,rfl,rfl,_,rfl,_,_,rfl,zqw hd,?_⟩;have hd1:upd H d (zcX L (a+1) l) d=some (zcX L (a+1) l):=zab;obtain ⟨-,k1⟩:=LS.set (a':=a+1) (l':=l) hd hS;have hS1:=ze6 hd k1 hS;generalize upd H d (zcX L (a+1) l)=H1 at hd1 k1 hS1 ⊢;refine ⟨fun σ' H'=>∃ c:Int,σ'=[some (.ref d),some (.int m),some (.int a),some (.ref L),some (.int c),none]∧H1=H',?_,?_⟩
   ·refine ⟨_,rfl,_,_,rfl,.inl hS1,_,_,rfl,rfl,_,rfl,?_⟩;refine ite2 (fun c=>?_) (fun c=>?_)
    ·have c':(0:Int) < (((ns.map V.int).length:Nat):Int):=yaQ c;obtain ⟨v,hv⟩:=zrp (ns:=ns) (k:=a) (by rw[yab]at c';omega);refine ⟨_,rfl,_,rfl,_,rfl,_,_,rfl,.inl hS1,_,_,rfl,rfl,c',_,_,_,_,rfl,rfl,hS1,hv,?_⟩;exact ⟨v,rfl,rfl⟩
    ·exact ⟨0,rfl,rfl⟩
   rintro σ' H' ⟨c,rfl,rfl⟩;refine ⟨fun σ' H'=>σ'=[some (.ref d),some (.int m),some (.int a),some (.ref L),some (.int c),none]∧H1=H',?_,?_⟩
   ·refine ⟨_,rfl,_,rfl,_,_,rfl,.inl hS1,_,_,rfl,rfl,_,rfl,?_⟩;refine ite2 (fun _=>?_) (fun _=>?_)
    ·refine iteT ?_;refine ⟨_,rfl,_,rfl,c,a,rfl,fun v=>⟨_,rfl,_,_,rfl,rfl,hm,?_⟩⟩;exact q _ _ (ych _ (by omega)) (yci _ hm) k1 ⟨ns,a+1,l,hd1,hS1⟩
    ·refine ⟨_,rfl,_,rfl,_,_,rfl,rfl,⟨by decide,by decide,by decide⟩,_,_,rfl,rfl,_,rfl,?_⟩;refine ite2 (fun _=>?_) (fun _=>?_)
     ·refine ⟨_,rfl,_,rfl,c,a,rfl,fun v=>⟨_,rfl,_,_,rfl,rfl,hm,?_⟩⟩;exact q _ _ (ych _ (by omega)) (yci _ hm) k1 ⟨ns,a+1,l,hd1,hS1⟩
     ·exact ⟨rfl,rfl⟩
   rintro σ' H' ⟨rfl,rfl⟩;refine ⟨_,rfl,_,rfl,_,rfl,_,_,rfl,zjt hd1,?_⟩;obtain ⟨-,k2⟩:=LS.set (a':=a+1) (l':=if c < 0 then -c else c) hd1 hS1
   exact ⟨_,_,_,_,_,_,rfl,zab,k1.trans k2⟩
  ·exact ⟨_,_,_,_,a,l,rfl,hd,Keep.refl _ _⟩
 rintro σ' H' ⟨x2,x3,x4,x5,a',l',rfl,hd',k'⟩;have hS':=ze6 hd k' hS;refine ⟨_,rfl,_,_,rfl,zhh hd',_,rfl,_,_,rfl,rfl,hm,?_⟩;refine ⟨_,rfl,_,_,rfl,zhh hd',_,rfl,_,_,rfl,rfl,⟨hm,hm'⟩,_,rfl,_,_,rfl,zjt hd',?_⟩;obtain ⟨s1,k1⟩:=LS.set (a':=a') (l':=l' / m) hd' hS';refine ⟨_,rfl,?_⟩;exact q _ _ (ych _ (by omega)) (yci _ hm) (k'.trans k1) s1
def zqi:Sp:=fun vs H Q _=>∃ a b:Nat,vs=[.int a,.int b]∧a≠b∧Q (.int (lu a b:Nat)) H
theorem zqJ (T:Txt K mg)(D_lowest_unlike:DF K mg "lowest_unlike" zbv zbo):FC P w K mg base 1 "lowest_unlike" zbo zqi:=by
 refine D_lowest_unlike.ok sc_lowest_unlike (fun vs H Q E h=>?_) (fun f cdv A outer s H vs Q E hr h=>?_)
 ·obtain ⟨a,b,rfl,_⟩:=h;rfl
 obtain ⟨a,b,rfl,hab,q⟩:=h;refine ⟨_,(zaj (zar (i:=2) sc_lowest_unlike.nd rfl (Or.inl rfl) (zav zqD (pv 0) (pv 1)))
   (zae (zas (zav zcH (zqB F.plainAttrs_int F.slot_int_bit_length F.type_int_bit_length zha (zav zoD (pv 2) (zpb zkP (pv 2)))) zai)))),?_⟩
 refine ⟨_,rfl,_,rfl,_,_,rfl,rfl,_,rfl,_,rfl,_,rfl,_,_,rfl,rfl,rfl,_,rfl,rfl,_,_,rfl,rfl,?_⟩;rw[← zqX a b hab]at q;exact q
def zqk (K:Frag):Sp:=fun vs H Q _=>∃ d L:Addr,vs=[.ref d]∧LS K L d H∧∀(v:Int) (H':Hp),-(10 ^ 60) < v→v < 10 ^ 60→Keep d H H'→LS K L d H'→Q (.int v) H'
theorem znH {x m:Int}(h1:-999≤x)(h2:x≤999)(h3:0 < m)(h4:m≤10 ^ 57):-(10 ^ 60) < x * m∧x * m < 10 ^ 60:=by
 have a:=Int.mul_le_mul_of_nonneg_right h2 (Int.le_of_lt h3);have b:=Int.mul_le_mul_of_nonneg_right h1 (Int.le_of_lt h3);omega
theorem zqL (T:Txt K mg)(D_l_key:DF K mg "_law_key" zgR zfi)(F_l_take:FC P w K mg base 2 "_law_take" zce (zhz K)):FC P w K mg base 3 "_law_key" zfi (zqk K):=by
 refine D_l_key.ok sc_l_key (fun vs H Q E h=>?_) (fun f cdv A outer s H vs Q E hr h=>?_)
 ·obtain ⟨d,L,rfl,_⟩:=h;rfl
 obtain ⟨d,L,rfl,hs,q⟩:=h;refine ⟨_,(zaj (zar (i:=1) sc_l_key.nd rfl (Or.inl rfl) (zax F_l_take hr (zaa (pv 0) (zaa zai zad))))
   (zay (zaY (zat zga (pv 1) zai (zaH _)) (zae (zas (zax F_l_take hr (zaa (pv 0) (zaa zai zad))))) zaw)
   (zay (zaY (zat zga (pv 1) zai (zaH _)) (zae (zas (zav zcH (zax F_l_take hr (zaa (pv 0) (zaa zai zad))) zai))) zaw)
   (zay (zaY (zat zg4 (pv 1) zai (zaH _)) (zae (zas (zav zch (zav zcH (zax F_l_take hr (zaa (pv 0) (zaa zai zad))) zai) (zaR za1 (zbi (zaa zai (zaa (zav zgo zai zai) (zaa (zav zgo zai zai) (zaa (zav zgo zai zai) zad))))) (zax F_l_take hr (zaa (pv 0) (zaa zai zad))) (fun _ _=>rfl))))) zaw)
   (zae (zas (zav zch (zaR za1 (zbi (zaa zai (zaa (zpb zkP zai) zad))) (zax F_l_take hr (zaa (pv 0) (zaa zai zad))) (fun _ _=>rfl)) (zav zcH (zav zcH (zav zgo zai zai) zai) (zax F_l_take hr (zaa (pv 0) (zaa zai zad))))))))))),?_⟩
 refine ⟨_,rfl,d,L,8,rfl,by decide,hs,fun w1 H1 w0 w8 k1 s1=>?_⟩;have nd:∀{H':Hp} {p:Addr},LS K L d H'→H' p=none→p≠d:=fun s hp z=>by
  obtain ⟨_,_,_,e,_⟩:=s.ex;rw[← z,hp]at e;cases e
 refine ⟨fun σ' H'=>σ'=[some (.ref d),some (.int w1)]∧H1=H',?_,?_⟩
 ·refine ⟨_,rfl,_,_,rfl,rfl,_,rfl,?_⟩;refine ite2 (fun c=>?_) (fun c=>?_)
  ·refine ⟨_,rfl,d,L,10,rfl,by decide,s1,fun u H2 u0 u1 k2 s2=>?_⟩;exact q u H2 (by omega) (by omega) (k1.trans k2) s2
  ·exact ⟨rfl,rfl⟩
 rintro σ' H' ⟨rfl,rfl⟩;refine ⟨fun σ' H'=>σ'=[some (.ref d),some (.int w1)]∧H1=H',?_,?_⟩
 ·refine ⟨_,rfl,_,_,rfl,rfl,_,rfl,?_⟩;refine ite2 (fun c=>?_) (fun c=>?_)
  ·refine ⟨_,rfl,d,L,60,rfl,by decide,s1,fun u H2 u0 u1 k2 s2=>⟨_,_,rfl,rfl,?_⟩⟩;exact q (u - 30) H2 (by omega) (by omega) (k1.trans k2) s2
  ·exact ⟨rfl,rfl⟩
 rintro σ' H' ⟨rfl,rfl⟩;refine ⟨fun σ' H'=>σ'=[some (.ref d),some (.int w1)]∧H1=H',?_,?_⟩
 ·refine ⟨_,rfl,rfl,_,rfl,?_⟩;refine ite2 (fun c=>?_) (fun c=>?_)
  ·refine ⟨_,rfl,d,L,1999,rfl,by decide,s1,fun u H2 u0 u1 k2 s2=>⟨_,_,rfl,rfl,?_⟩⟩;refine ⟨_,_,rfl,rfl,⟨by decide,by decide,by decide⟩,_,_,rfl,rfl,⟨by decide,by decide,by decide⟩,_,_,rfl,rfl,⟨by decide,by decide,by decide⟩,(by show 4≤sizeLine;decide),fun p hp=>?_⟩;refine ⟨_,rfl,d,L,4,rfl,by decide,s2.of_new hp _,fun b H3 b0 b1 k3 s3=>?_⟩;obtain ⟨m,hat,m0,m1⟩:∃ m:Int,atI [V.int 1,V.int (10 ^ (19:Int).toNat),V.int (10 ^ (38:Int).toNat),V.int (10 ^ (57:Int).toNat)] b=some (.int m)∧0 < m∧m≤10 ^ 57:=by
    have z:b=0∨b=1∨b=2∨b=3:=by omega
    rcases z with rfl | rfl | rfl | rfl
    ·exact ⟨_,rfl,by decide +kernel,by decide +kernel⟩
    ·exact ⟨_,rfl,by decide +kernel,by decide +kernel⟩
    ·exact ⟨_,rfl,by decide +kernel,by decide +kernel⟩
    ·exact ⟨_,rfl,by decide +kernel,by decide +kernel⟩
   refine ⟨_,_,_,_,rfl,rfl,SqL.of (k3 p _ (nd s2 hp) zab),hat,_,_,rfl,rfl,.inl ⟨by omega,by omega⟩,?_⟩;obtain ⟨f1,f2⟩:=znH (x:=u - 999) (m:=m) (by omega) (by omega) m0 m1;exact q _ H3 f1 f2 ((k1.trans k2).trans ((zaf hp _).keep.trans k3)) s3
  ·exact ⟨rfl,rfl⟩
 rintro σ' H' ⟨rfl,rfl⟩;refine ⟨_,rfl,(by show 2≤sizeLine;decide),fun p hp=>?_⟩;refine ⟨_,rfl,d,L,2,rfl,by decide,s1.of_new hp _,fun b H2 b0 b1 k2 s2=>?_⟩;obtain ⟨m,hat,hm⟩:∃ m:Int,atI [V.int 1,V.int (-1)] b=some (.int m)∧(m=1∨m = -1):=by
  have z:b=0∨b=1:=by omega
  rcases z with rfl | rfl
  ·exact ⟨_,rfl,.inl rfl⟩
  ·exact ⟨_,rfl,.inr rfl⟩
 refine ⟨_,_,_,_,rfl,rfl,SqL.of (k2 p _ (nd s1 hp) zab),hat,_,_,rfl,rfl,⟨by decide,by decide,by decide⟩,_,_,rfl,rfl,_,rfl,d,L,3,rfl,by decide,s2,fun u H3 u0 u1 k3 s3=>⟨_,_,rfl,rfl,_,_,rfl,rfl,.inl ⟨by omega,by omega⟩,?_⟩⟩;have e60:(10:Int) ^ (60:Int).toNat=10 ^ 60:=rfl;rw[e60];have kk:=k1.trans ((zaf hp _).keep.trans (k2.trans k3));rcases hm with rfl | rfl
 ·exact q _ H3 (by omega) (by omega) kk s3
 ·exact q _ H3 (by omega) (by omega) kk s3
def Rise (es:List (Int×Int)):Prop:=es.Pairwise fun a b=>pLt a b=true
def ze3 (k:Int)(e:Int×Int):Prop:=-(10 ^ 60) < e.1∧e.1 < 10 ^ 60∧0≤e.2∧e.2 < k
def zhZ (e:Int×Int):Int:=64 * (if 0≤e.1 then 2 * e.1 else -2 * e.1 - 1)+e.2
def zgb (e:Int×Int):Nat:=(zhZ e).toNat
theorem zfq {e:Int×Int}(h:ze3 64 e):((zgb e:Nat):Int)=zhZ e:=by
 obtain ⟨h1,h2,h3,h4⟩:=h;unfold zgb zhZ;split <;> omega
theorem zn2 {e:Int×Int}(h:ze3 64 e):zgb e < 2 ^ 207:=by
 have z:=zfq h;obtain ⟨h1,h2,h3,h4⟩:=h;unfold zhZ at z;split at z <;> omega
theorem zmz {e f:Int×Int}(h:ze3 64 e)(g:ze3 64 f)(z:zgb e=zgb f):e=f:=by
 have z1:=zfq h;have z2:=zfq g;obtain ⟨h1,h2,h3,h4⟩:=h;obtain ⟨g1,g2,g3,g4⟩:=g;obtain ⟨a,b⟩:=e;obtain ⟨c,d⟩:=f;rw[z,z2]at z1;unfold zhZ at z1;dsimp only at *;have:a=c∧b=d:=by
  split at z1 <;> split at z1 <;> omega
 rw[this.1,this.2]
def zop (K:Frag):Sp:=fun vs H Q _=>∃(v:V) (e:Int×Int),vs=[v]∧Rep.has K H e v∧Q (.int (zhZ e)) H
theorem zpr (T:Txt K mg)(D_code:DF K mg "code" zjo zgX):FC P w K mg base 1 "code" zgX (zop K):=by
 refine D_code.ok sc_code (fun vs H Q E h=>?_) (fun f cdv A outer s H vs Q E hr h=>?_)
 ·obtain ⟨v,e,rfl,_⟩:=h;rfl
 obtain ⟨v,e,rfl,he,q⟩:=h;obtain ⟨p,x1,x2,rfl,hT,e1,e2⟩:=(show hasP K H e v from he);have hT:=SqT.of (K:=K) hT;have e1:x1=.int e.1:=e1;have e2:x2=.int e.2:=e2;subst e1 e2;refine ⟨_,(zaj (zar (i:=1) sc_code.nd rfl (Or.inl rfl) (zaR zbf (pv 0) zai (fun _ _=>rfl)))
   (zaj (zar (i:=2) sc_code.nd rfl (Or.inl rfl) (znb (zat zlz (pv 1) zai (zaH _)) (zav zch zai (pv 1)) (zav zcH (zav zch (zpb zkP zai) (pv 1)) zai)))
   (zae (zas (zav zbC (zav zch (zdx rfl T.g_KNOT_NUMBERS) (pv 2)) (zaR zbf (pv 0) zai (fun _ _=>rfl))))))),?_⟩
 refine ⟨_,rfl,_,_,_,_,rfl,rfl,hT,rfl,?_⟩;refine ⟨_,rfl,_,_,rfl,rfl,_,rfl,?_⟩;refine ite2 (fun c=>?_) (fun c=>?_)
 ·have c':0≤e.1:=yaQ c;refine ⟨_,rfl,_,_,rfl,rfl,.inl ⟨by decide,by decide⟩,?_⟩;refine ⟨_,rfl,_,_,rfl,rfl,.inl ⟨by decide,by decide⟩,_,rfl,_,_,_,_,rfl,rfl,hT,rfl,_,_,rfl,rfl,?_⟩;unfold zhZ at q;rw[if_pos c']at q;exact q
 ·have c':¬ 0≤e.1:=of_decide_eq_false (ybS.mpr c);refine ⟨_,rfl,_,rfl,_,_,rfl,rfl,.inl ⟨by decide,by decide⟩,_,_,rfl,rfl,?_⟩;refine ⟨_,rfl,_,_,rfl,rfl,.inl ⟨by decide,by decide⟩,_,rfl,_,_,_,_,rfl,rfl,hT,rfl,_,_,rfl,rfl,?_⟩;unfold zhZ at q;rw[if_neg c']at q;exact q
abbrev nV (n:Nat):V:=.int (n:Int)
theorem zqR {v:Int}(h:0≤v):∃ n:Nat,v=(n:Int):=⟨v.toNat,by omega⟩
theorem zmL {xs:List Nat}{i:Nat}(h:i < xs.length):atI (xs.map nV) (i:Int)=some (nV (xs.getD i 0)):=
 zf1 (by rw[yap,yac h,yae,yac h];rfl)
theorem zpU {xs:List Nat}{i:Nat}(h0:i≠0)(h:i < xs.length):atI (xs.map nV) ((i:Int) - 1)=some (nV (xs.getD (i - 1) 0)):=by
 have e:(i:Int) - 1=((i - 1:Nat):Int):=by omega
 rw[e];exact zmL (by omega)
theorem zmh {xs:List Nat}{i:Nat}{x:V}(h:(xs.map nV)[i]?=some x):i < xs.length∧x=nV (xs.getD i 0):=by
 rw[yap]at h;cases e:xs[i]? with
 | none=>rw[e]at h;cases h
 | some y=>
  rw[e]at h;refine ⟨(yak.mp e).1,?_⟩;rw[yae,e];exact (yad h).symm
theorem zpV (n:Nat):Builtin.bitAnd (n:Int) 1=((n % 2:Nat):Int):=by
 unfold Builtin.bitAnd;rw[yal (ybm n),yal (by decide:(0:Int)≤1)];show ((n &&& 1:Nat):Int)=_;rw[Nat.and_one_is_mod]
theorem zrk (a b:Nat):2 * ((lu a b:Nat):Int)+Builtin.bitAnd ((b:Int) / 2 ^ ((lu a b:Nat):Int).toNat) 1=((fig a b:Nat):Int):=by
 have e:(b:Int) / 2 ^ ((lu a b:Nat):Int).toNat=((b / 2 ^ lu a b:Nat):Int):=by
  rw[ybk,Int.natCast_ediv,Int.natCast_pow];rfl
 rw[e,zpV];unfold fig;omega
def But (p:Addr)(H H':Hp):Prop:=∀ b o,b≠p→H b=some o→H' b=some o
theorem But.sq {K:Frag}{p:Addr}{H H':Hp}{a:Addr}{xs:List V}(k:But p H H')(h:SqL K H a xs)(n:H p=none):SqL K H' a xs:=by
 rcases h with (h | ⟨o,h⟩) | h
 ·exact .inl (.inl (k _ _ (zac h n) h))
 ·exact .inl (.inr ⟨o,k _ _ (zac h n) h⟩)
 ·exact .inr h
theorem zml (xs:List Nat):(xs.map nV).all zeo=true:=by
 rw[yaS];intro x hx;obtain ⟨n,_,rfl⟩:=yaG.mp hx;rfl
theorem zoG (n:Nat)(xs:List Nat):inV (.int (n:Int)) (xs.map nV)=decide (n∈xs):=by
 unfold inV
 induction xs with
 | nil=>rfl
 | cons x xs ih=>
  rw[yau,ybb,ih];show ((x:Int) == (n:Int) || decide (n∈xs))=decide (n∈x::xs);by_cases h:x=n
  ·subst h;simp
  ·have:((x:Int) == (n:Int))=false:=by
    rw[beq_eq_false_iff_ne];omega
   rw[this,Bool.false_or];have e:(n∈x::xs)=(n∈xs):=propext (by simp[Ne.symm h]);simp[Ne.symm h]
def zje (K:Frag):Sp:=fun vs H Q _=>∃(a:Addr) (xs:List Nat),vs=[.ref a]∧SqL K H a (xs.map nV)∧Unl xs∧xs.length≤1000∧
 ∀(p:Addr) (H':Hp),H p=none→Same H H'→H' p=some (.lst ((zc2 xs).map nV))→Q (.ref p) H'
theorem zlA (T:Txt K mg)(D_turned:DF K mg "turned" ze7 zec)(F_lowest_unlike:FC P w K mg base 1 "lowest_unlike" zbo zqi):FC P w K mg base 2 "turned" zec (zje K):=by
 refine D_turned.ok sc_turned (fun vs H Q E h=>?_) (fun f cdv A outer s H vs Q E hr h=>?_)
 ·obtain ⟨a,xs,rfl,_⟩:=h;rfl
 obtain ⟨a,xs,rfl,hS,hu,hz,q⟩:=h;refine ⟨_,(zaj (zar (i:=1) sc_turned.nd rfl (Or.inl rfl) (zbi zad))
   (zaj (zcf PassesOwn.never rfl (zhI rfl T.m_enumerate (zaa (pv 0) zad)) (zoy rfl (zfk (zaz (i:=2) sc_turned.nd rfl (Or.inl rfl)) (zfk (zaz (i:=3) sc_turned.nd rfl (Or.inl rfl)) zlp))) (zae (zaY (zat zg4 (pv 2) zai (zaH _)) (zae (zby (zgZ F.plainAttrs_list F.slot_list_append F.type_list_append zbU (pv 1) (zaa (zav zdI (pv 3) zai) zad)))) (zaj (zar (i:=4) sc_turned.nd rfl (Or.inl rfl) (zax F_lowest_unlike hr (zaa (zaR za1 (pv 0) (zav zcH (pv 2) zai) (fun _ _=>rfl)) (zaa (pv 3) zad))))
   (zae (zby (zgZ F.plainAttrs_list F.slot_list_append F.type_list_append zbU (pv 1) (zaa (zav zbC (zav zch zai (pv 4)) (zav zoD (zav zqE (pv 3) (pv 4)) zai)) zad))))))))
   (zae (zas (pv 1))))),?_⟩
 refine ⟨(by show 0≤sizeLine;decide),fun p hp=>?_⟩;have k0:But p H (upd H p (.lst [])):=fun b o n e=>by rw[zag n];exact e
 refine ⟨_,rfl,a,rfl,⟨_,k0.sq hS hp⟩,?_⟩;refine znT (xs:=xs.map nV) (fun i σ H2=>∃ x2 x3 x4:Option V,σ=[some (.ref a),some (.ref p),x2,x3,x4]∧H2 p=some (.lst (((zc2 xs).take i).map nV))∧But p H H2) ?_ ?_ ?_ ?_
 ·exact ⟨_,_,_,rfl,zab,k0⟩
 ·rintro i σ H2 _ ⟨x2,x3,x4,rfl,_,k2⟩;exact k2.sq hS hp
 ·rintro i x σ H2 r hx ⟨x2,x3,x4,rfl,h2,k2⟩ hr;obtain ⟨hi,rfl⟩:=zmh hx;have hS2:=k2.sq hS hp;have np:p≠r:=zac h2 hr;have h3:upd H2 r (.tup [.int i,nV (xs.getD i 0)]) p=some (.lst (((zc2 xs).take i).map nV)):=by rw[zag np];exact h2
  have k3:But p H (upd H2 r (.tup [.int i,nV (xs.getD i 0)])):=fun b o n e=>(zaf hr _) b o (k2 b o n e);have hS3:=k3.sq hS hp;have hlen:(((zc2 xs).take i).map nV).length < sizeLine:=zaq (by rw[yab,yan,zbt];omega);refine ⟨r,_,rfl,SqT.of zab,rfl,_,_,rfl,_,_,rfl,rfl,?_⟩;generalize upd H2 r (.tup [.int i,nV (xs.getD i 0)])=H3 at h3 k3 hS3 ⊢;have fin:∀ v:V,v=nV (zd0 xs i)→∃ y2 y3 y4:Option V,[some (V.ref a),some (V.ref p),y2,y3,y4]=[some (V.ref a),some (V.ref p),y2,y3,y4]∧upd H3 p (.lst (((zc2 xs).take i).map nV++[v])) p=some (.lst (((zc2 xs).take (i+1)).map nV))∧But p H (upd H3 p (.lst (((zc2 xs).take i).map nV++[v]))):=by
   rintro v rfl;refine ⟨none,none,none,rfl,?_,fun b o n e=>by rw[zag n];exact k3 b o n e⟩;rw[zab,zjZ hi,yat];rfl
  refine ⟨_,rfl,rfl,_,rfl,?_⟩;refine ite2 (fun c=>?_) (fun c=>?_)
  ·have c':i=0:=by
    have:=V.int.inj (yaQ c);omega
   refine ⟨_,rfl,.inl ⟨rfl,_,SqL.of h3⟩,_,rfl,_,_,rfl,rfl,(by show (0:Int) < 2;decide),_,_,_,rfl,rfl,h3,hlen,?_⟩;obtain ⟨_,_,_,_,g2,g3⟩:=fin (.int (((xs.getD i 0:Nat):Int) % 2)) (by
    unfold zd0;rw[if_pos c',c'];show V.int _=V.int _;rw[Int.natCast_emod];rfl)
   exact ⟨_,_,_,rfl,g2,g3⟩
  ·have c':i≠0:=fun z=>c (by subst z;decide);have hne:xs.getD (i - 1) 0≠xs.getD i 0:=by
    have:=hu (i - 1) (by omega);rw[show i - 1+1=i by omega]at this;exact this
   refine ⟨_,rfl,_,rfl,_,_,rfl,rfl,_,_,_,_,rfl,rfl,hS3,zpU c' hi,_,rfl,_,_,rfl,hne,?_⟩;refine ⟨_,rfl,.inl ⟨rfl,_,SqL.of h3⟩,_,rfl,_,_,rfl,rfl,.inl ⟨by decide,by decide⟩,_,rfl,_,rfl,_,_,rfl,rfl,ybm _,_,_,rfl,rfl,_,_,rfl,rfl,_,_,_,rfl,rfl,h3,hlen,?_⟩;obtain ⟨_,_,_,_,g2,g3⟩:=fin (.int (2 * ((lu (xs.getD (i - 1) 0) (xs.getD i 0):Nat):Int)+Builtin.bitAnd (((xs.getD i 0:Nat):Int) / 2 ^ ((lu (xs.getD (i - 1) 0) (xs.getD i 0):Nat):Int).toNat) 1)) (by
    unfold zd0;rw[if_neg c',zrk])
   exact ⟨_,_,_,rfl,g2,g3⟩
 ·rintro σ H2 ⟨x2,x3,x4,rfl,h2,k2⟩;refine ⟨_,rfl,?_⟩;refine q p H2 hp (fun b o e=>k2 b o (zac e hp) e) ?_;rw[h2,yas (by rw[zbt,yab];exact yaa _)]
def zc1:Nat→List Nat→List Nat
 | 0,xs=>xs
 | n+1,xs=>zc2 (zc1 n xs)
theorem zcp (n:Nat)(xs:List Nat):(zc1 n xs).length=xs.length:=by
 induction n with
 | zero=>rfl
 | succ n ih=>rw[zc1,zbt,ih]
theorem zcD {xs:List Nat}(h:Unl xs)(n:Nat):Unl (zc1 n xs):=by
 induction n with
 | zero=>exact h
 | succ n ih=>exact zkR ih
theorem zdH {m k:Nat}{xs:List Nat}(h:zdi m xs)(hk:m≤k):zdi k xs:=fun i hi=>yaw (h i hi) hk
theorem zoU {xs:List Nat}(h:Unl xs)(hb:zdi (2 ^ 207) xs):zdi 414 (zc1 1 xs):=zca (k:=207) (by decide) h hb
theorem zoT {xs:List Nat}(h:Unl xs)(hb:zdi (2 ^ 207) xs):zdi 18 (zc1 2 xs):=zca (k:=9) (by decide) (zcD h 1) (zdH (zoU h hb) (by decide))
theorem zoS {xs:List Nat}(h:Unl xs)(hb:zdi (2 ^ 207) xs):zdi 10 (zc1 3 xs):=zca (k:=5) (by decide) (zcD h 2) (zdH (zoT h hb) (by decide))
theorem zoR {xs:List Nat}(h:Unl xs)(hb:zdi (2 ^ 207) xs):zdi 8 (zc1 4 xs):=zca (k:=4) (by decide) (zcD h 3) (zdH (zoS h hb) (by decide))
theorem zoQ {xs:List Nat}(h:Unl xs)(hb:zdi (2 ^ 207) xs):zdi 6 (zc1 5 xs):=zca (k:=3) (by decide) (zcD h 4) (zdH (zoR h hb) (by decide))
def zcL (es:List (Int×Int)):List Nat:=es.map zgb
theorem zaU (es:List (Int×Int)):(zcL es).length=es.length:=yab _
theorem zeK {es:List (Int×Int)}{i:Nat}(h:i < es.length):(zcL es).getD i 0=zgb es[i]:=by
 unfold zcL;rw[yae,yap,yac h];rfl
theorem ziT {es:List (Int×Int)}(h:∀ e∈es,ze3 64 e):zdi (2 ^ 207) (zcL es):=fun i hi=>by
 rw[zaU]at hi;rw[zeK hi];exact zn2 (h _ (ya0 hi))
theorem zfV {es:List (Int×Int)}(h:∀ e∈es,ze3 64 e)(hr:Rise es):Unl (zcL es):=fun i hi=>by
 rw[zaU]at hi;rw[zeK (by omega),zeK hi];intro z;have e:=zmz (h _ (ya0 (by omega))) (h _ (ya0 hi)) z;have:=ybd.mp hr i (i+1) (by omega) hi (by omega);rw[e]at this;have q:=zcA.mp this;omega
theorem zkv {es:List (Int×Int)}{i:Nat}(h:i < es.length):(zcL es).take (i+1)=(zcL es).take i++[zgb es[i]]:=by
 have h':i < (zcL es).length:=by rw[zaU];exact h
 have z:(zcL es)[i]'h'=zgb es[i]:=List.getElem_map zgb;rw[yaM h',z]
def zji (K:Frag):Sp:=fun vs H Q _=>∃(a:Addr) (ws:List V) (es:List (Int×Int)),vs=[.ref a]∧SqL K H a ws∧zal K H es ws∧es.length≤1000∧(∀ e∈es,ze3 64 e)∧Rise es∧
 ∀(p:Addr) (H':Hp),H p=none→Same H H'→H' p=some (.lst ((zc1 5 (zcL es)).map nV))→Q (.ref p) H'
theorem zkw {K:Frag}{H0 H2:Hp}{D:Addr}{es:List (Int×Int)}{ws:List V}{i:Nat}{x:V}(hD:H0 D=none)(hw:zal K H0 es ws)(hx:ws[i]?=some x)(k:But D H0 H2):∃ h:i < es.length,Rep.has K H2 es[i] x:=by
 obtain ⟨e,h1,h2⟩:=hw.get hx;have hi:=(yak.mp h1).1;refine ⟨hi,?_⟩;have z:es[i]=e:=(yak.mp h1).2;rw[z];obtain ⟨a,x1,x2,rfl,q,e1,e2⟩:=(show hasP K H0 e x from h2);exact ⟨a,x1,x2,rfl,k _ _ (zac q hD) q,e1,e2⟩
theorem zlE (T:Txt K mg)(D_labels:DF K mg "labels" ze9 zee)(F_code:FC P w K mg base 1 "code" zgX (zop K))(F_turned:FC P w K mg base 2 "turned" zec (zje K)):FC P w K mg base 3 "labels" zee (zji K):=by
 refine D_labels.ok sc_labels (fun vs H Q E h=>?_) (fun f cdv A outer s H vs Q E hr h=>?_)
 ·obtain ⟨a,ws,es,rfl,_⟩:=h;rfl
 obtain ⟨a,ws,es,rfl,hS,hw,hz,he,hri,q⟩:=h;have hlen:=hw.length;refine ⟨_,(zaj (zfw (i:=1) (N:=["entry"]) (own:=1) (cap:=[]) sc_labels.nd rfl rfl rfl (zcV (pv 0)) ⟨rfl,rfl,rfl,rfl,rfl,rfl⟩ (fun _ _ _ _ _=>(zaz (i:=0) (show List.Nodup (["entry"]:List Str) by decide +kernel) rfl (Or.inl rfl))) (fun _ _ _ _ _=>zcd) (fun _ _ _ _ _=>(zax F_code hr (zaa (pv 0) zad))))
   (zaj (zcf PassesOwn.never rfl (zcg rfl T.m_range (zaa (zdx rfl T.g_TURNS) zad)) (zaz (i:=2) sc_labels.nd rfl (Or.inl rfl)) (zae (zar (i:=1) sc_labels.nd rfl (Or.inl rfl) (zax F_turned hr (zaa (pv 1) zad)))))
   (zae (zas (pv 1))))),?_⟩
 refine ⟨_,rfl,a,rfl,⟨_,hS⟩,fun D hD=>?_⟩;have k0:But D H (upd H D (.lst [])):=fun b o n e=>by rw[zag n];exact e
 refine zbF (xs:=ws) (fun i σ H2=>∃ x0:Option V,σ=[x0]∧H2 D=some (.lst (((zcL es).take i).map nV))∧But D H H2) ?_ ?_ ?_ ?_
 ·exact ⟨_,rfl,zab,k0⟩
 ·rintro i σ H2 _ ⟨x0,rfl,_,k2⟩;exact k2.sq hS hD
 ·rintro i m x σ H2 hx hm ⟨x0,rfl,h2,k2⟩;obtain ⟨hi,hhas⟩:=zkw hD hw hx k2;refine zcJ ?_;refine ⟨_,rfl,x,es[i],rfl,hhas,?_⟩;refine ⟨_,h2,zaq (by rw[yab,yan,zaU];omega),m - 1,by omega,by omega,_,rfl,?_,fun b o n e=>by rw[zag n];exact k2 b o n e⟩;rw[zab,zkv hi,yat,← zfq (he _ (ya0 hi))];rfl
 ·rintro σ H2 ⟨x0,rfl,h2,k2⟩;have e0:H2 D=some (.lst ((zcL es).map nV)):=by
   rw[h2,yas (by rw[zaU];omega)]
  have same0:Same H H2:=fun b o e=>k2 b o (zac e hD) e;refine ⟨5,rfl,by decide,by decide,?_⟩;refine zbW (n:=5) (fun i σ H3=>∃(p:Addr) (x2 x3:Option V),σ=[some (.ref a),some (.ref p),x2]∧H p=none∧Same H H3∧H3 p=some (.lst ((zc1 i (zcL es)).map nV))) ?_ ?_ ?_
  ·exact ⟨D,_,none,rfl,hD,same0,e0⟩
  ·rintro i σ H3 hi ⟨p,x2,x3,rfl,hp,s3,h3⟩;refine ⟨_,rfl,p,_,rfl,SqL.of h3,zcD (zfV he hri) i,by rw[zcp,zaU];exact hz,fun p4 H4 hp4 s4 h4=>?_⟩;exact ⟨p4,_,none,rfl,s3.free hp4,s3.trans s4,h4⟩
  ·rintro σ H3 ⟨p,x2,x3,rfl,hp,s3,h3⟩;refine ⟨_,rfl,?_⟩;exact q p H3 hp s3 h3
theorem zcz {n d i:Nat}:HT.sIx n d (some (i:Int))=min i n:=by
 unfold HT.sIx;simp
 try omega
theorem zjN (xs:List V)(a b:Nat):cutV xs (some (a:Int)) (some (b:Int))=(xs.drop a).take (b - a):=by
 unfold cutV;rw[zcz,zcz];by_cases h:a≤xs.length
 ·rw[ybs h];by_cases h2:b≤xs.length
  ·rw[ybs h2]
  ·rw[yco (by omega),yas (by rw[yaN];exact yaa _),yas (by rw[yaN];omega)]
 ·rw[yco (show xs.length≤a by omega),yaX (yaa _),yaX (show xs.length≤a by omega)];simp
theorem zgf {α:Type}(xs:List α)(k:Nat):(xs.drop k).take 1=xs[k]?.toList:=by
 by_cases h:k < xs.length
 ·rw[yb7 h,yac h];rfl
 ·rw[yaX (by omega),yaU (by omega)];rfl
theorem zmx {xs:List V}{k:Nat}{i j:Int}(hi:i=if (k:Int) - 1 > 0 then (k:Int) - 1 else 0)(hj:j=(k:Int)):cutV xs (some i) (some j)=(if k=0 then none else xs[k - 1]?).toList:=by
 subst hj;have e:i=((k - 1:Nat):Int):=by
  rw[hi];split <;> omega
 subst e;rw[zjN];split
 ·rename_i h;subst h;simp
 ·rw[show k - (k - 1)=1 by omega,zgf]
theorem zku {xs:List V}{k:Nat}{i j:Int}(hi:i=(k:Int)+1)(hj:j=(k:Int)+2):cutV xs (some i) (some j)=xs[k+1]?.toList:=by
 subst hi hj;rw[show (k:Int)+1=((k+1:Nat):Int) by omega,show (k:Int)+2=((k+2:Nat):Int) by omega,zjN,show k+2 - (k+1)=1 by omega,zgf]
theorem zmI (xs:List Nat)(k:Nat):(if k=0 then none else (xs.map nV)[k - 1]?).toList++(xs.map nV)[k+1]?.toList=(zaX xs k).map nV:=by
 unfold zaX;rw[yat,yap,yap];congr 1
 ·split
  ·rfl
  ·cases xs[k - 1]? <;> rfl
 ·cases xs[k+1]? <;> rfl
theorem But.new {p b:Addr}{H H2:Hp}(k:But p H H2)(hb:H2 b=none)(o:HO):But p H (upd H2 b o):=fun x o' n e=>(zaf hb o) x o' (k x o' n e)
def zhB (K:Frag):Sp:=fun vs H Q _=>∃(a:Addr) (xs:List Nat),vs=[.ref a]∧SqL K H a (xs.map nV)∧Unl xs∧zdi 6 xs∧xs.length≤1000∧
 ∀(p:Addr) (H':Hp),H p=none→Same H H'→H' p=some (.lst ((colL xs).map nV))→Q (.ref p) H'
def zek (es:List (Int×Int)):List Bool:=zgq (colL (zc1 5 (zcL es)))
theorem zhb (es:List (Int×Int)):(zek es).length=es.length:=by
 unfold zek;rw[zhc,zfU,zcp,zaU]
theorem zlZ {es:List (Int×Int)}(he:∀ e∈es,ze3 64 e)(hri:Rise es):Unl (zc1 5 (zcL es)):=zcD (zfV he hri) 5
theorem zl0 {es:List (Int×Int)}(he:∀ e∈es,ze3 64 e)(hri:Rise es):zdi 6 (zc1 5 (zcL es)):=zoQ (zfV he hri) (ziT he)
def zk6 (K:Frag):Sp:=fun vs H Q _=>∃(a:Addr) (ws:List V) (es:List (Int×Int)),vs=[.ref a]∧H a=some (.lst ws)∧zal K H es ws∧es.length≤1000∧(∀ e∈es,ze3 64 e)∧Rise es∧
 ∀(p:Addr) (H':Hp),H p=none→Same H H'→H' p=some (.lst ((zek es).map V.bl))→Q (.ref p) H'
def zgL (K:Frag):Sp:=fun vs H Q _=>∃(a:Addr) (ws:List V) (es:List (Int×Int)),vs=[.ref a]∧H a=some (.lst ws)∧zal K H es ws∧es.length≤1000∧(∀ e∈es,ze3 64 e)∧Rise es∧
 ∀(p:Addr) (H':Hp),H p=none→Same H H'→H' p=some (.lst (zcK ws (zek es)))→Q (.ref p) H'
theorem zge (o:Option Bool):o.toList.any id=o.getD false:=by
 cases o with
 | none=>rfl
 | some b=>cases b <;> rfl
theorem znL (ms:List Bool):inV (.bl true) (ms.map V.bl)=ms.any id:=by
 unfold inV
 induction ms with
 | nil=>rfl
 | cons m ms ih=>
  rw[yau,ybb,ih,ybb];cases m <;> rfl
theorem zpL (ms:List Bool):(ms.map V.bl).all zeo=true:=by
 rw[yaS];intro x hx;obtain ⟨n,_,rfl⟩:=yaG.mp hx;rfl
theorem zmg {α:Type}{as:List α}{bs:List Bool}{a:α}{b:Bool}(h:as.length=bs.length):zcK (as++[a]) (bs++[b])=zcK as bs++(if b=true then [a] else []):=by
 unfold zcK;rw[List.zip_append h,ybg,yat];congr 1;cases b <;> rfl
theorem ziJ {α:Type}(as:List α)(bs:List Bool):(zcK as bs).length≤as.length:=by
 unfold zcK;rw[yab];refine yaA (ya6 _ _) ?_;rw[ycl];omega
theorem zfm {α:Type}[Rep α]{K:Frag}{H:Hp}:∀{es:List α} {ws:List V} {ms:List Bool},zal K H es ws→zal K H (zcK es ms) (zcK ws ms)
 | _,_,_,.nil=>by
  unfold zcK;exact .nil
 | e::es,w::ws,[],.cons h t=>by
  unfold zcK;exact .nil
 | e::es,w::ws,m::ms,.cons h t=>by
  have:=zfm (ms:=ms) t;unfold zcK at this ⊢;cases m with
  | false=>exact this
  | true=>exact .cons h this
theorem zdN (bs:List Nat)(c:Nat):((List.range (c+1)).filter fun c=>!decide (c∈bs))=((List.range c).filter fun c=>!decide (c∈bs))++(if c∈bs then [] else [c]):=by
 rw[ycm,ybg];congr 1;by_cases h:c∈bs
 ·rw[if_pos h];simp[List.filter,h]
 ·rw[if_neg h];simp[List.filter,h]
theorem zdJ {H:Hp}{p t:Addr}{xs ys:List V}(h1:H p=some (.lst xs))(h2:H t=some (.tup ys)):p≠t:=fun z=>by
 rw[z,h2]at h1;cases h1
theorem zfI {n k:Nat}(h:k < n):ixN n (k:Int)=some k:=by
 unfold ixN;simp;omega
def besV (xs:List V)(k:Nat):List V:=(if k=0 then none else xs[k - 1]?).toList++xs[k+1]?.toList
theorem ziU (xs:List V)(k:Nat):(besV xs k).length≤2:=by
 have e:∀ o:Option V,o.toList.length≤1:=fun o=>by cases o <;> simp
 unfold besV;rw[yaq];have:=e (if k=0 then none else xs[k - 1]?)
 have:=e xs[k+1]?;omega
def spNb (K:Frag):Sp:=fun vs H Q _=>∃(a:Addr) (xs:List V) (k:Nat),vs=[.ref a,.int k]∧H a=some (.lst xs)∧
 ∀(g:Addr) (H':Hp),H g=none→Same H H'→H' g=some (.lst (besV xs k))→Q (.ref g) H'
theorem zg6 (T:Txt K mg)(D_neighbours:DF K mg "neighbours" zcr zbx):FC P w K mg base 1 "neighbours" zbx (spNb K):=by
 refine D_neighbours.ok sc_neighbours (fun vs H Q E h=>?_) (fun f cdv A outer s H vs Q E hr h=>?_)
 ·obtain ⟨a,xs,k,rfl,_⟩:=h;rfl
 obtain ⟨a,xs,k,rfl,ha,q⟩:=h;refine ⟨_,(zae (zas (zav zoC (zbN zle (pv 0) (zbX (zam (zh2 rfl) rfl T.m_max boot_max (zaa (zav zcH (pv 1) zai) (zaa zai zad)))) (zbX (pv 1))) (zbN zle (pv 0) (zbX (zav zbC (pv 1) zai)) (zbX (zav zbC (pv 1) zai)))))),?_⟩;refine ⟨_,rfl,_,rfl,_,_,rfl,rfl,_,_,rfl,_,rfl,_,rfl,_,rfl,_,_,rfl,SqL.of ha,fun b hb=>?_⟩;have kb:=zaf hb (.lst (cutV xs (some (if 0 > (k:Int) - 1 then 0 else (k:Int) - 1)) (some (k:Int))))
 have hbb:upd H b (.lst (cutV xs (some (if 0 > (k:Int) - 1 then 0 else (k:Int) - 1)) (some (k:Int)))) b=some (.lst (if k=0 then none else xs[k - 1]?).toList):=by
  rw[zab,zmx (k:=k) (by split <;> split <;> omega) rfl]
 generalize upd H b (.lst (cutV xs (some (if 0 > (k:Int) - 1 then 0 else (k:Int) - 1)) (some (k:Int))))=H3 at kb hbb ⊢
 refine ⟨_,rfl,_,rfl,_,_,rfl,rfl,_,rfl,_,rfl,_,_,rfl,rfl,_,rfl,_,_,rfl,SqL.of (kb _ _ ha),fun c hc=>?_⟩;have kc:=zaf hc (.lst (cutV xs (some ((k:Int)+1)) (some ((k:Int)+2))));have hcb:=kc _ _ hbb;have hcc:upd H3 c (.lst (cutV xs (some ((k:Int)+1)) (some ((k:Int)+2)))) c=some (.lst xs[k+1]?.toList):=by
  rw[zab,zku (k:=k) rfl rfl]
 generalize upd H3 c (.lst (cutV xs (some ((k:Int)+1)) (some ((k:Int)+2))))=H4 at kc hcb hcc ⊢;refine ⟨b,c,_,_,rfl,rfl,hcb,hcc,?_,fun g hg=>?_⟩
 ·rw[← yaq];exact yaA (ziU xs k) (by decide)
 exact q g _ (kb.free (kc.free hg)) (kb.trans (kc.trans (zaf hg _))) zab
def zoo (K:Frag):Sp:=fun vs H Q _=>∃(a:Addr) (xs:List Nat) (k:Nat),vs=[.ref a]∧H a=some (.lst ((zaX xs k).map nV))∧
 ∀ H':Hp,Same H H'→Q (.int (zdM xs k:Nat)) H'
theorem zg7 (T:Txt K mg)(D_least_free:DF K mg "least_free" zcs zb4):FC P w K mg base 1 "least_free" zb4 (zoo K):=by
 refine D_least_free.ok sc_least_free (fun vs H Q E h=>?_) (fun f cdv A outer s H vs Q E hr h=>?_)
 ·obtain ⟨a,xs,k,rfl,_⟩:=h;rfl
 obtain ⟨a,xs,k,rfl,ha,q⟩:=h;refine ⟨_,(zae (zas (zam (zmF rfl) rfl T.m_min boot_min (zaa (zbZ (N:=["colour","taken"]) (own:=1) (cap:=[0]) rfl (zgm (zbz (zaa zai (zaa zai (zaa zai zad))))) ⟨rfl,rfl,rfl,rfl,rfl,rfl⟩ (fun _ _ _ _ _=>(zaz (i:=0) (show List.Nodup (["colour","taken"]:List Str) by decide +kernel) rfl (Or.inl rfl))) (fun _ _ _ _ _=>(zeA (zat (zg3 (K:=K)) (pv 0) (pv 1) (by with_unfolding_all rfl)))) (fun _ _ _ _ _=>(pv 0))) zad)))),?_⟩
 refine ⟨(by show 3≤sizeLine;decide),fun t ht=>?_⟩;have st:=zaf ht (.tup [V.int 0,V.int 1,V.int 2]);have ht1:upd H t (.tup [V.int 0,V.int 1,V.int 2]) t=some (.tup [V.int 0,V.int 1,V.int 2]):=zab;generalize upd H t (.tup [V.int 0,V.int 1,V.int 2])=H1 at st ht1 ⊢;have h1a:=st _ _ ha;refine ⟨t,rfl,⟨_,SqT.of ht1⟩,fun D hD=>?_⟩;refine zdG (xs:=[V.int 0,V.int 1,V.int 2]) (fun c σ H6=>∃ x0:Option V,σ=[x0,some (.ref a)]∧H6 D=some (.lst (((List.range c).filter fun c=>!decide (c∈zaX xs k)).map nV))∧But D H1 H6) ?_ ?_ ?_ ?_
 ·exact ⟨_,rfl,zab,fun b o n e=>by rw[zag n];exact e⟩
 ·rintro i σ H6 _ ⟨x0,rfl,_,k6⟩;exact SqT.of (k6 _ _ (zac ht1 hD) ht1)
 ·rintro c m x σ H6 hx hm ⟨x0,rfl,h6,k6⟩;obtain ⟨hi,rfl⟩:c < 3∧x=V.int (c:Int):=by
   rcases c with _ | _ | _ | c
   ·exact ⟨by decide,(yad hx).symm⟩
   ·exact ⟨by decide,(yad hx).symm⟩
   ·exact ⟨by decide,(yad hx).symm⟩
   ·cases hx
  have h6g:=k6 _ _ (zac h1a hD) h1a;have hlen:=ya6 (fun c=>!decide (c∈zaX xs k)) (List.range c);rw[ybf]at hlen;refine ⟨_,rfl,_,rfl,_,_,rfl,.inl (SqL.of h6g),rfl,zml _,_,rfl,?_⟩;show if (!inV (.int (c:Int)) ((zaX xs k).map nV))=true then _ else _
  rw[zoG];have hm3:c+m=3:=hm;refine ite2 (fun e=>?_) (fun e=>?_)
  ·have e':c∉zaX xs k:=fun z=>by
    rw[yal z]at e;cases e
   refine ⟨_,rfl,_,h6,zaq (by rw[yab];omega),m - 1,by omega,(by show c+1+(m - 1)=3;omega),_,rfl,?_,fun b o n e=>by rw[zag n];exact k6 b o n e⟩;rw[zab,zdN,if_neg e',yat];rfl
  ·have e':c∈zaX xs k:=Decidable.byContradiction fun z=>e (by rw[yai z];rfl);refine ⟨m - 1,by omega,(by show c+1+(m - 1)=3;omega),_,rfl,?_,k6⟩;rw[h6,zdN,if_pos e',yay]
 ·rintro σ H6 ⟨x0,rfl,h6,k6⟩;have h6:H6 D=some (.lst (((List.range 3).filter fun c=>!decide (c∈zaX xs k)).map nV)):=h6;have s6:Same H1 H6:=fun b o e=>k6 b o (zac e hD) e;have mem:∀ c,c∈((List.range 3).filter fun c=>!decide (c∈zaX xs k))↔c < 3∧c∉zaX xs k:=fun c=>by
   rw[ya7,ya8];constructor
   ·rintro ⟨h1,h2⟩;refine ⟨h1,fun z=>?_⟩;rw[yal z]at h2;cases h2
   ·rintro ⟨h1,h2⟩;exact ⟨h1,by rw[yai h2];rfl⟩
  have hf:zdM xs k∈((List.range 3).filter fun c=>!decide (c∈zaX xs k)):=(mem _).mpr ⟨Nat.lt_succ_of_le (zmk xs k),zkr⟩;refine ⟨D,((List.range 3).filter fun c=>!decide (c∈zaX xs k)).map fun n:Nat=>(n:Int),rfl,?_,?_,fun M hM hL=>?_⟩
  ·rw[ybE];exact SqL.of h6
  ·rw[yab];exact List.length_pos_of_mem hf
  have eM:M=(zdM xs k:Int):=by
   have h1:=hL _ (yaG.mpr ⟨_,hf,rfl⟩);obtain ⟨c,hc,rfl⟩:=yaG.mp hM;have h2:¬ c < zdM xs k:=fun z=>((mem c).mp hc).2 (zhU z);omega
  rw[eM];exact q _ (st.trans s6)
theorem zpR (xs:List Nat)(k:Nat):besV (xs.map nV) k=(zaX xs k).map nV:=zmI xs k
theorem zkc (T:Txt K mg)(D_colours:DF K mg "colours" zd8 zdv)(F_neighbours:FC P w K mg base 1 "neighbours" zbx (spNb K))(F_least_free:FC P w K mg base 1 "least_free" zb4 (zoo K)):FC P w K mg base 3 "colours" zdv (zhB K):=by
 refine D_colours.ok sc_colours (fun vs H Q E h=>?_) (fun f cdv A outer s H vs Q E hr h=>?_)
 ·obtain ⟨a,xs,rfl,_⟩:=h;rfl
 obtain ⟨a,xs,rfl,hS,hu,hb,hz,q⟩:=h;refine ⟨_,(zaj (zar (i:=1) sc_colours.nd rfl (Or.inl rfl) (za7 zeX rfl T.m_list boot_list (zaa (pv 0) zad)))
   (zaj (zcf PassesOwn.never rfl (zgm (zbz (zaa zai (zaa zai (zaa zai zad))))) (zaz (i:=2) sc_colours.nd rfl (Or.inl rfl)) (zae (zcf PassesOwn.never rfl (zcg rfl T.m_range (zaa (zam zao rfl T.m_len boot_len (zaa (pv 0) zad)) zad)) (zaz (i:=3) sc_colours.nd rfl (Or.inl rfl)) (zae (zaY (zat zg4 (zaR za1 (pv 1) (pv 3) (fun _ _=>rfl)) (pv 2) (zaH _)) (zae (zhG (zax F_least_free hr (zaa (zax F_neighbours hr (zaa (pv 1) (zaa (pv 3) zad))) zad)) (zhJ (pv 1) (pv 3) zd3))) zaw)))))
   (zae (zas (pv 1))))),?_⟩
 refine ⟨_,rfl,a,_,rfl,.inl hS,fun p hp=>?_⟩;have k0:But p H (upd H p (.lst (xs.map nV))):=fun b o n e=>by rw[zag n];exact e
 refine ⟨(by show 3≤sizeLine;decide),fun t ht=>?_⟩;have npt:p≠t:=zac zab ht;refine ⟨t,rfl,⟨_,SqT.of zab⟩,?_⟩;refine ziM (xs:=[V.int 3,V.int 4,V.int 5]) (fun i σ H2=>∃ x2 x3:Option V,σ=[some (.ref a),some (.ref p),x2,x3]∧H2 p=some (.lst ((colN xs i).map nV))∧H2 t=some (.tup [V.int 3,V.int 4,V.int 5])∧But p H H2) ?_ ?_ ?_ ?_
 ·exact ⟨_,_,rfl,by rw[zag npt];exact zab,zab,k0.new ht _⟩
 ·rintro i σ H2 _ ⟨x2,x3,rfl,_,h2t,_⟩;exact SqT.of h2t
 ·rintro i x σ H2 hx ⟨x2,x3,rfl,h2,h2t,k2⟩;obtain ⟨hi,rfl⟩:i < 3∧x=V.int ((3+i:Nat):Int):=by
   rcases i with _ | _ | _ | i
   ·exact ⟨by decide,(yad hx).symm⟩
   ·exact ⟨by decide,(yad hx).symm⟩
   ·exact ⟨by decide,(yad hx).symm⟩
   ·cases hx
  have hyl:=ziS xs i;have hyu:=zn0 hu i;have hnx:colN xs (i+1)=recL (3+i) (colN xs i):=rfl;rw[hnx];generalize colN xs i=ys at h2 hyl hyu ⊢;generalize 3+i=v;have hSa:SqL K H2 a (xs.map nV):=k2.sq hS hp;refine ⟨_,rfl,_,_,rfl,.inl hSa,_,rfl,by rw[yab];omega,by rw[yab];omega,?_⟩;have el:((((xs.map nV).length:Nat):Int)).toNat=ys.length:=by rw[yab,ybk,hyl]
  rw[el];refine zbW (n:=ys.length) (fun k σ H3=>∃ x3:Option V,σ=[some (.ref a),some (.ref p),some (.int v),x3]∧H3 p=some (.lst ((mixL v ys k).map nV))∧H3 t=some (.tup [V.int 3,V.int 4,V.int 5])∧But p H H3) ?_ ?_ ?_
  ·exact ⟨_,rfl,h2,h2t,k2⟩
  ·rintro k σ H3 hk ⟨x3,rfl,h3,h3t,k3⟩;rw[ybX];have ml:=zfB v ys k;have eg:(mixL v ys k).getD k 0=ys.getD k 0:=by
    rw[yae,zlR (yaa k),← yae]
   have hat:atI ((mixL v ys k).map nV) (k:Int)=some (nV (ys.getD k 0)):=by
    rw[← eg];exact zmL (by omega)
   refine ⟨_,rfl,_,rfl,_,_,_,_,rfl,rfl,SqL.of h3,hat,_,rfl,rfl,_,rfl,?_⟩;refine ite2 (fun c=>?_) (fun c=>?_)
   ·have c':ys.getD k 0=v:=by
     have:=V.int.inj (yaQ c);omega
    refine ⟨_,rfl,_,rfl,p,_,k,rfl,h3,fun g H4 hg s4 h4=>?_⟩;rw[zpR,ziy hyu hk c']at h4;refine ⟨g,ys,k,rfl,h4,fun H5 s5=>?_⟩;have s35:=s4.trans s5;have same:∀ b o,b≠p→H3 b=some o→upd H5 p (.lst (((mixL v ys k).map nV).set k (nV (zdM ys k)))) b=some o:=fun b o n e=>by
     rw[zag n];exact s35 _ _ e
    refine ⟨_,rfl,_,rfl,_,_,_,k,rfl,rfl,s35 _ _ h3,zfI (by rw[yab,ml];exact hk),?_⟩;refine ⟨_,rfl,?_,same _ _ (Ne.symm (zdJ h3 h3t)) h3t,fun b o n e=>same _ _ n (k3 b o n e)⟩;rw[zab,znB hk c',ybY]
   ·have c':ys.getD k 0≠v:=fun z=>c (by rw[z];exact yal rfl);exact ⟨_,rfl,by rw[zlP hk c'];exact h3,h3t,k3⟩
  ·rintro σ H3 ⟨x3,rfl,h3,h3t,k3⟩;rw[znC (yaa _)]at h3;exact ⟨_,_,rfl,h3,h3t,k3⟩
 ·rintro σ H2 ⟨x2,x3,rfl,h2,_,k2⟩;refine ⟨_,rfl,?_⟩;exact q p H2 hp (fun b o e=>k2 b o (zac e hp) e) h2
def zdg (ms:List Bool)(k:Nat):Bool:=!ms.getD (k - 1) false && !ms.getD (k+1) false
def besB (ms:List Bool)(k:Nat):List Bool:=(if k=0 then none else ms[k - 1]?).toList++ms[k+1]?.toList
theorem zpS (ms:List Bool)(k:Nat):besV (ms.map V.bl) k=(besB ms k).map V.bl:=by
 unfold besV besB;rw[yat,yap,yap];congr 1
 ·split
  ·rfl
  ·cases ms[k - 1]? <;> rfl
 ·cases ms[k+1]? <;> rfl
theorem zn6 {ms:List Bool}{k:Nat}(h:1≤k):(besB ms k).any id=!zdg ms k:=by
 unfold besB zdg;rw[if_neg (by omega),List.any_append,zge,zge,yae,yae];generalize ms[k - 1]?.getD false=x;generalize ms[k+1]?.getD false=z;cases x <;> cases z <;> rfl
theorem zix {sh:Nat}{cs:List Nat}{ms:List Bool}(hu:Unl cs)(hl:cs.length=ms.length){k:Nat}(h:k < cs.length)(h1:1≤k)(hs:cs.getD k 0=sh):zdg (mixM sh cs ms k) k=zdg ms k:=by
 unfold zdg;have e:∀ j,k≤j→(mixM sh cs ms k).getD j false=ms.getD j false:=fun j hj=>by
  rw[yae,yae,zcx hl,if_neg (by omega)]
 rw[e (k+1) (by omega)];have e2:(mixM sh cs ms k).getD (k - 1) false=ms.getD (k - 1) false:=by
  rw[yae,zcx hl,if_pos (by omega),zdy hl (by omega)];have:=hu (k - 1) (by omega);rw[show k - 1+1=k by omega,hs]at this;rw[yai this];simp
 rw[e2]
theorem zgp {sh:Nat}{cs:List Nat}{ms:List Bool}(hl:cs.length=ms.length){k:Nat}(h:k < cs.length)(hn:¬ (cs.getD k 0=sh∧zdg ms k=true)):mixM sh cs ms (k+1)=mixM sh cs ms k:=by
 apply ya4;intro j;rw[zcx hl,zcx hl];by_cases c:j < k
 ·rw[if_pos c,if_pos (by omega)]
 ·rw[if_neg c];split
  ·have:j=k:=by omega
   subst this;rw[zdy hl h];unfold zdg at hn;rw[yac (by omega)];have e:ms.getD j false=ms[j]'(by omega):=by
    rw[yae,yac (by omega)];rfl
   rw[e];congr 1;generalize ms[j]=a;generalize ms.getD (j - 1) false=b at hn ⊢;generalize ms.getD (j+1) false=d at hn ⊢;by_cases z:cs.getD j 0=sh
   ·have hn':¬ ((!b && !d)=true):=fun y=>hn ⟨z,y⟩;cases b with
    | true=>simp
    | false=>
     cases d with
     | true=>simp
     | false=>exact absurd rfl hn'
   ·rw[yai z];simp
  ·rfl
theorem zlO {sh:Nat}{cs:List Nat}{ms:List Bool}(hl:cs.length=ms.length){k:Nat}(h:k < cs.length)(hp:1≤k∧cs.getD k 0=sh∧zdg ms k=true):mixM sh cs ms (k+1)=(mixM sh cs ms k).set k true:=by
 apply ya4;intro j;rw[ybu,zfA hl,zcx hl,zcx hl];by_cases c:k=j
 ·subst c;rw[if_pos rfl,if_pos h,if_pos (by omega),zdy hl h];obtain ⟨p1,p2,p3⟩:=hp;unfold zdg at p3;simp only[ybn,ybC]at p3;rw[p2,p3.1,p3.2,yal p1];simp
 ·rw[if_neg c];by_cases c2:j < k
  ·rw[if_pos c2,if_pos (by omega)]
  ·rw[if_neg c2,if_neg (by omega)]
theorem zno (T:Txt K mg)(D_marks:DF K mg "marks" zgQ zfh)(F_labels:FC P w K mg base 3 "labels" zee (zji K))(F_colours:FC P w K mg base 3 "colours" zdv (zhB K))(F_neighbours:FC P w K mg base 1 "neighbours" zbx (spNb K)):FC P w K mg base 5 "marks" zfh (zk6 K):=by
 refine D_marks.ok sc_marks (fun vs H Q E h=>?_) (fun f cdv A outer s H vs Q E hr h=>?_)
 ·obtain ⟨a,ws,es,rfl,_⟩:=h;rfl
 obtain ⟨a,ws,es,rfl,ha,hw,hz,he,hri,q⟩:=h;refine ⟨_,(zaj (zar (i:=1) sc_marks.nd rfl (Or.inl rfl) (zax F_colours hr (zaa (zax F_labels hr (zaa (pv 0) zad)) zad)))
   (zaj (zfw (i:=2) (N:=["tint"]) (own:=1) (cap:=[]) sc_marks.nd rfl rfl rfl (zcV (pv 1)) ⟨rfl,rfl,rfl,rfl,rfl,rfl⟩ (fun _ _ _ _ _=>(zaz (i:=0) (show List.Nodup (["tint"]:List Str) by decide +kernel) rfl (Or.inl rfl))) (fun _ _ _ _ _=>zcd) (fun _ _ _ _ _=>zf9))
   (zaj (zcf PassesOwn.never rfl (zgm (zbz (zaa zai (zaa zai (zaa zai zad))))) (zaz (i:=3) sc_marks.nd rfl (Or.inl rfl)) (zae (zcf PassesOwn.never rfl (zeh rfl T.m_range (zaa zai (zaa (zam zao rfl T.m_len boot_len (zaa (pv 1) zad)) zad))) (zaz (i:=4) sc_marks.nd rfl (Or.inl rfl)) (zae (zaY (PW.pt (zjs (zat zg4 (zaR za1 (pv 1) (pv 4) (fun _ _=>rfl)) (pv 3) (zaH _)) (zgW (zat zda zf9 (zax F_neighbours hr (zaa (pv 2) (zaa (pv 4) zad))) (by with_unfolding_all rfl))))) (zae (zhG zf9 (zhJ (pv 2) (pv 4) zd3))) zaw)))))
   (zae (zas (pv 2)))))),?_⟩
 refine ⟨_,rfl,a,ws,es,rfl,SqL.of ha,hw,hz,he,hri,fun p H3 hp s3 h3=>?_⟩;refine ⟨p,_,rfl,SqL.of h3,zlZ he hri,zl0 he hri,by rw[zcp,zaU];exact hz,fun c H4 hc s4 h4=>?_⟩;have cu:Unl (colL (zc1 5 (zcL es))):=zof (zn1 (unlZ (zlZ he hri)));have cl:(colL (zc1 5 (zcL es))).length=es.length:=by rw[zfU,zcp,zaU]
 have fin:zek es=mkN (colL (zc1 5 (zcL es))) 3:=(zlM _).symm;generalize colL (zc1 5 (zcL es))=cs at h4 cu cl fin;have s04:=s3.trans s4;refine ⟨_,rfl,c,rfl,⟨_,SqL.of h4⟩,fun F hF=>?_⟩;refine zbF (xs:=cs.map nV) (fun i σ H5=>∃ x0:Option V,σ=[x0]∧H5 F=some (.lst ((List.replicate i false).map V.bl))∧But F H4 H5) ?_ ?_ ?_ ?_
 ·exact ⟨_,rfl,zab,fun b o n e=>by rw[zag n];exact e⟩
 ·rintro i σ H5 _ ⟨x0,rfl,_,k5⟩;exact k5.sq (SqL.of h4) hF
 ·rintro i m x σ H5 hx hm ⟨x0,rfl,h5,k5⟩;have hi:=(yak.mp hx).1;rw[yab]at hi hm;refine zcJ ?_;refine ⟨_,h5,zaq (by rw[yab,ybj];omega),m - 1,by omega,by rw[yab];omega,_,rfl,?_,fun b o n e=>by rw[zag n];exact k5 b o n e⟩;rw[zab,List.replicate_succ',yat];rfl
 rintro σ H5 ⟨x0,rfl,h5,k5⟩;have s45:Same H4 H5:=fun b o e=>k5 b o (zac e hF) e;have h5c:=s45 _ _ h4;have nFc:c≠F:=zac h4 hF;have hF0:H F=none:=s04.free hF;have k05:But F H H5:=fun b o _ e=>s45 _ _ (s04 _ _ e);have e5:H5 F=some (.lst ((mkN cs 0).map V.bl)):=by
  rw[h5,mkN,yab,show List.replicate cs.length false=cs.map (fun _=>false) from by rw[List.map_const']]
 refine ⟨(by show 3≤sizeLine;decide),fun t ht=>?_⟩;have st:=zaf ht (.tup [V.int 2,V.int 1,V.int 0]);refine ⟨t,rfl,⟨_,SqT.of zab⟩,?_⟩;refine ziM (xs:=[V.int 2,V.int 1,V.int 0]) (fun i σ H6=>∃(x3 x4:Option V),σ=[some (.ref a),some (.ref c),some (.ref F),x3,x4]∧H6 F=some (.lst ((mkN cs i).map V.bl))∧H6 c=some (.lst (cs.map nV))∧H6 t=some (.tup [V.int 2,V.int 1,V.int 0])∧But F H H6) ?_ ?_ ?_ ?_
 ·exact ⟨_,_,rfl,st _ _ e5,st _ _ h5c,zab,k05.new ht _⟩
 ·rintro i σ H6 _ ⟨x3,x4,rfl,_,_,h6t,_⟩;exact SqT.of h6t
 ·rintro i x σ H6 hx ⟨x3,x4,rfl,h6,h6c,h6t,k6⟩;obtain ⟨hi,rfl⟩:i < 3∧x=V.int ((2 - i:Nat):Int):=by
   rcases i with _ | _ | _ | i
   ·exact ⟨by decide,(yad hx).symm⟩
   ·exact ⟨by decide,(yad hx).symm⟩
   ·exact ⟨by decide,(yad hx).symm⟩
   ·cases hx
  have hml:=zkf cs i;have hnx:mkN cs (i+1)=zci (2 - i) cs (mkN cs i):=rfl;rw[hnx];generalize mkN cs i=ms at h6 hml ⊢;generalize 2 - i=sh;refine ⟨_,rfl,_,_,rfl,.inl (SqL.of h6c),1,_,rfl,⟨by omega,by omega,by rw[yab];omega,by rw[yab];omega⟩,?_⟩;have en:((((cs.map nV).length:Nat):Int) - 1).toNat=cs.length - 1:=by rw[yab];omega
  rw[en];have km:∀ k,(mixM sh cs ms k).length=cs.length:=zfA hml;refine zbW (n:=cs.length - 1) (fun j σ H7=>∃(x4:Option V),σ=[some (.ref a),some (.ref c),some (.ref F),some (.int sh),x4]∧H7 F=some (.lst ((mixM sh cs ms (1+j)).map V.bl))∧H7 c=some (.lst (cs.map nV))∧H7 t=some (.tup [V.int 2,V.int 1,V.int 0])∧But F H H7) ?_ ?_ ?_
  ·exact ⟨_,rfl,by rw[znz hml];exact h6,h6c,h6t,k6⟩
  ·rintro j σ H7 hj ⟨x4,rfl,h7,h7c,h7t,k7⟩;have ek:(1:Int)+(j:Int)=((1+j:Nat):Int):=by omega
   have hk1:1≤1+j:=by omega
   have hkl:1+j < cs.length:=by omega
   rw[ek];have es1:1+(j+1)=1+j+1:=by omega
   rw[es1];generalize 1+j=k at h7 hk1 hkl ⊢;have hat:=zmL (xs:=cs) hkl;have mc:cs.getD k 0=sh→zdg (mixM sh cs ms k) k=zdg ms k:=fun z=>zix cu hml hkl hk1 z;refine ⟨_,rfl,_,rfl,_,_,_,_,rfl,rfl,SqL.of h7c,hat,_,rfl,rfl,_,rfl,?_⟩;refine ite2 (fun e=>?_) (fun e=>?_)
   ·have e':cs.getD k 0=sh:=by
     have:=V.int.inj (yaQ e);omega
    refine ⟨_,rfl,_,rfl,F,_,k,rfl,h7,fun b H8 hb sb hbb=>?_⟩;rw[zpS]at hbb;have kb:But F H H8:=fun x o n e=>sb _ _ (k7 x o n e);refine ⟨_,_,rfl,.inl (SqL.of hbb),rfl,zpL _,_,rfl,?_⟩;show if (!inV (.bl true) ((besB (mixM sh cs ms k) k).map V.bl))=true then _ else _
    rw[znL,zn6 hk1,mc e',Bool.not_not];refine ite2 (fun y=>?_) (fun y=>?_)
    ·refine ⟨_,rfl,_,rfl,_,_,_,k,rfl,rfl,sb _ _ h7,zfI (by rw[yab,km];exact hkl),?_⟩;have same:∀ b o,b≠F→H8 b=some o→upd H8 F (.lst (((mixM sh cs ms k).map V.bl).set k (.bl true))) b=some o:=fun b o n e=>by
      rw[zag n];exact e
     refine ⟨_,rfl,?_,same _ _ (fun z=>?_) (sb _ _ h7c),same _ _ (Ne.symm (zdJ (sb _ _ h7) (sb _ _ h7t))) (sb _ _ h7t),fun b o n e=>same _ _ n (kb b o n e)⟩
     ·rw[zab,zlO hml hkl ⟨hk1,e',y⟩,ybY]
     ·exact nFc z
    ·exact ⟨_,rfl,by rw[zgp hml hkl (fun z=>y z.2)];exact sb _ _ h7,sb _ _ h7c,sb _ _ h7t,kb⟩
   ·have e':cs.getD k 0≠sh:=fun z=>e (by rw[z];exact yal rfl);refine iteF ?_;exact ⟨_,rfl,by rw[zgp hml hkl (fun z=>e' z.1)];exact h7,h7c,h7t,k7⟩
  ·rintro σ H7 ⟨x4,rfl,h7,h7c,h7t,k7⟩;rw[znA hml (by omega)]at h7;exact ⟨_,_,rfl,h7,h7c,h7t,k7⟩
 ·rintro σ H6 ⟨x3,x4,rfl,h6,_,_,k6⟩;refine ⟨_,rfl,?_⟩;refine q F H6 hF0 (fun b o e=>k6 b o (zac e hF0) e) ?_;rw[fin];exact h6
theorem znO {α:Type}:zcK ([]:List α) []=[]:=rfl
theorem zrf {ms:List Bool}{i:Nat}{x:V}(h:(ms.map V.bl)[i]?=some x):∃ hi:i < ms.length,x=.bl ms[i]:=by
 rw[yap]at h;cases e:ms[i]? with
 | none=>rw[e]at h;cases h
 | some y=>
  rw[e]at h;obtain ⟨hi,rfl⟩:=yak.mp e;exact ⟨hi,(yad h).symm⟩
theorem zhw {α:Type}{l:List α}{i:Nat}(h:i < l.length):l.take (i+1)=l.take i++[l[i]]:=yaM h
theorem zlG (T:Txt K mg)(D_handed:DF K mg "handed" zfe zc7)(F_marks:FC P w K mg base 5 "marks" zfh (zk6 K)):FC P w K mg base 6 "handed" zc7 (zgL K):=by
 refine D_handed.ok sc_handed (fun vs H Q E h=>?_) (fun f cdv A outer s H vs Q E hr h=>?_)
 ·obtain ⟨a,ws,es,rfl,_⟩:=h;rfl
 obtain ⟨a,ws,es,rfl,ha,hw,hz,he,hri,q⟩:=h;have hwl:=hw.length;have hml:=zhb es;refine ⟨_,(zae (zas (zbZ (N:=["entry","mark"]) (own:=2) (cap:=[]) rfl (zqx rfl T.m_zip (zaa (pv 0) (zaa (zax F_marks hr (zaa (pv 0) zad)) zad))) ⟨rfl,rfl,rfl,rfl,rfl,rfl⟩ (fun _ _ _ _ _=>(zpa (K:=K) (n:=2) rfl (zfk (zaz (i:=0) (show List.Nodup (["entry","mark"]:List Str) by decide +kernel) rfl (Or.inl rfl)) (zfk (zaz (i:=1) (show List.Nodup (["entry","mark"]:List Str) by decide +kernel) rfl (Or.inl rfl)) zlp)))) (fun _ _ _ _ _=>(zeA (zcu (pv 1)))) (fun _ _ _ _ _=>(pv 0))))),?_⟩;refine ⟨_,rfl,_,rfl,a,ws,es,rfl,ha,hw,hz,he,hri,fun u H6 hu g6 h6u=>?_⟩;have h6p:=g6 _ _ ha;generalize zek es=ms at hml h6u q;refine ⟨a,u,rfl,⟨_,SqL.of h6p⟩,⟨_,SqL.of h6u⟩,fun D hD=>?_⟩;refine znZ (xs:=ws) (ys:=ms.map V.bl) (by rw[yab,hml];exact hwl.symm) (fun j σ H7=>∃ x0 x1:Option V,σ=[x0,x1]∧H7 D=some (.lst (zcK (ws.take j) (ms.take j)))∧But D H6 H7) ?_ ?_ ?_ ?_
 ·exact ⟨_,_,rfl,by rw[yce,yce,znO];exact zab,fun b o n e=>by rw[zag n];exact e⟩
 ·rintro j σ H7 _ ⟨x0,x1,rfl,_,k7⟩;exact ⟨k7.sq (SqL.of h6p) hD,k7.sq (SqL.of h6u) hD⟩
 ·rintro j m' x y σ H7 r' hx hy hm' ⟨x0,x1,rfl,h7,k7⟩ hr';obtain ⟨hj,rfl⟩:=zrf hy;obtain ⟨hjw,rfl⟩:=yak.mp hx;have hsn:=zmg (a:=ws[j]) (b:=ms[j]) (show (ws.take j).length=(ms.take j).length by rw[yan,yan];omega);rw[← zhw hjw,← zhw hj]at hsn;refine ⟨r',_,rfl,SqT.of zab,rfl,_,_,rfl,_,_,rfl,rfl,?_⟩;have s7:=zaf hr' (.tup [ws[j],.bl ms[j]]);have h8:=s7 _ _ h7;have k8:=k7.new hr' (.tup [ws[j],.bl ms[j]]);generalize upd H7 r' (.tup [ws[j],.bl ms[j]])=H8 at h8 k8 ⊢;refine ⟨_,rfl,_,rfl,?_⟩;have hl8:=ziJ (ws.take j) (ms.take j);rw[yan]at hl8;refine ite2 (fun e=>?_) (fun e=>?_)
  ·refine ⟨_,rfl,_,h8,zaq (by omega),m' - 1,by omega,by omega,_,_,rfl,?_,fun b o n e=>by rw[zag n];exact k8 b o n e⟩;rw[zab,hsn,if_pos e]
  ·refine ⟨m' - 1,by omega,by omega,_,_,rfl,?_,k8⟩;rw[h8,hsn,if_neg e,yay]
 ·rintro σ H7 ⟨x0,x1,rfl,h7,k7⟩;rw[yas (yaa _),yas (by omega)]at h7;have s7:Same H6 H7:=fun b o e=>k7 b o (zac e hD) e;exact q D H7 (g6.free hD) (g6.trans s7) h7
theorem zbB {K:Frag}{H:Hp}{q:Addr}{zs:List V}{o:HO}(hq:H q=some (.lst zs)){es:List (Int×Int)}{ws:List V}(h:zal K H es ws):zal K (upd H q o) es ws:=pImp (fun _ _ h=>by
  obtain ⟨a,x1,x2,rfl,hT,e1,e2⟩:=(show hasP K H _ _ from h);exact ⟨a,x1,x2,rfl,by rw[zag (zqQ hT hq (by intro z;cases z))];exact hT,e1,e2⟩) h
def Own (K:Frag)(H:Hp):List Addr→List (List (Int×Int))→Prop:=Paired fun q l=>∃ ws,H q=some (.lst ws)∧zal K H l ws
section
variable {K:Frag}{H H':Hp}
theorem Own.length {qs:List Addr}{ls:List (List (Int×Int))}(h:Own K H qs ls):qs.length=ls.length:=Paired.length h
theorem Own.ext (e:Ext H H'){qs:List Addr}{ls:List (List (Int×Int))}(h:Own K H qs ls):Own K H' qs ls:=pImp (fun _ _ h=>by
 obtain ⟨ws,h1,h2⟩:=h;exact ⟨ws,e _ _ h1 (fun _ z=>nomatch z),zal.mono e h2⟩) h
theorem Own.get:∀{qs:List Addr} {ls:List (List (Int×Int))} {i:Nat} {x:V},Own K H qs ls→(qs.map V.ref)[i]?=some x→∃ q l ws,qs[i]?=some q∧x=.ref q∧ls[i]?=some l∧H q=some (.lst ws)∧zal K H l ws
 | _,_,_,_,.nil,e=>by simp at e
 | _,_,0,_,.cons ⟨ws,h1,h2⟩ _,e=>by
  simp at e;exact ⟨_,_,ws,rfl,e.symm,rfl,h1,h2⟩
 | _,_,i+1,x,.cons _ t,e=>by
  obtain ⟨q,l,ws,h1,h2,h3,h4,h5⟩:=Own.get (i:=i) (x:=x) t (by simpa using e);exact ⟨q,l,ws,by simpa using h1,h2,by simpa using h3,h4,h5⟩
theorem Own.append {qs qs':List Addr}{ls ls':List (List (Int×Int))}(h:Own K H qs ls)(g:Own K H qs' ls'):Own K H (qs++qs') (ls++ls'):=pApp h g
theorem Own.other {q:Addr}{o:HO}{zs:List V}(hq:H q=some (.lst zs)){qs:List Addr}{ls:List (List (Int×Int))}(h:Own K H qs ls)(hn:q∉qs):Own K (upd H q o) qs ls:=by
 unfold Own at h
 induction h with
 | nil=>exact .nil
 | cons h _ ih=>
  obtain ⟨ws,h1,h2⟩:=h;rw[yam,not_or]at hn;exact .cons ⟨ws,by rw[zag (Ne.symm hn.1)];exact h1,zbB hq h2⟩ (ih hn.2)
end
theorem zhV {ls:List (List (Int×Int))}{i:Nat}{l:List (Int×Int)}(h:ls[i]?=some l):(ls.take (i+1)).flatten=(ls.take i).flatten++l:=by
 have hi:=(yak.mp h).1;rw[yaM hi,ycp,(yak.mp h).2];simp
theorem zpK {ls:List (List (Int×Int))}(i:Nat):(ls.take i).flatten.length≤ls.flatten.length:=by
 have e:ls.flatten=(ls.take i).flatten++(ls.drop i).flatten:=by rw[← ycp,yaO]
 rw[e,yaq];omega
def zk8 (K:Frag):Sp:=fun vs H Q _=>∃(a:Addr) (qs:List Addr) (ls:List (List (Int×Int))),vs=[.ref a]∧H a=some (.lst (qs.map V.ref))∧Own K H qs ls∧ls.flatten.length≤1000∧
 ∀(p:Addr) (ws:List V) (H':Hp),H p=none→Same H H'→H' p=some (.lst ws)→zal K H' (zc3 ls.flatten) ws→Q (.ref p) H'
theorem zlF (T:Txt K mg)(D_joined_up:DF K mg "joined_up" zcP zbR):FC P w K mg base 1 "joined_up" zbR (zk8 K):=by
 refine D_joined_up.ok sc_joined_up (fun vs H Q E h=>?_) (fun f cdv A outer s H vs Q E hr h=>?_)
 ·obtain ⟨a,qs,ls,rfl,_⟩:=h;rfl
 obtain ⟨a,qs,ls,rfl,ha,ho,hz,q⟩:=h;have hll:=ho.length;refine ⟨_,(zaj (zar (i:=1) sc_joined_up.nd rfl (Or.inl rfl) (zbi zad))
   (zaj (zcf PassesOwn.never rfl (zcV (pv 0)) (zaz (i:=2) sc_joined_up.nd rfl (Or.inl rfl)) (zae (zby (zgZ F.plainAttrs_list F.slot_list_extend F.type_list_extend zlL (pv 1) (zaa (pv 2) zad)))))
   (zae (zas (zam (zgz (Int×Int)) rfl T.m_sorted boot_sorted (zaa (pv 1) zad)))))),?_⟩
 refine ⟨(by show 0≤sizeLine;decide),fun t ht=>?_⟩;have k0:But t H (upd H t (.lst [])):=fun b o n e=>by rw[zag n];exact e
 refine ⟨_,rfl,a,rfl,⟨_,SqL.of (k0 _ _ (zac ha ht) ha)⟩,?_⟩;refine zhj (xs:=qs.map V.ref) (fun i σ H2=>∃(zs:List V) (x2:Option V),σ=[some (.ref a),some (.ref t),x2]∧H2 t=some (.lst zs)∧zal K H2 (ls.take i).flatten zs∧But t H H2∧Own K H2 qs ls) ?_ ?_ ?_ ?_
 ·exact ⟨[],_,rfl,zab,.nil,k0,ho.ext (zaf ht _).ext⟩
 ·rintro i σ H2 _ ⟨zs,x2,rfl,h2,_,k2,_⟩;exact SqL.of (k2 _ _ (zac ha ht) ha)
 ·rintro i x σ H2 hx ⟨zs,x2,rfl,h2,hw,k2,o2⟩;obtain ⟨g,l,ws,e1,rfl,e3,e4,e5⟩:=o2.get hx;have hlen:zs.length+ws.length≤1000:=by
   have z1:=hw.length;have z2:=e5.length;have z3:=zpK (ls:=ls) (i+1);rw[zhV e3,yaq]at z3;omega
  have hgo:∀ b∈qs,b≠t:=fun b hb z=>by
   obtain ⟨j,hj,rfl⟩:=yaR hb;obtain ⟨_,_,ws0,f1,f2,_,f4,_⟩:=ho.get (i:=j) (x:=.ref qs[j]) (by rw[yap,yac hj];rfl);cases f2
   rw[z,ht]at f4;cases f4
  refine ⟨_,rfl,.inl ⟨rfl,_,SqL.of h2⟩,_,rfl,t,g,zs,ws,rfl,rfl,h2,e4,ya1 (zaq hlen),?_⟩;refine ⟨_,_,rfl,zab,?_,fun b o n e=>by rw[zag n];exact k2 b o n e,o2.other h2 (fun z=>hgo t z rfl)⟩;rw[zhV e3];exact (zbB h2 hw).append (zbB h2 e5)
 ·rintro σ H2 ⟨zs,x2,rfl,h2,hw,k2,o2⟩;rw[yas (by rw[yab];omega)]at hw;refine ⟨_,rfl,t,zs,_,rfl,SqL.of h2,hw,fun l ws hl hs=>?_⟩;have e2:=zaf hl (.lst ws);have s2:Same H H2:=fun b o e=>k2 b o (zac e ht) e;exact q l ws _ (s2.free hl) (s2.trans e2) zab (zal.mono e2.ext hs)
def zbI (ps:List Nat):List V:=.non::ps.map nV
def parV (ps:List Nat)(k:Nat):V:=match par ps k with
 | none=>.non
 | some p=>nV p
theorem zau (ps:List Nat):(zbI ps).length=ps.length+1:=by
 unfold zbI;rw[yaI,yab]
theorem zf0 {ps:List Nat}{k:Nat}(h:k < ps.length+1):atI (zbI ps) (k:Int)=some (parV ps k):=by
 refine zf1 ?_;unfold zbI parV;cases k with
 | zero=>rfl
 | succ k=>
  show (ps.map nV)[k]?=some (match ps[k]? with | none=>_ | some p=>nV p)
  rw[yap,yac (show k < ps.length by omega)];rfl
theorem zei {ps:List Nat}{k p:Nat}(h:par ps k=some p):parV ps k=nV p:=by
 unfold parV;rw[h]
theorem zfy {ps:List Nat}{k:Nat}(h:par ps k=none):parV ps k=.non:=by
 unfold parV;rw[h]
theorem zls {ps:List Nat}{k m:Nat}:parV ps k=.int (m:Int)↔par ps k=some m:=by
 cases e:par ps k with
 | none=>
  rw[zfy e];exact ⟨(fun z=>nomatch z),(fun z=>nomatch z)⟩
 | some p=>
  rw[zei e];constructor
  ·intro z;have:=Int.ofNat.inj (V.int.inj z);rw[this]
  ·intro z;rw[yad z]
theorem zli (ps:List Nat)(k:Nat)(i:Int):scal (parV ps k) (.int i)=true:=by
 cases e:par ps k with
 | none=>rw[zfy e];rfl
 | some p=>rw[zei e];rfl
theorem But.new' {p b:Addr}{H H2:Hp}(k:But p H H2)(hb:H2 b=none)(o:HO):But p H (upd H2 b o):=fun x o' n e=>(zaf hb o) x o' (k x o' n e)
def zok (K:Frag):Sp:=fun vs H Q _=>∃(d L:Addr) (m:Int),vs=[.ref d,.int m]∧(0 < m∧m≤40)∧LS K L d H∧
 ∀(t:Addr) (ps:List Nat) (H':Hp),H t=none→zaA ps→(ps.length:Int) < m→H' t=some (.tup (zbI ps))→Keep d H H'→LS K L d H'→Q (.ref t) H'
theorem zkU {ps:List Nat}{u:Nat}(T:zaA ps)(h:u≤ps.length):zaA (ps++[u]):=by
 intro i hi;rw[yaq,ybc]at hi;by_cases c:i < ps.length
 ·rw[List.getElem_append_left c];exact T i c
 ·have:i=ps.length:=by omega
  subst this;rw[List.getElem_append_right (yaa _)];simp;exact h
theorem znp (T:Txt K mg)(D_l_tree:DF K mg "_law_tree" zfa zef)(F_l_take:FC P w K mg base 2 "_law_take" zce (zhz K)):FC P w K mg base 3 "_law_tree" zef (zok K):=by
 refine D_l_tree.ok sc_l_tree (fun vs H Q E h=>?_) (fun f cdv A outer s H vs Q E hr h=>?_)
 ·obtain ⟨d,L,m,rfl,_⟩:=h;rfl
 obtain ⟨d,L,m,rfl,⟨hm0,hm1⟩,hs,q⟩:=h;refine ⟨_,(zaj (zar (i:=2) sc_l_tree.nd rfl (Or.inl rfl) (zax F_l_take hr (zaa (pv 0) (zaa zai zad))))
   (zaj (zar (i:=3) sc_l_tree.nd rfl (Or.inl rfl) (zbi (zaa zgn zad)))
   (zaj (zcf PassesOwn.never rfl (zeh rfl T.m_range (zaa zai (zaa (zav zbC zai (zax F_l_take hr (zaa (pv 0) (zaa (pv 1) zad)))) zad))) (zaz (i:=4) sc_l_tree.nd rfl (Or.inl rfl)) (zae (zby (zgZ F.plainAttrs_list F.slot_list_append F.type_list_append zbU (pv 3) (zaa (zaR za1 (zbi (zaa (zav zcH (pv 4) zai) (zaa zai (zaa (zax F_l_take hr (zaa (pv 0) (zaa (pv 4) zad))) (zaa (zam (zh2 rfl) rfl T.m_max boot_max (zaa zai (zaa (zav zcH (zav zcH (pv 4) zai) (zax F_l_take hr (zaa (pv 0) (zaa zai zad)))) zad))) zad))))) (pv 2) (fun _ _=>rfl)) zad)))))
   (zae (zas (za7 zaV rfl T.m_tuple boot_tuple (zaa (pv 3) zad))))))),?_⟩
 refine ⟨_,rfl,d,L,4,rfl,by decide,hs,fun w1 H1 w0 w4 k1 s1=>?_⟩;refine ⟨(by show 1≤sizeLine;decide),fun p hp=>?_⟩;have g0:=zaf hp (.lst [V.non]);have hpd:p≠d:=by
  obtain ⟨ns,a,l,e,_⟩:=s1.ex;exact Ne.symm (zac e hp)
 have hp0:H p=none:=by
  cases e:H p with
  | none=>rfl
  | some o=>
   have:=k1 p o hpd e;rw[hp]at this;cases this
 refine ⟨_,rfl,_,rfl,d,L,m,rfl,⟨hm0,by omega⟩,s1.same g0,fun n H2 n0 n1 k2 s2=>⟨_,_,rfl,rfl,1,_,rfl,⟨by omega,by omega,by omega,by omega⟩,?_⟩⟩;have en:((1:Int)+n - 1).toNat=n.toNat:=by omega
 rw[en];refine zbW (n:=n.toNat) (fun i σ H3=>∃(ps:List Nat) (x4:Option V),σ=[some (.ref d),some (.int m),some (.int w1),some (.ref p),x4]∧H3 p=some (.lst (zbI ps))∧ps.length=i∧zaA ps∧(∀ b o,b≠d→b≠p→H b=some o→H3 b=some o)∧LS K L d H3) ?_ ?_ ?_
 ·exact ⟨[],_,rfl,k2 p _ hpd zab,rfl,fun i hi=>absurd hi (by simp),fun b o n1 n2 e=>k2 b o n1 (g0 b o (k1 b o n1 e)),s2⟩
 ·rintro i σ H3 hi ⟨ps,x4,rfl,h3,rfl,hT,k3,s3⟩;have ek:(1:Int)+((ps.length:Nat):Int)=((ps.length+1:Nat):Int):=by omega
  rw[ek];refine ⟨_,rfl,.inl ⟨rfl,_,SqL.of h3⟩,?_⟩;refine ⟨_,rfl,_,_,rfl,rfl,_,rfl,_,rfl,d,L,_,rfl,⟨by omega,by omega⟩,s3,fun v1 H4 v10 v11 k4 s4=>?_⟩;refine ⟨_,rfl,_,_,rfl,rfl,_,rfl,d,L,2,rfl,by decide,s4,fun v2 H5 v20 v21 k5 s5=>⟨_,_,rfl,rfl,_,_,rfl,(by show 4≤sizeLine;decide),fun l hl=>?_⟩⟩;have h4:=k4 p _ hpd h3;have h5:=k5 p _ hpd h4;obtain ⟨u,hat,hu⟩:∃ u:Nat,atI [V.int (((ps.length+1:Nat):Int) - 1),V.int 0,V.int v1,V.int (if ((ps.length+1:Nat):Int) - 1 - v2 > 0 then ((ps.length+1:Nat):Int) - 1 - v2 else 0)] w1=some (nV u)∧u≤ps.length:=by
   have z:w1=0∨w1=1∨w1=2∨w1=3:=by omega
   rcases z with rfl | rfl | rfl | rfl
   ·refine ⟨ps.length,?_,yaa _⟩;rw[show ((ps.length+1:Nat):Int) - 1=((ps.length:Nat):Int) by omega];rfl
   ·exact ⟨0,rfl,yaJ _⟩
   ·obtain ⟨u,rfl⟩:=zqR v10;exact ⟨u,rfl,by omega⟩
   ·refine ⟨(if ((ps.length+1:Nat):Int) - 1 - v2 > 0 then ((ps.length+1:Nat):Int) - 1 - v2 else 0).toNat,?_,?_⟩
    ·show some (V.int _)=some (V.int _);rw[Int.toNat_of_nonneg (by split <;> omega)]
    ·split <;> omega
  refine ⟨_,rfl,_,_,_,_,rfl,rfl,SqL.of zab,hat,_,_,_,rfl,rfl,by rw[zag (zac h5 hl)];exact h5,zaq (by rw[zau];omega),?_⟩;refine ⟨ps++[u],_,rfl,?_,by rw[yaq,ybc],zkU hT hu,fun b o n1 n2 e=>?_,?_⟩
  ·rw[zab];unfold zbI;rw[yat];rfl
  ·rw[zag n2];have e5:=k5 b o n1 (k4 b o n1 (k3 b o n1 n2 e));exact (zaf hl _) _ _ e5
  ·exact LS.put hs hp0 (fun b o n1 n2 e=>(zaf hl _) _ _ (k5 b o n1 (k4 b o n1 (k3 b o n1 n2 e)))) (s5.of_new hl _)
 ·rintro σ H3 ⟨ps,x4,rfl,h3,hl,hT,k3,s3⟩;refine ⟨_,rfl,p,_,rfl,.inl ⟨SqL.of h3,fun t ht=>?_⟩⟩;have sn:=zaf ht (.tup (zbI ps));have htp:t≠p:=Ne.symm (zac h3 ht);have ht0:H t=none:=by
   cases e:H t with
   | none=>rfl
   | some o=>
    have htd:t≠d:=by
     obtain ⟨ns,a,l,e,_⟩:=s3.ex;exact Ne.symm (zac e ht)
    have:=k3 t o htd htp e;rw[ht]at this;cases this
  exact q t ps _ ht0 hT (by omega) zab (fun b o n e=>sn _ _ (k3 b o n (zac e hp0) e)) (s3.of_new ht _)
def zgi (K:Frag):Sp:=fun vs H Q _=>∃(t:Addr) (ps:List Nat) (k:Nat),vs=[.ref t,.int k]∧H t=some (.tup (zbI ps))∧ps.length≤900∧
 ∀(p:Addr) (H':Hp),H p=none→Same H H'→H' p=some (.lst ((zb0 ps k (ps.length+1)).map nV))→Q (.ref p) H'
theorem ziw (T:Txt K mg)(D_children:DF K mg "children" zdo zcU):FC P w K mg base 1 "children" zcU (zgi K):=by
 refine D_children.ok sc_children (fun vs H Q E h=>?_) (fun f cdv A outer s H vs Q E hr h=>?_)
 ·obtain ⟨t,ps,k,rfl,_⟩:=h;rfl
 obtain ⟨t,ps,k,rfl,ht,hz,q⟩:=h;refine ⟨_,(zae (zas (zbZ (N:=["other","tree","knot"]) (own:=1) (cap:=[0,1]) rfl (zcg rfl T.m_range (zaa (zam zao rfl T.m_len boot_len (zaa (pv 0) zad)) zad)) ⟨rfl,rfl,rfl,rfl,rfl,rfl⟩ (fun _ _ _ _ _=>(zaz (i:=0) (show List.Nodup (["other","tree","knot"]:List Str) by decide +kernel) rfl (Or.inl rfl))) (fun _ _ _ _ _=>(zeA (zat zg4 (zaR (zl6 (K:=K)) (pv 1) (pv 0) (fun _ _=>rfl)) (pv 2) (zaH _)))) (fun _ _ _ _ _=>(pv 0))))),?_⟩;refine ⟨_,rfl,_,_,rfl,.inr (SqT.of ht),_,rfl,by omega,by rw[zau];omega,fun D hD=>?_⟩;have el:((((zbI ps).length:Nat):Int)).toNat=ps.length+1:=by rw[zau,ybk]
 rw[el];refine zeJ (n:=ps.length+1) (fun j σ H3=>∃ x0:Option V,σ=[x0,some (.ref t),some (.int k)]∧H3 D=some (.lst ((zb0 ps k j).map nV))∧But D H H3) ?_ ?_ ?_
 ·exact ⟨_,rfl,zab,fun b o n e=>by rw[zag n];exact e⟩
 ·rintro j m σ H3 hm hj ⟨x0,rfl,h3,k3⟩;rw[ybX];have h3t:=k3 _ _ (zac ht hD) ht;have hlen:=zgw ps k j;refine ⟨_,rfl,_,rfl,_,_,_,_,rfl,rfl,SqT.of h3t,zf0 hj,_,rfl,zli _ _ _,_,rfl,?_⟩;refine ite2 (fun c=>?_) (fun c=>?_)
  ·have c':par ps j=some k:=zls.mp (yaQ c);refine ⟨_,rfl,_,h3,zaq (by rw[yab];omega),m - 1,by omega,by omega,_,rfl,?_,fun b o n e=>by rw[zag n];exact k3 b o n e⟩;rw[zab,zfY,if_pos c',yat];rfl
  ·have c':¬ par ps j=some k:=fun z=>c (yal (zls.mpr z));refine ⟨m - 1,by omega,by omega,_,rfl,?_,k3⟩;rw[h3,zfY,if_neg c',yay]
 ·rintro σ H3 ⟨x0,rfl,h3,k3⟩;exact q D H3 hD (fun b o e=>k3 b o (zac e hD) e) h3
def zhC (K:Frag):Sp:=fun vs H Q _=>∃(t:Addr) (ps:List Nat) (k:Nat),vs=[.ref t,.int k]∧H t=some (.tup (zbI ps))∧zaA ps∧k < ps.length+1∧ps.length≤900∧
 ∀(p:Addr) (H':Hp),H p=none→Same H H'→H' p=some (.lst ((benL ps k (ps.length+1)).map nV))→Q (.ref p) H'
theorem zkd (T:Txt K mg)(D_beneath:DF K mg "beneath" zd9 zdw):FC P w K mg base 1 "beneath" zdw (zhC K):=by
 refine D_beneath.ok sc_beneath (fun vs H Q E h=>?_) (fun f cdv A outer s H vs Q E hr h=>?_)
 ·obtain ⟨t,ps,k,rfl,_⟩:=h;rfl
 obtain ⟨t,ps,k,rfl,ht,hT,hk,hz,q⟩:=h;refine ⟨_,(zaj (zar (i:=2) sc_beneath.nd rfl (Or.inl rfl) (zbi (zaa (pv 1) zad)))
   (zaj (zcf PassesOwn.never rfl (zeh rfl T.m_range (zaa (zav zbC (pv 1) zai) (zaa (zam zao rfl T.m_len boot_len (zaa (pv 0) zad)) zad))) (zaz (i:=3) sc_beneath.nd rfl (Or.inl rfl)) (zae (zaY (zat zdb (zaR zbf (pv 0) (pv 3) (fun _ _=>rfl)) (pv 2) (by with_unfolding_all rfl)) (zae (zby (zgZ F.plainAttrs_list F.slot_list_append F.type_list_append zbU (pv 2) (zaa (pv 3) zad)))) zaw)))
   (zae (zas (pv 2))))),?_⟩
 refine ⟨_,rfl,(by show 1≤sizeLine;decide),fun p hp=>?_⟩;have k0:But p H (upd H p (.lst [.int (k:Int)])):=fun b o n e=>by rw[zag n];exact e
 have ntp:t≠p:=zac ht hp;refine ⟨_,rfl,_,_,rfl,rfl,_,rfl,_,_,rfl,.inr (SqT.of (k0 _ _ ntp ht)),_,_,rfl,⟨by omega,by omega,by omega,by rw[zau];omega⟩,?_⟩;have en:((((zbI ps).length:Nat):Int) - ((k:Int)+1)).toNat=ps.length - k:=by rw[zau];omega
 rw[en];refine zbW (n:=ps.length - k) (fun i σ H3=>∃ x3:Option V,σ=[some (.ref t),some (.int k),some (.ref p),x3]∧H3 p=some (.lst ((benL ps k (k+1+i)).map nV))∧But p H H3) ?_ ?_ ?_
 ·refine ⟨_,rfl,?_,k0⟩;rw[zab,ybr,zn7 hT];rfl
 ·rintro i σ H3 hi ⟨x3,rfl,h3,k3⟩;have ek:(k:Int)+1+(i:Int)=((k+1+i:Nat):Int):=by omega
  rw[ek];have hj:k+1+i < ps.length+1:=by omega
  have hj1:1≤k+1+i:=by omega
  have hjk:k+1+i≠k:=by omega
  have ei:k+1+(i+1)=k+1+i+1:=by omega
  rw[ei];generalize k+1+i=j at h3 hj hj1 hjk ⊢;obtain ⟨u,hu⟩:=zg0 hj1 hj;have h3t:=k3 _ _ ntp ht;have hat:=zf0 hj;rw[zei hu]at hat;have hlen:=zjR ps k j;refine ⟨_,rfl,_,rfl,_,_,_,_,rfl,rfl,SqT.of h3t,hat,_,rfl,_,_,rfl,.inl (SqL.of h3),rfl,zml _,_,rfl,?_⟩;show if inV (.int (u:Int)) ((benL ps k j).map nV)=true then _ else _
  rw[zoG];have hB:isB ps k j=isB ps k u:=zbO hT hjk hu;have hult:=(zaM hT hu).1;refine ite2 (fun c=>?_) (fun c=>?_)
  ·have c':isB ps k u=true:=(zb7.mp (yaQ c)).2;refine ⟨_,rfl,.inl ⟨rfl,_,SqL.of h3⟩,_,rfl,_,_,_,rfl,rfl,h3,zaq (by rw[yab];omega),?_⟩;refine ⟨_,rfl,?_,fun b o n e=>by rw[zag n];exact k3 b o n e⟩;rw[zab,zh8,hB,if_pos c',yat];rfl
  ·have c':¬ isB ps k u=true:=fun z=>c (yal (zb7.mpr ⟨hult,z⟩));refine ⟨_,rfl,?_,k3⟩;rw[h3,zh8,hB,if_neg c',yay]
 ·rintro σ H3 ⟨x3,rfl,h3,k3⟩;refine ⟨_,rfl,?_⟩;rw[show k+1+(ps.length - k)=ps.length+1 by omega]at h3;exact q p H3 hp (fun b o e=>k3 b o (zac e hp) e) h3
def zcB (es:List (Int×Int)):List (Int×Int):=zcK es (zek es)
def zak (rows:List (List Int))(k:Nat):List Int:=rows.getD k []
def ownE (rows:List (List Int))(k:Nat):List (Int×Int):=(zak rows k).map fun x=>(x,(k:Int))
def zkq (ps:List Nat)(rows:List (List Int)):Nat→Nat→List (Int×Int)
 | 0,_=>[]
 | f+1,k=>zc3 (((zb0 ps k (ps.length+1)).map fun c=>zcB (zkq ps rows f c)).flatten++ownE rows k)
theorem zgt {ps:List Nat}(T:zaA ps){rows:List (List Int)}:∀ f g k,k < ps.length+1→ps.length+1 - k≤f→ps.length+1 - k≤g→zkq ps rows f k=zkq ps rows g k
 | 0,_,k,hk,h,_=>by omega
 | _,0,k,hk,_,h=>by omega
 | f+1,g+1,k,hk,hf,hg=>by
  unfold zkq;congr 3;refine ycB fun c hc=>?_;have h:=zaD.mp hc;have:=zaM T h.2;show zcB _=zcB _;rw[zgt T f g c h.1 (by omega) (by omega)]
def zan (ps:List Nat)(rows:List (List Int))(k:Nat):List (Int×Int):=zkq ps rows (ps.length+1 - k) k
def zc9 (ps:List Nat)(rows:List (List Int))(k:Nat):List (List (Int×Int)):=((zb0 ps k (ps.length+1)).map fun c=>zcB (zan ps rows c))++[ownE rows k]
theorem zbP {ps:List Nat}(T:zaA ps){rows:List (List Int)}{k:Nat}(hk:k < ps.length+1):zan ps rows k=zc3 (zc9 ps rows k).flatten:=by
 unfold zan zc9;obtain ⟨f,hf⟩:∃ f,ps.length+1 - k=f+1:=⟨ps.length - k,by omega⟩;rw[hf,zkq,ycp,List.flatten_singleton];congr 3;refine ycB fun c hc=>?_;have h:=zaD.mp hc;have:=zaM T h.2;show zcB _=zcB _;rw[zgt T f (ps.length+1 - c) c h.1 (by omega) (by omega)];rfl
structure zaK (rows:List (List Int)):Prop where
 up:∀ row∈rows,row.Pairwise (· < ·)
 key:∀ row∈rows,∀ x∈row,-(10 ^ 60) < x∧x < 10 ^ 60
theorem zaK.at_up {rows:List (List Int)}(R:zaK rows)(k:Nat):(zak rows k).Pairwise (· < ·):=by
 unfold zak;rw[yae];cases e:rows[k]? with
 | none=>exact .nil
 | some row=>exact R.up row (yaD e)
theorem zaK.at_key {rows:List (List Int)}(R:zaK rows)(k:Nat):∀ x∈zak rows k,-(10 ^ 60) < x∧x < 10 ^ 60:=by
 unfold zak;rw[yae];cases e:rows[k]? with
 | none=>exact fun x hx=>nomatch hx
 | some row=>exact R.key row (yaD e)
theorem zhS {α:Type}:∀(es:List α) (ms:List Bool),(zcK es ms).Sublist es
 | [],_=>by
  unfold zcK;exact List.Sublist.refl _
 | e::es,[]=>by
  unfold zcK;exact List.nil_sublist _
 | e::es,m::ms=>by
  have ih:=zhS es ms;unfold zcK at ih ⊢;cases m with
  | false=>exact List.Sublist.cons e ih
  | true=>exact List.Sublist.cons₂ e ih
theorem zaT (es:List (Int×Int)):(zcB es).Sublist es:=zhS _ _
def Of (ps:List Nat)(rows:List (List Int))(k:Nat)(e:Int×Int):Prop:=∃ j,j < ps.length+1∧isB ps k j=true∧e.2=(j:Int)∧e.1∈zak rows j
theorem zjz {ps:List Nat}{rows:List (List Int)}{k:Nat}(hk:k < ps.length+1){e:Int×Int}(h:e∈ownE rows k):Of ps rows k e∧e.2=(k:Int):=by
 obtain ⟨x,hx,rfl⟩:=yaG.mp h;exact ⟨⟨k,hk,zb6,rfl,hx⟩,rfl⟩
theorem zlu {rows:List (List Int)}(R:zaK rows)(k:Nat):(ownE rows k).Nodup:=by
 unfold ownE;rw[List.nodup_iff_pairwise_ne,ybF];exact List.Pairwise.imp (fun {a b} (h:a < b) z=>by
  have:=congrArg Prod.fst z;have:a=b:=this;omega) (R.at_up k)
theorem zfo {ps:List Nat}(T:zaA ps){rows:List (List Int)}(R:zaK rows):∀(m k:Nat),ps.length+1 - k≤m→k < ps.length+1→(∀ e∈zan ps rows k,Of ps rows k e)∧(zc9 ps rows k).flatten.Nodup
 | 0,k,hm,hk=>by omega
 | m+1,k,hm,hk=>by
  have ih:∀ c,par ps c=some k→(∀ e∈zan ps rows c,Of ps rows c e)∧(zan ps rows c).Nodup:=fun c hc=>by
   have:=zaM T hc;have q:=zfo T R m c (by omega) this.2;refine ⟨q.1,?_⟩;rw[zbP T this.2];exact (zb8 _).nodup_iff.mpr q.2
  have up:∀{c:Nat} {e:Int×Int},par ps c=some k→Of ps rows c e→Of ps rows k e:=fun {c e} hc h=>by
   obtain ⟨j,h1,h2,h3,h4⟩:=h;exact ⟨j,h1,(zbV T j j (yaa _) h1).mpr (.inr ⟨c,hc,h2⟩),h3,h4⟩
  refine ⟨fun e he=>?_,?_⟩
  ·rw[zbP T hk,zfr]at he;obtain ⟨l,hl,he⟩:=ycn.mp he;rcases yaj.mp hl with q | q
   ·obtain ⟨c,hc,rfl⟩:=yaG.mp q;have hp:=(zaD.mp hc).2;exact up hp ((ih c hp).1 e ((zaT _).mem he))
   ·rw[yag.mp q]at he;exact (zjz hk he).1
  ·show List.Pairwise _ _;unfold zc9;rw[List.pairwise_flatten];refine ⟨fun l hl=>?_,?_⟩
   ·rcases yaj.mp hl with q | q
    ·obtain ⟨c,hc,rfl⟩:=yaG.mp q;exact (ih c (zaD.mp hc).2).2.sublist (zaT _)
    ·rw[yag.mp q];exact zlu R k
   ·rw[yaE];refine ⟨?_,ycq _ _,?_⟩
    ·rw[ybF];refine List.Pairwise.imp_of_mem (fun {c d} hc hd hcd=>?_) (zh0 ps k _);intro x hx y hy z;subst z;have pc:=(zaD.mp hc).2;have pd:=(zaD.mp hd).2;obtain ⟨j,_,h2,h3,_⟩:=(ih c pc).1 x ((zaT _).mem hx);obtain ⟨i,_,g2,g3,_⟩:=(ih d pd).1 x ((zaT _).mem hy);have:j=i:=by omega
     subst this;exact zde T pc pd (yao hcd) j j (yaa _) h2 g2
    ·intro l hl l' hl' x hx y hy z;subst z;obtain ⟨c,hc,rfl⟩:=yaG.mp hl;rw[yag.mp hl']at hy;have pc:=(zaD.mp hc).2;obtain ⟨j,_,h2,h3,_⟩:=(ih c pc).1 x ((zaT _).mem hx);have h4:=(zjz hk hy).2;have:j=k:=by omega
     subst this;rw[zdL T (zaM T pc).1]at h2;cases h2
theorem zfp {ps:List Nat}(T:zaA ps){rows:List (List Int)}(R:zaK rows){k:Nat}(hk:k < ps.length+1):∀ e∈zan ps rows k,Of ps rows k e:=(zfo T R _ k (yaa _) hk).1
theorem zdW {ps:List Nat}(T:zaA ps){rows:List (List Int)}(R:zaK rows){k:Nat}(hk:k < ps.length+1):(zan ps rows k).Nodup:=by
 rw[zbP T hk];exact (zb8 _).nodup_iff.mpr (zfo T R _ k (yaa _) hk).2
theorem zaJ {ps:List Nat}(T:zaA ps){rows:List (List Int)}(R:zaK rows){k:Nat}(hk:k < ps.length+1):Rise (zan ps rows k):=by
 rw[zbP T hk];exact zgj (zfo T R _ k (yaa _) hk).2
theorem zfN {ps:List Nat}(T:zaA ps){rows:List (List Int)}(R:zaK rows)(hz:ps.length≤40){k:Nat}(hk:k < ps.length+1):∀ e∈zan ps rows k,ze3 64 e:=fun e he=>by
 obtain ⟨j,h1,h2,h3,h4⟩:=zfp T R hk e he;have:=R.at_key j _ h4;exact ⟨this.1,this.2,by omega,by omega⟩
def wtR (ps:List Nat)(rows:List (List Int))(k:Nat):Nat:=((benL ps k (ps.length+1)).map fun j=>(zak rows j).length).sum
theorem zmZ {l m:List Nat}(h:l.Perm m):l.sum=m.sum:=by
 induction h with
 | nil=>rfl
 | cons x _ ih=>rw[yaH,yaH,ih]
 | swap x y l=>rw[yaH,yaH,yaH,yaH];omega
 | trans _ _ h1 h2=>rw[h1,h2]
theorem zjc (f:Nat→Nat):∀(ls:List (List Nat)),(ls.flatten.map f).sum=(ls.map fun l=>(l.map f).sum).sum
 | []=>rfl
 | l::ls=>by
  rw[ybJ,yat,List.sum_append,zjc f ls,yau,yaH]
theorem zkF {ps:List Nat}(T:zaA ps)(f:Nat→Nat){k:Nat}(hk:k < ps.length+1):((benL ps k (ps.length+1)).map f).sum=f k+((zb0 ps k (ps.length+1)).map fun c=>((benL ps c (ps.length+1)).map f).sum).sum:=by
 have h:=zmZ ((zj7 T hk).map f);rw[yau,yaH,zjc,ybE]at h;exact h.symm
theorem zoj {f g:Nat→Nat}:∀{l:List Nat},(∀ x∈l,f x≤g x)→(l.map f).sum≤(l.map g).sum
 | [],_=>yaa _
 | x::l,h=>by
  rw[yau,yaH,yau,yaH];have h1:=h x yaF;have h2:=zoj (f:=f) (g:=g) (l:=l) fun y hy=>h y (yax _ hy);omega
theorem zjE {α:Type}:∀(ls:List (List α)),ls.flatten.length=(ls.map List.length).sum
 | []=>rfl
 | l::ls=>by
  rw[ybJ,yaq,zjE ls,yau,yaH]
theorem zmj {ps:List Nat}(T:zaA ps){rows:List (List Int)}{k:Nat}(hk:k < ps.length+1):(zan ps rows k).length=(zak rows k).length+((zb0 ps k (ps.length+1)).map fun c=>(zcB (zan ps rows c)).length).sum:=by
 rw[zbP T hk,zeR];unfold zc9;rw[ycp,yaq,List.flatten_singleton,zjE,ybE];unfold ownE;rw[yab,Nat.add_comm];rfl
theorem zgs {ps:List Nat}(T:zaA ps){rows:List (List Int)}:∀(m k:Nat),ps.length+1 - k≤m→k < ps.length+1→(zan ps rows k).length≤wtR ps rows k
 | 0,k,hm,hk=>by omega
 | m+1,k,hm,hk=>by
  unfold wtR;rw[zmj T hk,zkF T _ hk];refine ycu (zoj fun c hc=>?_) _;have h:=zaD.mp hc;have:=zaM T h.2;exact yaA (zaT _).length_le (zgs T m c (by omega) h.1)
theorem zgg (f:Nat→Nat)(P:Nat→Bool):∀(l:List Nat),((l.filter P).map f).sum≤(l.map f).sum
 | []=>yaa _
 | x::l=>by
  have ih:=zgg f P l;rw[yau,yaH];by_cases h:P x=true
  ·rw[ybv h,yau,yaH];omega
  ·rw[ybW h];omega
def zbd (rows:List (List Int)):Nat:=(rows.map List.length).sum
theorem zkY (rows:List (List Int)):((List.range rows.length).map fun j=>(zak rows j).length).sum=zbd rows:=by
 unfold zbd;congr 1;apply ya4;intro i;rw[yap,yap];by_cases h:i < rows.length
 ·rw[ycj h,yac h];show some (zak rows i).length=some rows[i].length;unfold zak;rw[yae,yac h];rfl
 ·rw[yaU (by rw[ybf];omega),yaU (by omega)];rfl
theorem zoc {ps:List Nat}{rows:List (List Int)}(hl:rows.length=ps.length+1)(k:Nat):wtR ps rows k≤zbd rows:=by
 unfold wtR benL;refine yaA (zgg _ _ _) ?_;rw[← hl,zkY];exact yaa _
theorem zhi {ps:List Nat}(T:zaA ps){rows:List (List Int)}(hl:rows.length=ps.length+1){k:Nat}(hk:k < ps.length+1):(zan ps rows k).length≤zbd rows:=yaA (zgs T _ k (yaa _) hk) (zoc hl k)
def zaI (H:Hp)(as:List Addr)(rows:List (List Int)):Prop:=Paired (fun a row=>H a=some (.tup (row.map V.int))) as rows
theorem zaI.ext {H H':Hp}(e:∀ b o,H b=some o→H' b=some o){as:List Addr}{rows:List (List Int)}(h:zaI H as rows):zaI H' as rows:=pImp (fun _ _=>e _ _) h
theorem zaI.keep {d p:Addr}{H H':Hp}(hd:∀ a row,H a=some (.tup row)→a≠d)(e:∀ b o,b≠d→H b=some o→H' b=some o){as:List Addr}{rows:List (List Int)}(h:zaI H as rows):zaI H' as rows:=pImp (fun _ _ h=>e _ _ (hd _ _ h) h) h
theorem zaI.length {H:Hp}{as:List Addr}{rows:List (List Int)}(h:zaI H as rows):as.length=rows.length:=Paired.length h
theorem zaI.get {H:Hp}:∀{as:List Addr} {rows:List (List Int)} {k:Nat},zaI H as rows→k < rows.length→∃ a,as[k]?=some a∧H a=some (.tup ((zak rows k).map V.int))
 | _,_,_,.nil,hk=>by simp at hk
 | a::as,row::rows,0,.cons h t,_=>⟨a,rfl,h⟩
 | a::as,row::rows,k+1,.cons h t,hk=>by
  obtain ⟨b,h1,h2⟩:=zaI.get (k:=k) t (by simpa using hk);refine ⟨b,by rw[ycg];exact h1,?_⟩;have:zak (row::rows) (k+1)=zak rows k:=by
   unfold zak;rw[yae,yae,ycg]
  rw[this];exact h2
theorem zaI.snoc {H:Hp}{a:Addr}{row:List Int}{as:List Addr}{rows:List (List Int)}(h:zaI H as rows)(g:H a=some (.tup (row.map V.int))):zaI H (as++[a]) (rows++[row]):=pApp h (.cons g .nil)
structure zbs (H:Hp)(st:Addr)(ps:List Nat)(rows:List (List Int))(t rs:Addr)(as:List Addr):Prop where
 st:H st=some (.tup [.ref t,.ref rs])
 tr:H t=some (.tup (zbI ps))
 rs:H rs=some (.tup (as.map V.ref))
 at_:zaI H as rows
 len:rows.length=ps.length+1
 T:zaA ps
 R:zaK rows
 few:ps.length≤40
 keys:zbd rows≤400
theorem zbs.same {H H':Hp}{st t rs:Addr}{ps:List Nat}{rows:List (List Int)}{as:List Addr}(S:zbs H st ps rows t rs as)(e:Same H H'):zbs H' st ps rows t rs as:=
 ⟨e _ _ S.st,e _ _ S.tr,e _ _ S.rs,S.at_.ext e,S.len,S.T,S.R,S.few,S.keys⟩
theorem zeY {as:List Addr}{k:Nat}{a:Addr}(h:as[k]?=some a):atI (as.map V.ref) (k:Int)=some (.ref a):=zf1 (by rw[yap,h];rfl)
theorem zhM {α:Type}{l:List α}(h:l.Nodup):l.reverse.Nodup:=(List.reverse_perm l).nodup_iff.mpr h
def zf4 (K:Frag)(H:Hp)(ps:List Nat)(rows:List (List Int))(j:Nat)(q:Addr):Prop:=∃ ws,H q=some (.lst ws)∧zal K H (zan ps rows j) ws
def zaC (K:Frag)(H:Hp)(ps:List Nat)(rows:List (List Int)):List Nat→List Addr→Prop:=Paired (zf4 K H ps rows)
theorem zf4.same {K:Frag}{H H':Hp}{ps:List Nat}{rows:List (List Int)}{j:Nat}{q:Addr}(h:zf4 K H ps rows j q)(e:Same H H'):zf4 K H' ps rows j q:=by
 obtain ⟨ws,h1,h2⟩:=h;exact ⟨ws,e _ _ h1,h2.mono e.ext⟩
theorem zaC.same {K:Frag}{H H':Hp}{ps:List Nat}{rows:List (List Int)}(e:Same H H'){js:List Nat}{qs:List Addr}(h:zaC K H ps rows js qs):zaC K H' ps rows js qs:=pImp (fun _ _ h=>zf4.same h e) h
theorem zaC.ext {K:Frag}{H H':Hp}{ps:List Nat}{rows:List (List Int)}(e:Ext H H'){js:List Nat}{qs:List Addr}(h:zaC K H ps rows js qs):zaC K H' ps rows js qs:=pImp (fun _ _ h=>by
  obtain ⟨ws,a1,a2⟩:=h;exact ⟨ws,e _ _ a1 (fun _ z=>nomatch z),a2.mono e⟩) h
theorem zaC.length {K:Frag}{H:Hp}{ps:List Nat}{rows:List (List Int)}{js:List Nat}{qs:List Addr}(h:zaC K H ps rows js qs):js.length=qs.length:=Paired.length h
theorem zaC.snoc {K:Frag}{H:Hp}{ps:List Nat}{rows:List (List Int)}{j:Nat}{q:Addr}{js:List Nat}{qs:List Addr}(h:zaC K H ps rows js qs)(g:zf4 K H ps rows j q):zaC K H ps rows (js++[j]) (qs++[q]):=pApp h (.cons g .nil)
theorem zaC.get {K:Frag}{H:Hp}{ps:List Nat}{rows:List (List Int)}:∀{js:List Nat} {qs:List Addr} {i j:Nat},zaC K H ps rows js qs→js[i]?=some j→∃ q,qs[i]?=some q∧zf4 K H ps rows j q
 | _,_,i,j,.nil,h=>by simp at h
 | _::_,q::_,0,j,.cons h t,e=>by
  have:=yad (show some _=some j from e);subst this;exact ⟨q,rfl,h⟩
 | _::_,_::_,i+1,j,.cons h t,e=>by
  obtain ⟨q,h1,h2⟩:=zaC.get (i:=i) t (by simpa using e);exact ⟨q,by simpa using h1,h2⟩
theorem zaC.rev {K:Frag}{H:Hp}{ps:List Nat}{rows:List (List Int)}{js:List Nat}{qs:List Addr}(h:zaC K H ps rows js qs):zaC K H ps rows js.reverse qs.reverse:=by
 unfold zaC at h
 induction h with
 | nil=>exact .nil
 | cons h _ ih=>
  rw[yck,yck];exact zaC.snoc ih h
theorem zaC.alloc {K:Frag}{H:Hp}{ps:List Nat}{rows:List (List Int)}:∀{js:List Nat} {qs:List Addr},zaC K H ps rows js qs→∀ q∈qs,∃ ws,H q=some (.lst ws)
 | _,_,.nil=>fun q hq=>nomatch hq
 | _::_,_::_,.cons h t=>fun q hq=>by
  rcases yam.mp hq with e | e
  ·obtain ⟨ws,h1,_⟩:=h;exact ⟨ws,e ▸ h1⟩
  ·exact zaC.alloc t q e
abbrev kN (j:Nat):Key:=Sum.inl (j:Int)
def zdd:List Nat→List Addr→List (Key×V)
 | j::js,q::qs=>(kN j,.ref q)::zdd js qs
 | _,_=>[]
theorem zjH {j:Nat}:∀{js:List Nat} {qs:List Addr},j∉js→valV (zdd js qs) (kN j)=none
 | [],_,_=>rfl
 | _::_,[],_=>rfl
 | i::js,q::qs,h=>by
  have h1:¬ kN i=kN j:=fun z=>h (by
   have:=Int.ofNat.inj (Sum.inl.inj z);rw[this];exact yaF)
  show valV ((kN i,V.ref q)::zdd js qs) (kN j)=none;rw[zbk h1];exact zjH fun z=>h (yax _ z)
theorem ziF {j:Nat}{q:Addr}:∀{js:List Nat} {qs:List Addr} {i:Nat},js.Nodup→js[i]?=some j→qs[i]?=some q→valV (zdd js qs) (kN j)=some (.ref q)
 | [],_,_,_,h,_=>by simp at h
 | _::_,[],_,_,_,h=>by simp at h
 | a::js,b::qs,0,_,h1,h2=>by
  have:=yad (show some a=some j from h1);subst this;have:=yad (show some b=some q from h2);subst this;exact zco (p:=(kN a,V.ref b)) rfl
 | a::js,b::qs,i+1,hn,h1,h2=>by
  have g1:js[i]?=some j:=by simpa using h1
  have hne:¬ kN a=kN j:=fun z=>by
   have e:=Int.ofNat.inj (Sum.inl.inj z);exact (yaV.mp hn).1 (e ▸ yaD g1)
  show valV ((kN a,V.ref b)::zdd js qs) (kN j)=_;rw[zbk hne];exact ziF (yaV.mp hn).2 g1 (by simpa using h2)
theorem zjG {j:Nat}{q:Addr}:∀{js:List Nat} {qs:List Addr},js.length=qs.length→zdd (js++[j]) (qs++[q])=zdd js qs++[(kN j,.ref q)]
 | [],[],_=>rfl
 | [],_::_,h=>by cases h
 | _::_,[],h=>by cases h
 | a::js,b::qs,h=>by
  show (kN a,V.ref b)::zdd (js++[j]) (qs++[q])=(kN a,V.ref b)::(zdd js qs++[(kN j,V.ref q)]);rw[zjG (Nat.succ.inj h)]
theorem zpz {j:Nat}{q:Addr}{js:List Nat}{qs:List Addr}(hl:js.length=qs.length)(h:j∉js):putK (zdd js qs) (kN j) (.ref q)=zdd (js++[j]) (qs++[q]):=by
 rw[zea _ (zjH h),zjG hl]
theorem zl1:∀{js:List Nat} {qs:List Addr},js.length=qs.length→(zdd js qs).length=js.length
 | [],[],_=>rfl
 | [],_::_,h=>by cases h
 | _::_,[],h=>by cases h
 | a::js,b::qs,h=>by
  show (zdd js qs).length+1=js.length+1;rw[zl1 (Nat.succ.inj h)]
theorem zoa {l:List Nat}(h:l.Pairwise (· > ·)){i j c:Nat}(hj:l[i]?=some j)(hc:c∈l)(hcj:j < c):c∈l.take i:=by
 obtain ⟨u,hu,rfl⟩:=yaR hc;obtain ⟨hi,rfl⟩:=yak.mp hj;have:u < i:=by
  refine Nat.lt_of_not_le fun z=>?_;by_cases e:i=u
  ·subst e;omega
  ·have:=ybd.mp h i u hi hu (by omega);omega
 rw[List.mem_iff_getElem?];exact ⟨u,by rw[ybQ,if_pos this,yac hu]⟩
theorem znJ {ps:List Nat}(T:zaA ps){k j c:Nat}(h:isB ps k j=true)(hc:par ps c=some j):isB ps k c=true:=by
 by_cases e:c=k
 ·rw[e];exact zb6
 ·rw[zbO T e hc];exact h
def zqh (K:Frag):Sp:=fun vs H Q _=>∃(st:Addr) (ps:List Nat) (rows:List (List Int)) (t rs:Addr) (as:List Addr) (j:Nat),vs=[.ref st,.int j]∧zbs H st ps rows t rs as∧j < ps.length+1∧
 ∀(D:Addr) (us:List V) (H':Hp),H D=none→Same H H'→H' D=some (.lst us)→zal K H' (ownE rows j) us→Q (.ref D) H'
theorem zqH (T:Txt K mg)(D_own_entries:DF K mg "own_entries" zb2 zbL):FC P w K mg base 1 "own_entries" zbL (zqh K):=by
 refine D_own_entries.ok sc_own_entries (fun vs H Q E h=>?_) (fun f cdv A outer s H vs Q E hr h=>?_)
 ·obtain ⟨st,ps,rows,t,rs,as,k,rfl,_⟩:=h;rfl
 obtain ⟨st,ps,rows,t,rs,as,j,rfl,S4,hjn,q⟩:=h;refine ⟨_,(zae (zas (zbZ (N:=["key","knot"]) (own:=1) (cap:=[1]) rfl (zgm (zaR zbf (zaR zbf (pv 0) zai (fun _ _=>rfl)) (pv 1) (fun _ _=>rfl))) ⟨rfl,rfl,rfl,rfl,rfl,rfl⟩ (fun _ _ _ _ _=>(zaz (i:=0) (show List.Nodup (["key","knot"]:List Str) by decide +kernel) rfl (Or.inl rfl))) (fun _ _ _ _ _=>zcd) (fun _ _ _ _ _=>(zbz (zaa (pv 0) (zaa (pv 1) zad))))))),?_⟩;obtain ⟨a,ha1,ha4⟩:=S4.at_.get (k:=j) (by rw[S4.len];exact hjn);have hkeys:=S4.keys;refine ⟨_,rfl,_,_,_,_,rfl,rfl,SqT.of S4.st,rfl,_,rfl,_,_,_,_,rfl,rfl,SqT.of S4.rs,zeY ha1,a,rfl,⟨_,SqT.of ha4⟩,fun D3 hD3=>?_⟩;refine zdG (xs:=(zak rows j).map V.int) (fun m σ H5=>∃(us:List V) (x0:Option V),σ=[x0,some (.int j)]∧H5 D3=some (.lst us)∧zal K H5 ((ownE rows j).take m) us∧But D3 H H5) ?_ ?_ ?_ ?_
 ·exact ⟨[],_,rfl,zab,.nil,fun b o n e=>by rw[zag n];exact e⟩
 ·rintro m σ H5 _ ⟨us,x0,rfl,_,_,k5⟩;exact SqT.of (k5 _ _ (zac ha4 hD3) ha4)
 ·rintro m r x σ H5 hx hm ⟨us,x0,rfl,h5,hw5,k5⟩;rw[yap]at hx;obtain ⟨y,hy,rfl⟩:=ybl.mp hx;have hlow:=(yak.mp hy).1;have htk3:(ownE rows j).take (m+1)=(ownE rows j).take m++[(y,(j:Int))]:=by
   unfold ownE;rw[← ycr,← ycr,yaM hlow,yat];rw[(yak.mp hy).2];rfl
  have hul:=hw5.length;rw[yan]at hul;rw[yab]at hm;have hrl:(zak rows j).length≤zbd rows:=by
   have:=zoc S4.len (k:=j) (ps:=ps);have e2:wtR ps rows j=(zak rows j).length+_:=zkF S4.T _ hjn;omega
  refine zcJ ?_;refine ⟨_,rfl,_,rfl,(by show 2≤sizeLine;decide),fun u hu=>?_⟩;have su:=zaf hu (.tup [.int y,.int (j:Int)]);have h6:=su _ _ h5;have hut:upd H5 u (.tup [.int y,.int (j:Int)]) u=some (.tup [.int y,.int (j:Int)]):=zab;have k6:=k5.new' hu (.tup [.int y,.int (j:Int)]);have hw6:=hw5.mono su.ext;generalize upd H5 u (.tup [.int y,.int (j:Int)])=H6 at su h6 hut k6 hw6 ⊢;refine ⟨_,h6,zaq (by omega),r - 1,by omega,by rw[yab];omega,us++[.ref u],_,rfl,zab,?_,fun b o n e=>by rw[zag n];exact k6 b o n e⟩;rw[htk3];exact (zbB h6 hw6).append (zbB h6 (.cons ⟨u,.int y,.int (j:Int),rfl,hut,rfl,rfl⟩ .nil))
 ·rintro σ H5 ⟨us,x0,rfl,h5,hw5,k5⟩;rw[yab,yas (by unfold ownE;rw[yab];exact yaa _)]at hw5;exact q D3 us H5 hD3 (fun x o e=>k5 x o (zac e hD3) e) h5 hw5
def zqm (K:Frag):Sp:=fun vs H Q _=>∃(st:Addr) (ps:List Nat) (rows:List (List Int)) (t rs:Addr) (as:List Addr) (k:Nat),vs=[.ref st,.int k]∧zbs H st ps rows t rs as∧k < ps.length+1∧
 ∀(D:Addr) (qs:List Addr) (H':Hp),H D=none→Same H H'→H' D=some (.dK (zdd (benL ps k (ps.length+1)).reverse qs))→qs.Nodup→(∀ q∈qs,H q=none)→zaC K H' ps rows (benL ps k (ps.length+1)).reverse qs→Q (.ref D) H'
theorem zqN (T:Txt K mg)(D_full_rows_beneath:DF K mg "full_rows_beneath" za3 zaZ)(F_beneath:FC P w K mg base 1 "beneath" zdw (zhC K))(F_children:FC P w K mg base 1 "children" zcU (zgi K))(F_handed:FC P w K mg base 6 "handed" zc7 (zgL K))(F_own_entries:FC P w K mg base 1 "own_entries" zbL (zqh K))(F_joined_up:FC P w K mg base 1 "joined_up" zbR (zk8 K)):FC P w K mg base 7 "full_rows_beneath" zaZ (zqm K):=by
 refine D_full_rows_beneath.ok sc_full_rows_beneath (fun vs H Q E h=>?_) (fun f cdv A outer s H vs Q E hr h=>?_)
 ·obtain ⟨st,ps,rows,t,rs,as,k,rfl,_⟩:=h;rfl
 obtain ⟨st,ps,rows,t,rs,as,k,rfl,S,hk,q⟩:=h;refine ⟨_,(zaj (zar (i:=2) sc_full_rows_beneath.nd rfl (Or.inl rfl) (zaR zbf (pv 0) zai (fun _ _=>rfl)))
   (zaj (zar (i:=3) sc_full_rows_beneath.nd rfl (Or.inr rfl) znd)
   (zaj (zcf PassesOwn.never rfl (ziq rfl T.m_reversed (zaa (zax F_beneath hr (zaa (pv 2) (zaa (pv 1) zad))) zad)) (zaz (i:=4) sc_full_rows_beneath.nd rfl (Or.inl rfl)) (zaj (zfw (i:=5) (N:=["child","told"]) (own:=1) (cap:=[3]) sc_full_rows_beneath.nd rfl rfl rfl (zcV (zax F_children hr (zaa (pv 2) (zaa (pv 4) zad)))) ⟨rfl,rfl,rfl,rfl,rfl,rfl⟩ (fun _ _ _ _ _=>(zaz (i:=0) (show List.Nodup (["child","told"]:List Str) by decide +kernel) rfl (Or.inl rfl))) (fun _ _ _ _ _=>zcd) (fun _ _ _ _ _=>(zax F_handed hr (zaa (zdR (zeE hr) (pv 1) (pv 0) (fun _ _=>rfl)) zad))))
   (zaj (zby (zgZ F.plainAttrs_list F.slot_list_append F.type_list_append zbU (pv 5) (zaa (zax F_own_entries hr (zaa (pv 0) (zaa (pv 4) zad))) zad)))
   (zae (zfx (zeE hr) (pv 3) (pv 4) (zax F_joined_up hr (zaa (pv 5) zad)) rfl)))))
   (zae (zas (pv 3)))))),?_⟩
 refine ⟨_,rfl,_,_,_,_,rfl,rfl,SqT.of S.st,rfl,fun D hD=>?_⟩;have s0:=zaf hD (.dK []);have hD0:upd H D (.dK []) D=some (.dK []):=zab;generalize upd H D (.dK [])=H0 at s0 hD0 ⊢;refine ⟨_,rfl,_,rfl,t,ps,k,rfl,s0 _ _ S.tr,S.T,hk,by have:=S.few;omega,fun b H1 hb s1 h1=>?_⟩;refine ⟨b,_,rfl,SqL.of h1,?_⟩;have hup:=ziW ps k (ps.length+1);have hmem:=fun j=>zb7 (ps:=ps) (k:=k) (n:=ps.length+1) (j:=j);have hbl:=zjR ps k (ps.length+1);generalize benL ps k (ps.length+1)=bs at h1 q hup hmem hbl ⊢;have hdn:bs.reverse.Pairwise (· > ·):=by
  rw[List.pairwise_reverse];exact hup
 have hnd:bs.reverse.Nodup:=List.Pairwise.imp (fun {a b} (q:a > b)=>ybi q) hdn;refine zpJ (xs:=bs.map nV) (fun i σ H2=>∃(qs:List Addr) (x5 x6:Option V),σ=[some (.ref st),some (.int k),some (.ref t),some (.ref D),x5,x6]∧H2 D=some (.dK (zdd (bs.reverse.take i) qs))∧qs.Nodup∧(∀ q∈qs,H q=none)∧zaC K H2 ps rows (bs.reverse.take i) qs∧H2 b=some (.lst (bs.map nV))∧But D H H2) ?_ ?_ ?_ ?_
 ·exact ⟨[],_,_,rfl,s1 _ _ hD0,ybq,(fun q hq=>nomatch hq),.nil,h1,fun x o _ e=>s1 _ _ (s0 _ _ e)⟩
 ·rintro i σ H2 _ ⟨qs,x5,x6,rfl,_,_,_,_,h2b,_⟩;exact SqL.of h2b
 ·rintro i x σ H2 hx ⟨qs,x5,x6,rfl,h2,hqn,hqf,hF,h2b,k2⟩;rw[← List.map_reverse]at hx;obtain ⟨hi,hxe⟩:=zmh hx;have hji:bs.reverse[i]?=some (bs.reverse.getD i 0):=by
   rw[yae,yac hi];rfl
  subst hxe;have htk:bs.reverse.take (i+1)=bs.reverse.take i++[bs.reverse.getD i 0]:=by
   rw[yaM hi,yae,yac hi];rfl
  rw[htk];generalize bs.reverse.getD i 0=j at hji htk ⊢;have hjm:j∈bs:=ybT.mp (yaD hji);obtain ⟨hjn,hjB⟩:=(hmem j).mp hjm;have hjnot:j∉bs.reverse.take i:=fun z=>by
   have hnd':=hnd;rw[← yaO (i+1) bs.reverse,htk]at hnd';have:=(ya5.mp hnd').1;exact (ya5.mp this).2.2 j z j (yag.mpr rfl) rfl
  have noD:∀{p:Addr} {o:HO},H p=some o→p≠D:=fun {p o} e=>zac e hD;have S2:zbs H2 st ps rows t rs as:=⟨k2 _ _ (noD S.st) S.st,k2 _ _ (noD S.tr) S.tr,k2 _ _ (noD S.rs) S.rs,zaI.keep (p:=D) (d:=D) (fun a row e=>noD e) k2 S.at_,S.len,S.T,S.R,S.few,S.keys⟩;have hkeys:=S.keys;have hfew:=S.few;refine ⟨_,rfl,_,rfl,t,ps,j,rfl,S2.tr,by omega,fun c H3 hc s3 h3=>?_⟩;refine ⟨c,rfl,⟨_,SqL.of h3⟩,fun D2 hD2=>?_⟩;have hcmem:=fun m=>zaD (ps:=ps) (k:=j) (n:=ps.length+1) (j:=m);have hcl:=zgw ps j (ps.length+1);have hparts:zc9 ps rows j=((zb0 ps j (ps.length+1)).map fun c=>zcB (zan ps rows c))++[ownE rows j]:=rfl;generalize zb0 ps j (ps.length+1)=cs at h3 hcmem hcl hparts ⊢;have h3D:=s3 _ _ h2;have nDD2:D≠D2:=zac h3D hD2;have F3:zaC K H3 ps rows (bs.reverse.take i) qs:=hF.same s3;refine zbF (xs:=cs.map nV) (fun m σ H4=>∃(gs:List Addr) (x0:Option V),σ=[x0,some (.ref D)]∧H4 D2=some (.lst (gs.map V.ref))∧Own K H4 gs ((cs.take m).map fun c=>zcB (zan ps rows c))∧D2∉gs∧But D2 H3 H4) ?_ ?_ ?_ ?_
  ·exact ⟨[],_,rfl,zab,.nil,(fun z=>nomatch z),fun b o n e=>by rw[zag n];exact e⟩
  ·rintro m σ H4 _ ⟨gs,x0,rfl,_,_,_,k4⟩;exact k4.sq (SqL.of h3) hD2
  ·rintro m r x σ H4 hx hm ⟨gs,x0,rfl,h4,hO,hg,k4⟩;obtain ⟨hmi,rfl⟩:=zmh hx;have hcm:cs[m]?=some (cs.getD m 0):=by
    rw[yae,yac hmi];rfl
   have htk2:cs.take (m+1)=cs.take m++[cs.getD m 0]:=by
    rw[yaM hmi,yae,yac hmi];rfl
   rw[htk2];generalize cs.getD m 0=ch at hcm ⊢;obtain ⟨hchn,hchp⟩:=(hcmem ch).mp (yaD hcm);have hlt:=(zaM S.T hchp).1;have hin:ch∈bs.reverse.take i:=zoa hdn hji (ybT.mpr ((hmem ch).mpr ⟨hchn,znJ S.T hjB hchp⟩)) hlt;obtain ⟨u,hu,hue⟩:=yaR hin;have hu2:(bs.reverse.take i)[u]?=some ch:=by rw[yac hu,hue]
   obtain ⟨qq,hq1,ws,hq2,hq3⟩:=F3.get hu2;have hnd2:(bs.reverse.take i).Nodup:=hnd.sublist (List.take_sublist _ _);have hv:=ziF hnd2 hu2 hq1;have k4D:=k4 _ _ nDD2 h3D;have hq4:=k4 _ _ (zac hq2 hD2) hq2;have hq5:zal K H4 (zan ps rows ch) ws:=by
    have key:∀{es:List (Int×Int)} {vs:List V},zal K H3 es vs→zal K H4 es vs:=by
     intro es vs hh
     induction hh with
     | nil=>exact .nil
     | cons a _ ih=>
      obtain ⟨b,x1,x2,rfl,q,e1,e2⟩:=(show hasP K H3 _ _ from a);exact .cons ⟨b,x1,x2,rfl,k4 _ _ (zac q hD2) q,e1,e2⟩ ih
    exact key hq3
   have hlen:=zhi S.T S.len (rows:=rows) hchn;refine zcJ ?_;have hdg:DGet H4 D (.int (ch:Int)) (some (.ref qq)):=by
    rw[← hv];exact DGet.k (k:=kN ch) k4D
   refine ⟨_,rfl,_,rfl,D,_,rfl,hdg,?_⟩;refine ⟨qq,ws,zan ps rows ch,rfl,hq4,hq5,by omega,zfN S.T S.R hfew hchn,zaJ S.T S.R hchn,fun g H5 hg5 s5 h5=>?_⟩;have hgl:=hO.length;rw[yab,yan]at hgl;have h5D2:=s5 _ _ h4;have ngD2:D2≠g:=zac h4 hg5;rw[yab]at hm;refine ⟨_,h5D2,zaq (by rw[yab];omega),r - 1,by omega,by rw[yab];omega,gs++[g],_,rfl,?_,?_,?_,fun x o n e=>by rw[zag n];exact s5 _ _ (k4 x o n e)⟩
   ·rw[zab,yat];rfl
   ·rw[yat];refine Own.other h5D2 (Own.append (hO.ext s5.ext) (.cons ⟨_,h5,?_⟩ .nil)) ?_
    ·exact zfm (hq5.mono s5.ext)
    ·intro z;rcases yaj.mp z with z | z
     ·exact hg z
     ·exact ngD2 (yag.mp z)
   ·intro z;rcases yaj.mp z with z | z
    ·exact hg z
    ·exact ngD2 (yag.mp z)
  ·rintro σ H4 ⟨gs,x0,rfl,h4,hO,hg,k4⟩;rw[yab,yas (yaa _)]at hO;have hgl:=hO.length;rw[yab]at hgl;have s34:Same H3 H4:=fun x o e=>k4 x o (zac e hD2) e;have s24:Same H2 H4:=s3.trans s34;have S4:=S2.same s24;refine ⟨_,rfl,.inl ⟨rfl,_,SqL.of h4⟩,_,rfl,_,rfl,st,ps,rows,t,rs,as,j,rfl,S4,hjn,fun D3 us H5 hD3 s45 h5 hw5=>?_⟩;have h5D2:=s45 _ _ h4;have n23:D2≠D3:=zac h4 hD3;refine ⟨_,_,_,rfl,rfl,h5D2,zaq (by rw[yab];omega),?_⟩;have O5:Own K H5 (gs++[D3]) (zc9 ps rows j):=by
    rw[hparts];exact Own.append (hO.ext s45.ext) (.cons ⟨us,h5,hw5⟩ .nil)
   have nin:D2∉gs++[D3]:=fun z=>by
    rcases yaj.mp z with z | z
    ·exact hg z
    ·exact n23 (yag.mp z)
   have O6:=O5.other (o:=.lst (gs.map V.ref++[.ref D3])) h5D2 nin;have h6:upd H5 D2 (.lst (gs.map V.ref++[.ref D3])) D2=some (.lst ((gs++[D3]).map V.ref)):=by
    rw[zab,yat];rfl
   have k26:∀ x o,H2 x=some o→upd H5 D2 (.lst (gs.map V.ref++[.ref D3])) x=some o:=fun x o e=>by
    rw[zag (zac (s3 _ _ e) hD2)];exact s45 _ _ (s24 _ _ e)
   generalize upd H5 D2 (.lst (gs.map V.ref++[.ref D3]))=H6 at O6 h6 k26 ⊢;have hfl:(zc9 ps rows j).flatten.length≤1000:=by
    have:=zhi S.T S.len (rows:=rows) hjn;rw[zbP S.T hjn,zeR]at this;omega
   refine ⟨_,rfl,D2,gs++[D3],zc9 ps rows j,rfl,h6,O6,hfl,fun p ws H7 hp s7 h7 hw7=>?_⟩;rw[← zbP S.T hjn]at hw7;have s27:Same H2 H7:=fun x o e=>s7 _ _ (k26 x o e);have h7D:=s27 _ _ h2;have hql:=hF.length;have hpD:p≠D:=Ne.symm (zac (k26 _ _ h2) hp);refine ⟨_,rfl,_,rfl,D,_,rfl,DPut.k (k:=kN j) h7D (zaq (by rw[zl1 hql,yan,ybZ];omega)),?_⟩;rw[zpz hql hjnot];have e78:Ext H7 (upd H7 D (.dK (zdd (bs.reverse.take i++[j]) (qs++[p])))):=fun x o e n=>by
    rw[zag (fun z=>by
     rw[z,h7D]at e;cases e
     exact n _ rfl)]
    exact e
   have F8:zaC K (upd H7 D (.dK (zdd (bs.reverse.take i++[j]) (qs++[p])))) ps rows (bs.reverse.take i++[j]) (qs++[p]):=by
    exact zaC.ext e78 (zaC.snoc (hF.same s27) ⟨ws,h7,hw7⟩)
   refine ⟨qs++[p],_,_,rfl,zab,?_,?_,F8,?_,fun x o n e=>?_⟩
   ·rw[ya5];refine ⟨hqn,yaV.mpr ⟨(fun z=>nomatch z),ybq⟩,fun a ha b hb z=>?_⟩;rw[yag.mp hb]at z;subst z;obtain ⟨ws',hws⟩:=hF.alloc a ha;have:=k26 _ _ hws;rw[hp]at this;cases this
   ·intro x hx;rcases yaj.mp hx with z | z
    ·exact hqf x z
    ·rw[yag.mp z];cases e:H p with
     | none=>rfl
     | some o=>
      have:=k26 _ _ (k2 p o hpD e);rw[hp]at this;cases this
   ·rw[zag (fun z=>by rw[z,h2]at h2b;cases h2b)]
    exact s27 _ _ h2b
   ·rw[zag n];exact s27 _ _ (k2 x o n e)
 ·rintro σ H2 ⟨qs,x5,x6,rfl,h2,hqn,hqf,hF,h2b,k2⟩;refine ⟨_,rfl,?_⟩;rw[yab,yas (by rw[ybZ];exact yaa _)]at h2 hF;exact q D qs H2 hD (fun x o e=>k2 x o (zac e hD) e) h2 hqn hqf hF
def zim (K:Frag):Sp:=fun vs H Q _=>∃(st:Addr) (ps:List Nat) (rows:List (List Int)) (t rs:Addr) (as:List Addr),vs=[.ref st]∧zbs H st ps rows t rs as∧
 ∀(p:Addr) (qs:List Addr) (H':Hp),H p=none→Same H H'→H' p=some (.lst (qs.map V.ref))→qs.Nodup→(∀ q∈qs,H q=none)→p∉qs→zaC K H' ps rows (List.range (ps.length+1)) qs→Q (.ref p) H'
theorem zgV {n i:Nat}(h:i < n):(List.range n).reverse[n - 1 - i]?=some i:=by
 rw[ycz (by rw[ybf];omega),ybf,ycj (by omega)];congr 1;omega
theorem znt (T:Txt K mg)(D_full_rows:DF K mg "full_rows" zcQ zbS)(F_full_rows_beneath:FC P w K mg base 7 "full_rows_beneath" zaZ (zqm K)):FC P w K mg base 8 "full_rows" zbS (zim K):=by
 refine D_full_rows.ok sc_full_rows (fun vs H Q E h=>?_) (fun f cdv A outer s H vs Q E hr h=>?_)
 ·obtain ⟨st,ps,rows,t,rs,as,rfl,_⟩:=h;rfl
 obtain ⟨st,ps,rows,t,rs,as,rfl,S,q⟩:=h;refine ⟨_,(zaj (zar (i:=1) sc_full_rows.nd rfl (Or.inr rfl) (zax F_full_rows_beneath hr (zaa (pv 0) (zaa zai zad))))
   (zae (zas (zbZ (N:=["knot","told"]) (own:=1) (cap:=[1]) rfl (zcg rfl T.m_range (zaa (zam zao rfl T.m_len boot_len (zaa (zaR zbf (pv 0) zai (fun _ _=>rfl)) zad)) zad)) ⟨rfl,rfl,rfl,rfl,rfl,rfl⟩ (fun _ _ _ _ _=>(zaz (i:=0) (show List.Nodup (["knot","told"]:List Str) by decide +kernel) rfl (Or.inl rfl))) (fun _ _ _ _ _=>zcd) (fun _ _ _ _ _=>(zdR (zeE hr) (pv 1) (pv 0) (fun _ _=>rfl))))))),?_⟩
 refine ⟨_,rfl,st,ps,rows,t,rs,as,0,rfl,S,by omega,fun D qs H1 hD s1 h1 hqn hqf hF=>?_⟩;rw[zmJ S.T]at h1 hF;have S1:=S.same s1;have hfew:=S.few;have hql:=hF.length;rw[ybZ,ybf]at hql;refine ⟨_,rfl,_,_,_,_,rfl,rfl,SqT.of S1.st,rfl,_,_,rfl,.inr (SqT.of S1.tr),_,rfl,by omega,by rw[zau];omega,fun p hp=>?_⟩;have el:((((zbI ps).length:Nat):Int)).toNat=ps.length+1:=by rw[zau,ybk]
 rw[el];refine zeJ (n:=ps.length+1) (fun i σ H2=>∃ x0:Option V,σ=[x0,some (.ref D)]∧H2 p=some (.lst ((qs.reverse.take i).map V.ref))∧But p H1 H2) ?_ ?_ ?_
 ·exact ⟨_,rfl,zab,fun b o n e=>by rw[zag n];exact e⟩
 ·rintro i m σ H2 hm hi ⟨x0,rfl,h2,k2⟩;rw[ybX];have hi2:i < qs.reverse.length:=by rw[ybZ];omega
  have hq1:qs[ps.length+1 - 1 - i]?=some qs.reverse[i]:=by
   have:=ycz (l:=qs) (i:=i) (by omega);rw[yac hi2]at this;rw[this];congr 1;omega
  have hv:=ziF (zhM List.nodup_range) (zgV hi) hq1;have h2D:=k2 _ _ (zac h1 hp) h1;have hdg:DGet H2 D (.int (i:Int)) (some (.ref qs.reverse[i])):=by
   rw[← hv];exact DGet.k (k:=kN i) h2D
  refine zcJ ?_;refine ⟨_,rfl,_,rfl,D,_,rfl,hdg,?_⟩;refine ⟨_,h2,zaq (by rw[yab,yan];omega),m - 1,by omega,by omega,_,rfl,?_,fun b o n e=>by rw[zag n];exact k2 b o n e⟩;rw[zab,yaM hi2,yat];rfl
 ·rintro σ H2 ⟨x0,rfl,h2,k2⟩;rw[yas (by rw[ybZ];omega)]at h2;have s2:Same H1 H2:=fun b o e=>k2 b o (zac e hp) e;have F2:=(hF.same s2).rev;rw[ycx]at F2;refine q p qs.reverse H2 ?_ (s1.trans s2) h2 (zhM hqn) (fun x hx=>hqf x (ybT.mp hx)) (fun z=>?_) F2
  ·cases e:H p with
   | none=>rfl
   | some o=>
    have:=s1 _ _ e;rw[hp]at this;cases this
  ·obtain ⟨ws,hws⟩:=hF.alloc p (ybT.mp z);rw[hp]at hws;cases hws
abbrev En:=Int×Int
theorem zdp {l:List En}(h:Rise l):l.Nodup:=List.Pairwise.imp (fun {a b} (q:pLt a b=true) z=>by
 subst z;have:=zcA.mp q;omega) h
theorem zfv {l m:List En}(h1:Rise l)(h2:Rise m)(h:∀ e,e∈l↔e∈m):l=m:=by
 refine List.Perm.eq_of_pairwise (le:=fun a b=>pLt a b=true) (fun a b _ _ q1 q2=>?_) h1 h2 ((ycA (zdp h1) (zdp h2)).mpr h);have:=zcA.mp q1;have:=zcA.mp q2;omega
theorem zbp {ps:List Nat}(T:zaA ps){rows:List (List Int)}{k:Nat}(hk:k < ps.length+1){e:En}:e∈zan ps rows k↔e∈ownE rows k∨∃ c,par ps c=some k∧e∈zcB (zan ps rows c):=by
 rw[zbP T hk,zfr,ycn];unfold zc9;constructor
 ·rintro ⟨l,hl,he⟩;rcases yaj.mp hl with q | q
  ·obtain ⟨c,hc,rfl⟩:=yaG.mp q;exact .inr ⟨c,(zaD.mp hc).2,he⟩
  ·rw[yag.mp q]at he;exact .inl he
 ·rintro (h | ⟨c,hc,h⟩)
  ·exact ⟨_,yaj.mpr (.inr (yag.mpr rfl)),h⟩
  ·exact ⟨_,yaj.mpr (.inl (yaG.mpr ⟨c,zaD.mpr ⟨(zaM T hc).2,hc⟩,rfl⟩)),h⟩
inductive zf3 (K:Frag)(H:Hp):V→Bool→Prop where
 | int (i:Int):zf3 K H (.int i) true
 | bl (b:Bool):zf3 K H (.bl b) false
 | oth (x:V) (t:String) (ty:TyOf K H x (.type t)) (h2:kitO t "int" = some false):zf3 K H x false
def zgH (K:Frag):Sp:=fun vs H Q _=>∃(x:V) (b:Bool),vs=[x]∧zf3 K H x b∧Q (.bl b) H
theorem znj (T:Txt K mg)(D_is_whole:DF K mg "is_whole" zdn zbK):FC P w K mg base 1 "is_whole" zbK (zgH K):=by
 refine D_is_whole.ok sc_is_whole (fun vs H Q E h=>?_) (fun f cdv A outer s H vs Q E hr h=>?_)
 ·obtain ⟨x,b,rfl,_⟩:=h;rfl
 obtain ⟨x,b,rfl,hk,q⟩:=h;refine ⟨_,(zae (zas (zjy (zam zjQ rfl T.m_isinstance boot_isinstance (zaa (pv 0) (zaa (zcW (v:=.ty "int") rfl T.m_int boot_int rfl) zad))) (zjw (zqz (zam zjQ rfl T.m_isinstance boot_isinstance (zaa (pv 0) (zaa (zcW (v:=.ty "bool") rfl T.m_bool boot_bool rfl) zad)))))))),?_⟩;cases hk with
 | int i=>
  refine ⟨_,rfl,_,_,_,_,rfl,.int _,zq7,_,rfl,?_⟩;refine iteT ?_;refine ⟨_,rfl,_,_,_,_,rfl,.int _,zq8,_,rfl,?_⟩;exact q
 | bl c=>
  refine ⟨_,rfl,_,_,_,_,rfl,.bl _,(show kitO "bool" "int" = some true by decide +kernel),_,rfl,?_⟩;refine iteT ?_;refine ⟨_,rfl,_,_,_,_,rfl,.bl _,zq9,_,rfl,?_⟩;exact q
 | oth x t ty h2=>
  refine ⟨_,rfl,_,_,_,_,rfl,ty,h2,_,rfl,?_⟩;refine iteF ?_;exact q
inductive zi1 (K:Frag)(H:Hp):V→Bool→Prop where
 | int (i:Int) (b:Bool) (h:b=decide ((if i < 0 then -i else i) < 10 ^ 60)):zi1 K H (.int i) b
 | bl (b:Bool):zi1 K H (.bl b) false
 | oth (x:V) (t:String) (ty:TyOf K H x (.type t)) (h1:kitO t "bool" = some false) (h2:kitO t "int" = some false):zi1 K H x false
def zgK (K:Frag):Sp:=fun vs H Q _=>∃(x:V) (b:Bool),vs=[x]∧zi1 K H x b∧Q (.bl b) H
theorem zns (T:Txt K mg)(D_is_key:DF K mg "is_key" zfd zcG)(F_is_whole:FC P w K mg base 1 "is_whole" zbK (zgH K)):FC P w K mg base 2 "is_key" zcG (zgK K):=by
 refine D_is_key.ok sc_is_key (fun vs H Q E h=>?_) (fun f cdv A outer s H vs Q E hr h=>?_)
 ·obtain ⟨x,b,rfl,_⟩:=h;rfl
 obtain ⟨x,b,rfl,hk,q⟩:=h;refine ⟨_,(zae (zas (zjy (zax F_is_whole hr (zaa (pv 0) zad)) (zjw (zis zga (zam zhm rfl T.m_abs boot_abs (zaa (pv 0) zad)) (zav zgo zai zai) (zaH _)))))),?_⟩;cases hk with
 | int i b hb=>
  refine ⟨_,rfl,_,true,rfl,.int i,_,rfl,?_⟩;refine iteT ?_;refine ⟨_,rfl,_,rfl,_,_,rfl,rfl,⟨by decide,by decide,by decide⟩,_,_,rfl,rfl,?_⟩;rw[hb]at q;exact q
 | bl c=>
  refine ⟨_,rfl,_,false,rfl,.bl c,_,rfl,?_⟩;refine iteF ?_;exact q
 | oth x t ty h1 h2=>
  refine ⟨_,rfl,_,false,rfl,.oth x t ty h2,_,rfl,?_⟩;refine iteF ?_;exact q
def zin (K:Frag):Sp:=fun vs H Q _=>∃(m x:Int),vs=[.int m,.int x]∧0≤x∧x < m∧Q (.bl true) H
theorem znv (T:Txt K mg)(D_is_one_of_first:DF K mg "is_one_of_first" za0 zaB)(F_is_whole:FC P w K mg base 1 "is_whole" zbK (zgH K)):FC P w K mg base 2 "is_one_of_first" zaB (zin K):=by
 refine D_is_one_of_first.ok sc_is_one_of_first (fun vs H Q E h=>?_) (fun f cdv A outer s H vs Q E hr h=>?_)
 ·obtain ⟨m,x,rfl,_⟩:=h;rfl
 obtain ⟨m,x,rfl,h0,h1,q⟩:=h;refine ⟨_,(zae (zas (zjy (zax F_is_whole hr (zaa (pv 1) zad)) (zjw (zjx zni zga zai (pv 1) (pv 0)))))),?_⟩;refine ⟨_,rfl,_,true,rfl,.int x,_,rfl,?_⟩;refine iteT ?_;refine ⟨_,rfl,_,_,rfl,rfl,_,rfl,?_⟩;refine zpB h0 ?_;refine ⟨_,rfl,_,_,rfl,rfl,?_⟩;show Q (.bl (decide (x < m))) H;rw[yal h1];exact q
def zaL (a b:List En):List En:=a.filter fun e=>decide (e∉b)
theorem zbb {a b:List En}{e:En}:e∈zaL a b↔e∈a∧e∉b:=by
 unfold zaL;rw[ya7,decide_eq_true_iff]
theorem zmq (a:List En):zaL a a=[]:=ybI.mpr fun e h=>by
 rw[yai (fun z=>z h)];decide
theorem zgv {a b:List En}(h:a.Nodup):(zaL a b).Nodup:=h.filter _
structure Led (f f' g c:List En):Prop where
 eq:f'=zc3 (zaL f g++c)
 gone:g=zaL f f'
 come:c=zaL f' f
theorem zlX {f f' g c:List En}(h1:Rise f)(h2:Rise f')(hg:Rise g)(hc:Rise c)(mg:∀ e,e∈g↔e∈f∧e∉f')(mc:∀ e,e∈c↔e∈f'∧e∉f):Led f f' g c:=by
 have nd:(zaL f g++c).Nodup:=by
  refine ya5.mpr ⟨zgv (zdp h1),zdp hc,fun a ha b hb z=>?_⟩;subst z;exact ((mc a).mp hb).2 (zbb.mp ha).1
 refine ⟨zfv h2 (zgj nd) fun e=>?_,zfv hg (h1.filter _) fun e=>?_,zfv hc (h2.filter _) fun e=>?_⟩
 ·rw[zfr,yaj,zbb,mg,mc];constructor
  ·intro h;by_cases hf:e∈f
   ·exact .inl ⟨hf,fun z=>z.2 h⟩
   ·exact .inr ⟨h,hf⟩
  ·rintro (⟨h,n⟩ | h)
   ·exact Classical.byContradiction fun z=>n ⟨h,z⟩
   ·exact h.1
 ·exact (mg e).trans zbb.symm
 ·exact (mc e).trans zbb.symm
theorem zpy {f f':List En}(h1:Rise f)(h2:Rise f'):Led f f' (zaL f f') (zaL f' f):=zlX h1 h2 (h1.filter _) (h2.filter _) (fun _=>zbb) (fun _=>zbb)
theorem zjF {f f':List En}(h1:Rise f)(h2:Rise f')(hg:zaL f f'=[])(hc:zaL f' f=[]):f'=f:=zfv h2 h1 fun e=>by
 constructor
 ·intro h;exact Classical.byContradiction fun z=>absurd (zbb.mpr ⟨h,z⟩) (by rw[hc];exact ybe)
 ·intro h;exact Classical.byContradiction fun z=>absurd (zbb.mpr ⟨h,z⟩) (by rw[hg];exact ybe)
section
variable {ps:List Nat}{rows rows':List (List Int)}
def ze1 (k:Nat)(rows rows':List (List Int)):Prop:=∀ j,j≠k→zak rows' j=zak rows j
theorem zlv {k j:Nat}(h:ze1 k rows rows')(n:j≠k):ownE rows' j=ownE rows j:=by
 unfold ownE;rw[h j n]
theorem zfn (T:zaA ps){k:Nat}(hk:k < ps.length+1)(h:ze1 k rows rows'):∀(m j:Nat),ps.length+1 - j≤m→j < ps.length+1→isB ps j k=false→zan ps rows' j=zan ps rows j
 | 0,j,hm,hj,_=>by omega
 | m+1,j,hm,hj,hb=>by
  rw[zbP T hj,zbP T hj];unfold zc9;have njk:j≠k:=fun z=>by
   rw[z,zb6]at hb;cases hb
  rw[zlv h njk];congr 3;refine ycB fun c hc=>?_;obtain ⟨hcn,hcp⟩:=zaD.mp hc;have hlt:=(zaM T hcp).1;rw[zfn T hk h m c (by omega) hcn ?_];cases e:isB ps c k with
  | false=>rfl
  | true=>
   rw[(zbV T _ k (yaa _) hk).mpr (.inr ⟨c,hcp,e⟩)]at hb;cases hb
theorem zmi (T:zaA ps)(R:zaK rows)(R':zaK rows'){k j p:Nat}(hk:k < ps.length+1)(h:ze1 k rows rows')(hb:isB ps j k=true)(hp:par ps j=some p) :
  Led (zan ps rows p) (zan ps rows' p) (zaL (zcB (zan ps rows j)) (zcB (zan ps rows' j))) (zaL (zcB (zan ps rows' j)) (zcB (zan ps rows j))):=by
 have hlt:=zaM T hp;have hpn:p < ps.length+1:=by omega
 have npk:p≠k:=fun z=>by
  have:=zdL T (show k < j by omega);rw[hb]at this;cases this
 have oth:∀ c,par ps c=some p→c≠j→zan ps rows' c=zan ps rows c:=fun c hc n=>by
  refine zfn T hk h _ c (yaa _) (zaM T hc).2 ?_;cases e:isB ps c k with
  | false=>rfl
  | true=>exact (zde T hc hp n _ k (yaa _) e hb).elim
 have hr:=fun {r:List (List Int)} (R:zaK r)=>(zaJ T R hlt.2).sublist (zaT _);have dis:∀{r r':List (List Int)},zaK r→zaK r'→(∀ c,par ps c=some p→c≠j→zan ps r' c=zan ps r c)→ownE r' p=ownE r p→∀ e,e∈zcB (zan ps r j)→e∉zcB (zan ps r' j)→e∉zan ps r' p:=fun {r r'} Q Q' ho hw e he hn hf=>by
  obtain ⟨i,hi,hbi,ei,_⟩:=zfp T Q hlt.2 e ((zaT _).subset he);rcases (zbp T hpn).mp hf with z | ⟨c,hc,z⟩
  ·have:=(zjz hpn z).2;have eij:i=p:=by omega
   have:=zdL T hlt.1;rw[← eij,hbi]at this;cases this
  ·by_cases cj:c=j
   ·subst cj;exact hn z
   ·obtain ⟨i2,hi2,hb2,e2,_⟩:=zfp T Q' (zaM T hc).2 e ((zaT _).subset z);have eii:i2=i:=by omega
    subst eii;exact zde T hc hp cj _ i2 (yaa _) hb2 hbi
 have up:∀{r r':List (List Int)},(∀ c,par ps c=some p→c≠j→zan ps r' c=zan ps r c)→ownE r' p=ownE r p→∀ e,e∈zan ps r p→e∉zan ps r' p→e∈zcB (zan ps r j)∧e∉zcB (zan ps r' j):=fun {r r'} ho hw e he hn=>by
  refine ⟨?_,fun z=>hn ((zbp T hpn).mpr (.inr ⟨j,hp,z⟩))⟩;rcases (zbp T hpn).mp he with z | ⟨c,hc,z⟩
  ·exact absurd ((zbp T hpn).mpr (.inl (by rw[hw];exact z))) hn
  ·by_cases cj:c=j
   ·subst cj;exact z
   ·exact absurd ((zbp T hpn).mpr (.inr ⟨c,hc,by rw[ho c hc cj];exact z⟩)) hn
 have ow:=zlv h npk;refine zlX (zaJ T R hpn) (zaJ T R' hpn) ((hr R).filter _) ((hr R').filter _) (fun e=>zbb.trans ⟨fun zq0=>(by obtain ⟨a,b⟩:=zq0;exact ⟨(zbp T hpn).mpr (.inr ⟨j,hp,a⟩),dis R R' oth ow e a b⟩),fun zq1=>(by obtain ⟨a,b⟩:=zq1;exact up oth ow e a b)⟩) (fun e=>zbb.trans ⟨fun zq2=>(by obtain ⟨a,b⟩:=zq2;exact ⟨(zbp T hpn).mpr (.inr ⟨j,hp,a⟩),dis R' R (fun c hc n=>(oth c hc n).symm) ow.symm e a b⟩),fun zq3=>(by obtain ⟨a,b⟩:=zq3;exact up (fun c hc n=>(oth c hc n).symm) ow.symm e a b)⟩)
theorem zhT (T:zaA ps)(R:zaK rows)(R':zaK rows'){k:Nat}(hk:k < ps.length+1)(h:ze1 k rows rows'):Led (zan ps rows k) (zan ps rows' k) (zaL (ownE rows k) (ownE rows' k)) (zaL (ownE rows' k) (ownE rows k)):=by
 have oth:∀ c,par ps c=some k→zan ps rows' c=zan ps rows c:=fun c hc=>zfn T hk h _ c (yaa _) (zaM T hc).2 (zdL T (zaM T hc).1);have half:∀{r r':List (List Int)},zaK r'→(∀ c,par ps c=some k→zan ps r' c=zan ps r c)→∀ e,(e∈ownE r k∧e∉ownE r' k)↔e∈zan ps r k∧e∉zan ps r' k:=fun {r r'} Q' ho e=>by
  constructor
  ·rintro ⟨a,b⟩;refine ⟨(zbp T hk).mpr (.inl a),fun z=>?_⟩;rcases (zbp T hk).mp z with z | ⟨c,hc,z⟩
   ·exact b z
   ·obtain ⟨i,hi,hbi,ei,_⟩:=zfp T Q' (zaM T hc).2 e ((zaT _).subset z);have:=(zjz hk a).2;have eik:i=k:=by omega
    have:=zdL T (zaM T hc).1;rw[← eik,hbi]at this;cases this
  ·rintro ⟨a,b⟩;refine ⟨?_,fun z=>b ((zbp T hk).mpr (.inl z))⟩;rcases (zbp T hk).mp a with z | ⟨c,hc,z⟩
   ·exact z
   ·exact absurd ((zbp T hk).mpr (.inr ⟨c,hc,by rw[ho c hc];exact z⟩)) b
 have ori:∀{r:List (List Int)},zaK r→Rise (ownE r k):=fun {r} Q=>by
  unfold ownE;exact List.Pairwise.map _ (R:=fun a b:Int=>a < b) (fun a b (h:a < b)=>zcA.mpr (.inl h)) (Q.at_up k)
 exact zlX (zaJ T R hk) (zaJ T R' hk) ((ori R).filter _) ((ori R').filter _) (fun e=>zbb.trans (half R' oth e)) (fun e=>zbb.trans (half R (fun c hc=>(oth c hc).symm) e))
end
structure FA (K:Frag)(H:Hp)(p:Addr)(qs:List Addr)(n:Nat)(f:Nat→List En):Prop where
 at_:H p=some (.lst (qs.map V.ref))
 len:qs.length=n
 nd:qs.Nodup
 np:p∉qs
 get:∀(j:Nat) (q:Addr),qs[j]?=some q→∃ ws,H q=some (.lst ws)∧zal K H (f j) ws
section
variable {K:Frag}{H H':Hp}{p:Addr}{qs:List Addr}{n:Nat}{f g:Nat→List En}
theorem FA.ext (h:FA K H p qs n f)(e:Ext H H'):FA K H' p qs n f:=
 ⟨e _ _ h.at_ (fun _ z=>nomatch z),h.len,h.nd,h.np,fun j q hq=>by
  obtain ⟨ws,h1,h2⟩:=h.get j q hq;exact ⟨ws,e _ _ h1 (fun _ z=>nomatch z),h2.mono e⟩⟩
theorem FA.congr (h:FA K H p qs n f)(e:∀ j,j < n→f j=g j):FA K H p qs n g:=
 ⟨h.at_,h.len,h.nd,h.np,fun j q hq=>by
  rw[← e j (by have:=(yak.mp hq).1;have:=h.len;omega)];exact h.get j q hq⟩
theorem FA.set (h:FA K H p qs n f){k:Nat}{q':Addr}{l:List En}{ws:List V}(hq:H q'=some (.lst ws))(hw:zal K H l ws)(hn:q'∉qs)(hp:q'≠p):FA K (upd H p (.lst ((qs.map V.ref).set k (.ref q')))) p (qs.set k q') n (fun j=>if j=k then l else f j):=by
 refine ⟨?_,by rw[ybx];exact h.len,?_,fun z=>?_,fun j q hj=>?_⟩
 ·rw[zab,ybY]
 ·show List.Pairwise _ _;rw[ybd];intro i j hi hj hij;rw[ybx]at hi hj;rw[List.getElem_set,List.getElem_set];have old:=ybd.mp h.nd i j hi hj hij;split
  ·rw[if_neg (by omega)];exact fun z=>hn (z ▸ ya0 hj)
  ·split
   ·exact fun z=>hn (z ▸ ya0 hi)
   ·exact old
 ·rcases ybK z with y | y
  ·exact h.np y
  ·exact hp y.symm
 ·rw[ybu]at hj;show ∃ ws,_∧zal K _ (if j=k then l else f j) ws
  by_cases c:k=j
  ·rw[if_pos c]at hj;by_cases c2:k < qs.length
   ·rw[if_pos c2]at hj;have:=yad hj;subst this;rw[if_pos c.symm];exact ⟨ws,by rw[zag hp];exact hq,zbB h.at_ hw⟩
   ·rw[if_neg c2]at hj;cases hj
  ·rw[if_neg c]at hj;rw[if_neg (fun z=>c z.symm)];obtain ⟨us,h1,h2⟩:=h.get j q hj;have hqp:q≠p:=fun z=>h.np (by rw[← z];exact yaD hj);exact ⟨us,by rw[zag hqp];exact h1,zbB h.at_ h2⟩
theorem FA.at (h:FA K H p qs n f){k:Nat}(hk:k < n):∃ q ws,qs[k]?=some q∧H q=some (.lst ws)∧zal K H (f k) ws:=by
 have e:qs[k]?=some (qs[k]'(by have:=h.len;omega)):=yac _;obtain ⟨ws,h1,h2⟩:=h.get k _ e;exact ⟨_,ws,e,h1,h2⟩
theorem FA.has (h:FA K H p qs n f):zal K H ((List.range n).map f) (qs.map V.ref):=by
 obtain ⟨h1,h2,h3,h4,h5⟩:=h;clear h1 h3 h4
 induction qs generalizing n f with
 | nil=>
  have:n=0:=h2.symm;subst this;exact .nil
 | cons q qs ih=>
  obtain ⟨m,rfl⟩:∃ m,n=m+1:=⟨qs.length,h2.symm⟩;rw[List.range_succ_eq_map,yau,yau,ybE];obtain ⟨ws,w1,w2⟩:=h5 0 q rfl;exact .cons ⟨q,ws,rfl,SqL.of w1,w2⟩ (ih (n:=m) (f:=f ∘ Nat.succ) (Nat.succ.inj h2) fun j q' hj=>h5 (j+1) q' (by rw[ycg];exact hj))
end
structure zaF (K:Frag)(CS:Addr)(H:Hp)(sh dx st p:Addr)(qs:List Addr)(ps:List Nat)(rows:List (List Int))(t rs:Addr)(as:List Addr):Prop where
 own:H dx=some (.own sh)
 ins:H sh=some (.ins CS dx [("kept",.ref st),("fulls",.ref p)])
 stand:zbs H st ps rows t rs as
 full:FA K H p qs (ps.length+1) (zan ps rows)
def Tp (H H':Hp):Prop:=∀ b us,H b=some (.tup us)→H' b=some (.tup us)
theorem zft {H H':Hp}(e:Tp H H'){as:List Addr}{rows:List (List Int)}(h:zaI H as rows):zaI H' as rows:=pImp (fun _ _=>e _ _) h
theorem zcq {H H':Hp}{st t rs:Addr}{ps:List Nat}{rows:List (List Int)}{as:List Addr}(e:Tp H H')(S:zbs H st ps rows t rs as):zbs H' st ps rows t rs as:=
 ⟨e _ _ S.st,e _ _ S.tr,e _ _ S.rs,zft e S.at_,S.len,S.T,S.R,S.few,S.keys⟩
theorem But.tp {H H':Hp}{p:Addr}(k:But p H H')(n:∀ us,H p≠some (.tup us)):Tp H H':=fun b us e=>k b _ (fun z=>n us (z ▸ e)) e
theorem zbA {K:Frag}{H H':Hp}(k:Tp H H'){es:List (Int×Int)}{ws:List V}(h:zal K H es ws):zal K H' es ws:=pImp (fun _ _ h=>by
  obtain ⟨a,x1,x2,rfl,hT,e1,e2⟩:=(show hasP K H _ _ from h);exact ⟨a,x1,x2,rfl,k _ _ hT,e1,e2⟩) h
theorem FA.tp {K:Frag}{H H':Hp}{p:Addr}{qs:List Addr}{n:Nat}{f:Nat→List En}(h:FA K H p qs n f)(e:Tp H H')(l:∀ b us,H b=some (.lst us)→H' b=some (.lst us)):FA K H' p qs n f:=
 ⟨l _ _ h.at_,h.len,h.nd,h.np,fun j q hq=>by
  obtain ⟨ws,h1,h2⟩:=h.get j q hq;exact ⟨ws,l _ _ h1,zbA e h2⟩⟩
def zk9 (K:Frag)(CS:Addr):Sp:=fun vs H Q _=>∃(sh dx st:Addr) (ps:List Nat) (rows:List (List Int)) (t rs:Addr) (as:List Addr),vs=[.ref sh,.ref st]∧H dx=some (.own sh)∧H sh=some (.ins CS dx [])∧zbs H st ps rows t rs as∧
 ∀(p:Addr) (qs:List Addr) (H':Hp),H p=none→(∀ q∈qs,H q=none)→But sh H H'→zaF K CS H' sh dx st p qs ps rows t rs as→Q .non H'
theorem zrl {K:Frag}{H:Hp}{ps:List Nat}{rows:List (List Int)}:∀{n:Nat} {qs:List Addr} (m:Nat),zaC K H ps rows (List.range' m n) qs→qs.length=n∧∀(j:Nat) (q:Addr),qs[j]?=some q→∃ ws,H q=some (.lst ws)∧zal K H (zan ps rows (m+j)) ws
 | 0,_,_,.nil=>⟨rfl,fun j q h=>by simp at h⟩
 | n+1,_,m,.cons (b:=q) h r=>by
  obtain ⟨l,g⟩:=zrl (m+1) r;refine ⟨by rw[yaI,l],fun j q' hj=>?_⟩;cases j with
  | zero=>
   obtain rfl:=yad hj;exact h
  | succ j=>
   have:=g j q' hj;rwa[show m+1+j=m+(j+1) by omega]at this
theorem zaC.fa {K:Frag}{H:Hp}{p:Addr}{ps:List Nat}{rows:List (List Int)}{n:Nat}{qs:List Addr}(h:zaC K H ps rows (List.range n) qs)(hp:H p=some (.lst (qs.map V.ref)))(nd:qs.Nodup)(np:p∉qs):FA K H p qs n (zan ps rows):=by
 rw[List.range_eq_range']at h;obtain ⟨l,g⟩:=zrl 0 h;exact ⟨hp,l,nd,np,fun j q hj=>by
  have:=g j q hj;rwa[Nat.zero_add]at this⟩
theorem zpq (T:Txt K mg){CS:Addr}(O:OwnC K mg CS)(D_Shelf___init__:DI K CS "Shelf.__init__" zbn zbh)(F_full_rows:FC P w K mg base 8 "full_rows" zbS (zim K)):FI P w K mg base CS 9 zbh (zk9 K CS):=by
 refine D_Shelf___init__.ok sc_Shelf___init__ (fun vs H Q E h=>?_) (fun f cdv A outer s H vs Q E hr h=>?_)
 ·obtain ⟨sh,dx,st,ps,rows,t,rs,as,rfl,_⟩:=h;rfl
 obtain ⟨sh,dx,st,ps,rows,t,rs,as,rfl,h1,h2,S,q⟩:=h;refine ⟨_,(zaj (zhF (pv 0) (pv 1) rfl)
   (zae (zhF (pv 0) (zax F_full_rows hr (zaa (pv 1) zad)) rfl))),?_⟩
 refine ⟨_,rfl,_,rfl,sh,CS,dx,[],rfl,h2,O.cl,O.n_kept,by decide,?_⟩;have k1:But sh H (upd H sh (.ins CS dx (putF "kept" (.ref st) []))):=fun b o n e=>by rw[zag n];exact e
 have hsd:dx≠sh:=fun z=>by rw[z,h2]at h1;cases h1
 have a1:=k1 _ _ hsd h1;have a2:upd H sh (.ins CS dx (putF "kept" (.ref st) [])) sh=some (.ins CS dx [("kept",.ref st)]):=zab;have S1:=zcq (k1.tp fun us z=>by rw[h2]at z;cases z) S
 have hn:∀ b,upd H sh (.ins CS dx (putF "kept" (.ref st) [])) b=none→H b=none:=fun b e=>by
  by_cases z:b=sh
  ·subst z;rw[a2]at e;cases e
  ·rwa[zag z]at e
 generalize upd H sh (.ins CS dx (putF "kept" (.ref st) []))=H1 at k1 a1 a2 S1 hn ⊢;refine ⟨_,rfl,st,ps,rows,t,rs,as,rfl,S1,fun p qs H2 hp s2 g2 nd hq np F=>?_⟩;have b2:=s2 _ _ a2;refine ⟨_,rfl,sh,CS,dx,_,rfl,b2,O.cl,O.n_fulls,(by show 1 < 1000;decide),?_⟩;have k2:But sh H2 (upd H2 sh (.ins CS dx (putF "fulls" (.ref p) [("kept",.ref st)]))):=fun b o n e=>by rw[zag n];exact e
 have F2:FA K (upd H2 sh (.ins CS dx (putF "fulls" (.ref p) [("kept",.ref st)]))) p qs (ps.length+1) (zan ps rows):=by
  exact (F.fa g2 nd np).tp (k2.tp fun us z=>by rw[b2]at z;cases z) fun b us e=>k2 b _ (fun z=>by rw[z,b2]at e;cases e) e
 refine q p qs _ (hn _ hp) (fun x hx=>hn _ (hq x hx)) (fun b o n e=>k2 b o n (s2 _ _ (k1 b o n e))) ⟨k2 _ _ hsd (s2 _ _ a1),by rw[zab];rfl,zcq (k2.tp fun us z=>by rw[b2]at z;cases z) (S1.same s2),F2⟩
def zgJ (K:Frag):Sp:=fun vs H Q _=>∃(t:Addr) (kn:Nat) (ps:List Nat),vs=[.ref t,.int kn]∧H t=some (.tup (zbI ps))∧ps.length≤900∧kn < ps.length+1∧Q .non H
def zk3 (CS:Addr):Sp:=fun vs H Q _=>∃(sh dx st p:Addr),vs=[.ref sh]∧H sh=some (.ins CS dx [("kept",.ref st),("fulls",.ref p)])∧Q (.ref st) H
theorem znk {CS:Addr}(O:OwnC K mg CS)(D_Shelf_stand:DM K CS "stand" "Shelf.stand" zb3 zbM):FM P w K mg base CS 1 "stand" zbM (zk3 CS):=by
 refine D_Shelf_stand.ok sc_Shelf_stand (fun vs H Q E h=>?_) (fun f cdv A outer s H vs Q E hr h=>?_)
 ·obtain ⟨sh,dx,st,p,rfl,_⟩:=h;rfl
 obtain ⟨sh,dx,st,p,rfl,h2,q⟩:=h;refine ⟨_,(zae (zas (zbT (pv 0) rfl))),?_⟩;exact ⟨_,rfl,sh,CS,dx,_,_,rfl,h2,O.cl,O.n_kept,rfl,q⟩
theorem znr (T:Txt K mg)(D_need_knot:DF K mg "need_knot" zcb za2)(F_is_one_of_first:FC P w K mg base 2 "is_one_of_first" zaB (zin K)):FC P w K mg base 3 "need_knot" za2 (zgJ K):=by
 refine D_need_knot.ok sc_need_knot (fun vs H Q E h=>?_) (fun f cdv A outer s H vs Q E hr h=>?_)
 ·obtain ⟨t,kn,ps,rfl,_⟩:=h;rfl
 obtain ⟨t,kn,ps,rfl,ht,hl,hk,q⟩:=h;refine ⟨_,(zae (zaY (zc6 (zcu (zax F_is_one_of_first hr (zaa (zam zao rfl T.m_len boot_len (zaa (pv 0) zad)) (zaa (pv 1) zad))))) (zae za5) zaw)),?_⟩;have el:=zau ps;refine ⟨_,rfl,_,_,rfl,.inr (SqT.of ht),_,rfl,_,_,rfl,by omega,by omega,_,rfl,?_⟩;exact iteF q
def zib (x:Int):Prop:=-10 ^ 60 < x∧x < 10 ^ 60
def zil (K:Frag):Sp:=fun vs H Q _=>∃(x:Int),vs=[.int x]∧zib x∧Q .non H
theorem znm (T:Txt K mg)(D_need_key:DF K mg "need_key" zcE zbq)(F_is_key:FC P w K mg base 2 "is_key" zcG (zgK K)):FC P w K mg base 3 "need_key" zbq (zil K):=by
 refine D_need_key.ok sc_need_key (fun vs H Q E h=>?_) (fun f cdv A outer s H vs Q E hr h=>?_)
 ·obtain ⟨x,rfl,_⟩:=h;rfl
 obtain ⟨x,rfl,hx,q⟩:=h;refine ⟨_,(zae (zaY (zc6 (zcu (zax F_is_key hr (zaa (pv 0) zad)))) (zae za5) zaw)),?_⟩;refine ⟨_,rfl,_,true,rfl,.int x _ (yal (p:=(if x < 0 then -x else x) < 10 ^ 60) ?_).symm,_,rfl,?_⟩
 ·obtain ⟨h1,h2⟩:=hx;split <;> omega
 exact iteF q
def zla (K:Frag)(CS:Addr):Sp:=fun vs H Q _=>∃(sh dx st p:Addr) (kn:Nat) (qs:List Addr) (ps:List Nat) (rows:List (List Int)) (t rs:Addr) (as:List Addr),vs=[.ref sh,.int kn]∧zaF K CS H sh dx st p qs ps rows t rs as∧kn < ps.length+1∧
 ∀(D:Addr) (ws:List V),H D=none→zal K H (zan ps rows kn) ws→Q (.ref D) (upd H D (.lst ws))
theorem znu (T:Txt K mg){CS:Addr}(O:OwnC K mg CS)(D_Shelf_full:DM K CS "full" "Shelf.full" zct zb5)(F_need_knot:FC P w K mg base 3 "need_knot" za2 (zgJ K)):FM P w K mg base CS 4 "full" zb5 (zla K CS):=by
 refine D_Shelf_full.ok sc_Shelf_full (fun vs H Q E h=>?_) (fun f cdv A outer s H vs Q E hr h=>?_)
 ·obtain ⟨sh,dx,st,p,kn,qs,ps,rows,t,rs,as,rfl,_⟩:=h;rfl
 obtain ⟨sh,dx,st,p,kn,qs,ps,rows,t,rs,as,rfl,S,hk,q⟩:=h;refine ⟨_,(zaj (zby (zax F_need_knot hr (zaa (zaR zbf (zbT (pv 0) rfl) zai (fun _ _=>rfl)) (zaa (pv 1) zad))))
   (zae (zas (za7 zeX rfl T.m_list boot_list (zaa (zaR za1 (zbT (pv 0) rfl) (pv 1) (fun _ _=>rfl)) zad))))),?_⟩
 obtain ⟨qk,ws,g1,g2,g3⟩:=S.full.at hk;refine ⟨_,rfl,sh,CS,dx,_,_,rfl,S.ins,O.cl,O.n_kept,rfl,_,_,_,_,rfl,rfl,SqT.of S.stand.st,rfl,_,rfl,t,kn,ps,rfl,S.stand.tr,by have:=S.stand.few;omega,hk,?_⟩;refine ⟨_,rfl,sh,CS,dx,_,_,rfl,S.ins,O.cl,O.n_fulls,rfl,_,rfl,_,_,_,_,rfl,rfl,SqL.of S.full.at_,zeY g1,qk,ws,rfl,.inl (SqL.of g2),fun D hD=>?_⟩;exact q D ws hD g3
def ze5 (K:Frag)(CS:Addr):Sp:=fun vs H Q _=>∃(sh dx st p:Addr) (kn:Nat) (x:Int) (qs:List Addr) (ps:List Nat) (rows:List (List Int)) (t rs:Addr) (as:List Addr),vs=[.ref sh,.int kn,.int x]∧zaF K CS H sh dx st p qs ps rows t rs as∧kn < ps.length+1∧zib x∧
 ∀(a:Addr),as[kn]?=some a→H a=some (.tup ((zak rows kn).map V.int))→Q (.ref a) H
theorem zlD (T:Txt K mg){CS:Addr}(O:OwnC K mg CS)(D_Shelf_row_for:DM K CS "row_for" "Shelf.row_for" zbe zaE)(F_need_knot:FC P w K mg base 3 "need_knot" za2 (zgJ K))(F_need_key:FC P w K mg base 3 "need_key" zbq (zil K)):FM P w K mg base CS 4 "row_for" zaE (ze5 K CS):=by
 refine D_Shelf_row_for.ok sc_Shelf_row_for (fun vs H Q E h=>?_) (fun f cdv A outer s H vs Q E hr h=>?_)
 ·obtain ⟨sh,dx,st,p,kn,x,qs,ps,rows,t,rs,as,rfl,_⟩:=h;rfl
 obtain ⟨sh,dx,st,p,kn,x,qs,ps,rows,t,rs,as,rfl,S,hk,hx,q⟩:=h;refine ⟨_,(zaj (zby (zax F_need_knot hr (zaa (zaR zbf (zbT (pv 0) rfl) zai (fun _ _=>rfl)) (zaa (pv 1) zad))))
   (zaj (zby (zax F_need_key hr (zaa (pv 2) zad)))
   (zae (zas (zaR zbf (zaR zbf (zbT (pv 0) rfl) zai (fun _ _=>rfl)) (pv 1) (fun _ _=>rfl)))))),?_⟩
 obtain ⟨a,g1,g2⟩:=S.stand.at_.get (k:=kn) (by rw[S.stand.len];exact hk);refine ⟨_,rfl,sh,CS,dx,_,_,rfl,S.ins,O.cl,O.n_kept,rfl,_,_,_,_,rfl,rfl,SqT.of S.stand.st,rfl,_,rfl,t,kn,ps,rfl,S.stand.tr,by have:=S.stand.few;omega,hk,?_⟩;refine ⟨_,rfl,x,rfl,hx,?_⟩;refine ⟨_,rfl,sh,CS,dx,_,_,rfl,S.ins,O.cl,O.n_kept,rfl,_,_,_,_,rfl,rfl,SqT.of S.stand.st,rfl,_,rfl,_,_,_,_,rfl,rfl,SqT.of S.stand.rs,zeY g1,?_⟩;exact q a g1 g2
abbrev kS (e:En):List Key:=[.inl e.1,.inl e.2]
theorem zre {e f:En}(h:kS e=kS f):e=f:=by
 obtain ⟨a,b⟩:=e;obtain ⟨c,d⟩:=f;injection h with h1 h2;injection h2 with h2 _;have h1:a=c:=Sum.inl.inj h1;have h2:b=d:=Sum.inl.inj h2;rw[h1,h2]
def kvW (es:List En):List (List Key×V):=es.map fun e=>(kS e,.bl true)
theorem ziG (e:En):∀ es:List En,valV (kvW es) (kS e)=if e∈es then some (.bl true) else none
 | []=>rfl
 | f::es=>by
  show valV ((kS f,.bl true)::kvW es) (kS e)=_;by_cases z:f=e
  ·subst z;rw[zco rfl,if_pos yaF]
  ·rw[zbk (fun y=>z (zre y)),ziG e es];have hm:(e∈f::es)=(e∈es):=propext ⟨fun h=>(yam.mp h).resolve_left fun y=>z y.symm,fun h=>yax _ h⟩;by_cases y:e∈es
   ·rw[if_pos y,if_pos (by rw[hm];exact y)]
   ·rw[if_neg y,if_neg (by rw[hm];exact y)]
def zhy (K:Frag):Sp:=fun vs H Q _=>∃(a c:Addr) (ws us:List V) (es cs:List En),vs=[.ref a,.ref c]∧H a=some (.lst ws)∧zal K H es ws∧es.length≤900∧H c=some (.lst us)∧zal K H cs us∧cs.length≤900∧cs.Nodup∧
 ∀(p:Addr) (ws':List V) (H':Hp),H p=none→Same H H'→H' p=some (.lst ws')→zal K H' (zaL es cs) ws'→Q (.ref p) H'
theorem zkb (T:Txt K mg)(D_without:DF K mg "without" zd4 zdq):FC P w K mg base 1 "without" zdq (zhy K):=by
 refine D_without.ok sc_without (fun vs H Q E h=>?_) (fun f cdv A outer s H vs Q E hr h=>?_)
 ·obtain ⟨a,c,ws,us,es,cs,rfl,_⟩:=h;rfl
 obtain ⟨a,c,ws,us,es,cs,rfl,ha,hw,hz,hc,hu,hzc,hnd,q⟩:=h;have hwl:=hw.length;have hul:=hu.length;refine ⟨_,(zaj (zar (i:=2) sc_without.nd rfl (Or.inr rfl) znc)
   (zaj (zcf PassesOwn.never rfl (zcV (pv 1)) (zaz (i:=3) sc_without.nd rfl (Or.inl rfl)) (zae (zfx (zeE hr) (pv 2) (pv 3) zf9 rfl)))
   (zae (zas (zbZ (N:=["entry","away"]) (own:=1) (cap:=[2]) rfl (zcV (pv 0)) ⟨rfl,rfl,rfl,rfl,rfl,rfl⟩ (fun _ _ _ _ _=>(zaz (i:=0) (show List.Nodup (["entry","away"]:List Str) by decide +kernel) rfl (Or.inl rfl))) (fun _ _ _ _ _=>(zeA (zat (zj9 (zeE hr)) (pv 0) (pv 1) (by with_unfolding_all rfl)))) (fun _ _ _ _ _=>(pv 0))))))),?_⟩
 intro D hD;have k0:But D H (upd H D (.dT [])):=fun b o n e=>by rw[zag n];exact e
 have naD:a≠D:=zac ha hD;have ncD:c≠D:=zac hc hD;refine ⟨_,rfl,c,rfl,⟨_,SqL.of (k0 _ _ ncD hc)⟩,?_⟩;refine zhj (xs:=us) (fun i σ H2=>∃ x3:Option V,σ=[some (.ref a),some (.ref c),some (.ref D),x3]∧H2 D=some (.dT (kvW (cs.take i)))∧But D H H2) ?_ ?_ ?_ ?_
 ·exact ⟨_,rfl,zab,k0⟩
 ·rintro i σ H2 _ ⟨x3,rfl,_,k2⟩;exact SqL.of (k2 _ _ ncD hc)
 ·rintro i x σ H2 hx ⟨x3,rfl,h2,k2⟩;obtain ⟨e,he,hhas⟩:=hu.get hx;obtain ⟨b,y1,y2,rfl,hb,hy1,hy2⟩:=(show hasP K H e x from hhas);have hy1:y1=.int e.1:=hy1;have hy2:y2=.int e.2:=hy2;subst hy1 hy2;have hi:=(yak.mp he).1;have htk:cs.take (i+1)=cs.take i++[e]:=by
   rw[yaM hi,(yak.mp he).2]
  have h2b:=k2 _ _ (zac hb hD) hb;have hnot:e∉cs.take i:=fun z=>by
   have hn2:=hnd;rw[← yaO (i+1) cs,htk]at hn2;have:=(ya5.mp (ya5.mp hn2).1).2.2 e z e (yag.mpr rfl);exact this rfl
  have hln:(kvW (cs.take i)).length≤1000:=by
   unfold kvW;rw[yab,yan];omega
  refine ⟨_,rfl,_,rfl,D,_,rfl,DPut.t (k:=kS e) h2 h2b (zaq hln),?_⟩;refine ⟨_,rfl,?_,fun b o n e=>by rw[zag n];exact k2 b o n e⟩;rw[zab,zea _ (by rw[ziG,if_neg hnot]),htk];unfold kvW;rw[yat];rfl
 ·rintro σ H2 ⟨x3,rfl,h2,k2⟩;rw[yas (by omega)]at h2;have s2:Same H H2:=fun b o e=>k2 b o (zac e hD) e;have h2a:=s2 _ _ ha;refine ⟨_,rfl,a,rfl,⟨_,SqL.of h2a⟩,fun p hp=>?_⟩;have nDp:D≠p:=zac h2 hp;refine zbF (xs:=ws) (fun j σ H5=>∃(x0:Option V) (us:List V),σ=[x0,some (.ref D)]∧H5 p=some (.lst us)∧zal K H5 (zaL (es.take j) cs) us∧us.length≤j∧But p H2 H5) ?_ ?_ ?_ ?_
  ·exact ⟨_,[],rfl,zab,.nil,yaa _,fun b o n e=>by rw[zag n];exact e⟩
  ·rintro j σ H5 _ ⟨x0,us,rfl,_,_,_,k5⟩;exact k5.sq (SqL.of h2a) hp
  ·rintro j m x σ H5 hx hm ⟨x0,us,rfl,h5,hv,hul,k5⟩;have hj:=(yak.mp hx).1;obtain ⟨e,he,bb,x1,x2,rfl,hb,e1,e2⟩:∃ e,es[j]?=some e∧hasP K H e x:=hw.get hx;have e1':x1=.int e.1:=e1;have e2':x2=.int e.2:=e2;subst e1' e2';have htk:zaL (es.take (j+1)) cs=zaL (es.take j) cs++zaL [e] cs:=by
    unfold zaL;rw[yaM (by omega),(yak.mp he).2,ybg]
   have b2:=s2 _ _ hb;have b5:=k5 _ _ (zac b2 hp) b2;have h5D:=k5 _ _ nDp h2;refine ⟨_,rfl,_,rfl,D,_,rfl,DGet.t (k:=kS e) h5D b5,_,rfl,?_⟩;rw[ziG];by_cases c:e∈cs
   ·rw[if_pos c];refine iteF ⟨m - 1,by omega,by omega,_,_,rfl,h5,?_,by omega,k5⟩;rw[htk,show zaL [e] cs=[] from ybW (p:=fun e=>decide (e∉cs)) (by simpa using c),yay];exact hv
   ·rw[if_neg c];refine iteT ⟨_,rfl,_,h5,zaq (by omega),m - 1,by omega,by omega,_,_,rfl,zab,?_,by rw[yaq,ybc];omega,fun b o n e=>by rw[zag n];exact k5 b o n e⟩;rw[htk,show zaL [e] cs=[e] from ybv (p:=fun e=>decide (e∉cs)) (yal c)];exact (zbB h5 hv).append (zbB h5 (.cons ⟨bb,.int e.1,.int e.2,rfl,b5,rfl,rfl⟩ .nil))
  rintro σ H5 ⟨x0,us',rfl,h5,hv,_,k5⟩;rw[← hwl,yas (yaa _)]at hv;have hpH:H p=none:=by
   cases e:H p with
   | none=>rfl
   | some o=>
    rw[s2 _ _ e]at hp;cases hp
  exact q p us' H5 hpH (fun b o e=>k5 b o (zac (s2 _ _ e) hp) (s2 _ _ e)) h5 hv
section
variable {ps:List Nat}{rows rows':List (List Int)}{k:Nat}
def upN (ps:List Nat)(k:Nat):Nat→Option Nat
 | 0=>some k
 | m+1=>(upN ps k m).bind (par ps)
theorem zmS {m j p:Nat}(h:upN ps k m=some j)(hp:par ps j=some p):upN ps k (m+1)=some p:=by
 show (upN ps k m).bind (par ps)=_;rw[h];exact hp
theorem zi7 {m j:Nat}(h:upN ps k m=some j):upN ps k (m+1)=par ps j:=by
 show (upN ps k m).bind (par ps)=_;rw[h];rfl
theorem ze4 {m p:Nat}(h:upN ps k (m+1)=some p):∃ j,upN ps k m=some j∧par ps j=some p:=by
 cases e:upN ps k m with
 | none=>
  have:(upN ps k m).bind (par ps)=some p:=h;rw[e]at this;cases this
 | some j=>
  have:(upN ps k m).bind (par ps)=some p:=h;rw[e]at this;exact ⟨j,rfl,this⟩
theorem zkO (T:zaA ps):∀{m j:Nat},upN ps k m=some j→j+m≤k
 | 0,j,h=>by
  have:k=j:=yad h;omega
 | m+1,j,h=>by
  obtain ⟨i,h1,h2⟩:=ze4 h;have:=zkO T h1;have:=(zaM T h2).1;omega
theorem zhs (T:zaA ps)(hk:k < ps.length+1){m j:Nat}(h:upN ps k m=some j):j < ps.length+1:=by
 have:=zkO T h;omega
theorem zgE (T:zaA ps){i j:Nat}:∀ d m,upN ps k (m+d)=some i→upN ps k m=some j→i+d≤j
 | 0,m,h1,h2=>by
  rw[ybr,h2]at h1;have:=yad h1;omega
 | d+1,m,h1,h2=>by
  obtain ⟨x,g1,g2⟩:=ze4 (m:=m+d) h1;have:=zgE T d m g1 h2;have:=(zaM T g2).1;omega
theorem zi8 (T:zaA ps)(hk:k < ps.length+1):∀{m j:Nat},upN ps k m=some j→isB ps j k=true
 | 0,j,h=>by
  have:k=j:=yad h;subst this;exact zb6
 | m+1,j,h=>by
  obtain ⟨i,h1,h2⟩:=ze4 h;exact (zbV T _ k (yaa _) hk).mpr (.inr ⟨i,h2,zi8 T hk h1⟩)
theorem zoe (T:zaA ps)(hk:k < ps.length+1):∀(n j:Nat),ps.length+1 - j≤n→isB ps j k=true→∃ m,upN ps k m=some j
 | 0,j,hn,h=>by
  rcases (zbV T _ k (yaa _) hk).mp h with z | ⟨c,hc,_⟩
  ·exact ⟨0,congrArg some z⟩
  ·have:=zaM T hc;omega
 | n+1,j,hn,h=>by
  rcases (zbV T _ k (yaa _) hk).mp h with z | ⟨c,hc,hb⟩
  ·exact ⟨0,congrArg some z⟩
  ·have:=zaM T hc;obtain ⟨m,hm⟩:=zoe T hk n c (by omega) hb;exact ⟨m+1,zmS hm hc⟩
def stL (ps:List Nat)(rows rows':List (List Int))(k:Nat):Nat→Nat→List En
 | 0,i=>zan ps rows i
 | m+1,i=>if upN ps k m=some i then zan ps rows' i else stL ps rows rows' k m i
theorem zk2:∀{m i m':Nat},m' < m→upN ps k m'=some i→stL ps rows rows' k m i=zan ps rows' i
 | m+1,i,m',h,e=>by
  unfold stL;by_cases z:upN ps k m=some i
  ·rw[if_pos z]
  ·rw[if_neg z];refine zk2 (m':=m') ?_ e;rcases ybD m' m with y | y
   ·exact y
   ·have:m'=m:=by omega
    subst this;exact absurd e z
theorem zgG:∀{m i:Nat},(∀ m',m' < m→upN ps k m'≠some i)→stL ps rows rows' k m i=zan ps rows i
 | 0,_,_=>rfl
 | m+1,i,h=>by
  unfold stL;rw[if_neg (h m (by omega))];exact zgG fun m' hm=>h m' (by omega)
theorem zoZ (T:zaA ps){m j:Nat}(h:upN ps k m=some j):stL ps rows rows' k m j=zan ps rows j:=zgG fun m' hm e=>by
 have:=zgE T (m - m') m' (by rw[show m'+(m - m')=m by omega];exact h) e;omega
theorem zkL (T:zaA ps)(R:zaK rows)(R':zaK rows')(hk:k < ps.length+1)(h:ze1 k rows rows'){m j:Nat}(hm:upN ps k m=some j)(e:zan ps rows' j=zan ps rows j):∀{d i:Nat},upN ps k (m+d)=some i→zan ps rows' i=zan ps rows i
 | 0,i,hi=>by
  rw[ybr,hm]at hi;have:=yad hi;subst this;exact e
 | d+1,i,hi=>by
  obtain ⟨x,g1,g2⟩:=ze4 (m:=m+d) hi;have ih:=zkL T R R' hk h hm e g1;have L:=zmi T R R' hk h (zi8 T hk g1) g2;rw[ih,zmq]at L;exact zjF (zaJ T R (zhs T hk hi)) (zaJ T R' (zhs T hk hi)) L.gone.symm L.come.symm
theorem zoY (T:zaA ps)(R:zaK rows)(R':zaK rows')(hk:k < ps.length+1)(h:ze1 k rows rows'){m:Nat}(hm:upN ps k m=none∨∃ j,upN ps k m=some j∧zan ps rows' j=zan ps rows j){i:Nat}(hi:i < ps.length+1):stL ps rows rows' k m i=zan ps rows' i:=by
 cases e:isB ps i k with
 | false=>
  rw[zgG fun m' _ z=>by rw[zi8 T hk z]at e;cases e]
  exact (zfn T hk h _ i (yaa _) hi e).symm
 | true=>
  obtain ⟨m',e'⟩:=zoe T hk _ i (yaa _) e;rcases ybD m' m with y | y
  ·exact zk2 y e'
  ·rw[zgG fun x hx z=>by
    have:=zgE T (m' - x) x (by rw[show x+(m' - x)=m' by omega];exact e') z;omega]
   rcases hm with hm | ⟨j,hm,hj⟩
   ·exfalso;have:∀ d,upN ps k (m+d)=none:=fun d=>by
     induction d with
     | zero=>exact hm
     | succ d ih=>
      show (upN ps k (m+d)).bind (par ps)=none;rw[ih];rfl
    have:=this (m' - m);rw[show m+(m' - m)=m' by omega,e']at this;cases this
   ·exact (zkL T R R' hk h hm hj (d:=m' - m) (by rw[show m+(m' - m)=m' by omega];exact e')).symm
end
def zoV (ps:List Nat)(rows rows':List (List Int))(j:Nat):Tri Int (List En) (List En):=⟨(j:Int),zaL (zan ps rows j) (zan ps rows' j),zaL (zan ps rows' j) (zan ps rows j)⟩
def zf6 (ps:List Nat)(rows rows':List (List Int))(k:Nat):Nat→List (Tri Int (List En) (List En))
 | 0=>[]
 | m+1=>zf6 ps rows rows' k m++((upN ps k m).map (zoV ps rows rows')).toList
structure zcm (K:Frag)(CS:Addr)(H:Hp)(sh dx st p:Addr)(qs:List Addr)(ps:List Nat)(rows rows':List (List Int))(t rs:Addr)(as:List Addr)(k m:Nat):Prop where
 own:H dx=some (.own sh)
 ins:H sh=some (.ins CS dx [("kept",.ref st),("fulls",.ref p)])
 stand:zbs H st ps rows' t rs as
 full:FA K H p qs (ps.length+1) (stL ps rows rows' k m)
def zpY (ps:List Nat)(rows rows':List (List Int))(k m:Nat):Prop:=(∀ m' j,m' < m→upN ps k m'=some j→¬(zaL (zan ps rows j) (zan ps rows' j)=[]∧zaL (zan ps rows' j) (zan ps rows j)=[]))∧
 (upN ps k m=none∨∃ j,upN ps k m=some j∧zaL (zan ps rows j) (zan ps rows' j)=[]∧zaL (zan ps rows' j) (zan ps rows j)=[])
structure zrr (K:Frag)(H:Hp)(D:Addr)(Fr:Addr→Prop)(e:Tri Int (List En) (List En))(v:V):Prop where
 ex:∃(u g c:Addr) (gw cw:List V),v=.ref u∧H u=some (.tup [.int e.a,.ref g,.ref c])∧H g=some (.lst gw)∧zal K H e.b gw∧H c=some (.lst cw)∧zal K H e.c cw∧g≠D∧c≠D∧Fr g∧Fr c
def zbH (K:Frag)(H:Hp)(D:Addr)(Fr:Addr→Prop):List (Tri Int (List En) (List En))→List V→Prop:=Paired (zrr K H D Fr)
theorem zja {R S:Tri Int (List En) (List En)→V→Prop}(h:∀ e v,R e v→S e v){es:List (Tri Int (List En) (List En))}{us:List V}(p:Paired R es us):Paired S es us:=by
 induction p with
 | nil=>exact .nil
 | cons a _ ih=>exact .cons (h _ _ a) ih
theorem zbH.keep {K:Frag}{H H':Hp}{D:Addr}{Fr:Addr→Prop}(k:∀ b o,b≠D→Fr b→H b=some o→H' b=some o)(tp:Tp H H'){es:List (Tri Int (List En) (List En))}{us:List V}(h:zbH K H D Fr es us):zbH K H' D Fr es us:=zja (fun e v z=>by
 obtain ⟨u,g,c,gw,cw,e1,e2,e3,e4,e5,e6,n1,n2,n3,n4⟩:=z.ex;exact ⟨u,g,c,gw,cw,e1,tp _ _ e2,k _ _ n1 n3 e3,zbA tp e4,k _ _ n2 n4 e5,zbA tp e6,n1,n2,n3,n4⟩) h
theorem zbH.imp {K:Frag}{H:Hp}{D:Addr}{Fr Fr':Addr→Prop}(k:∀ b o,H b=some o→Fr b→Fr' b){es:List (Tri Int (List En) (List En))}{us:List V}(h:zbH K H D Fr es us):zbH K H D Fr' es us:=zja (fun e v z=>by
 obtain ⟨u,g,c,gw,cw,e1,e2,e3,e4,e5,e6,n1,n2,n3,n4⟩:=z.ex;exact ⟨u,g,c,gw,cw,e1,e2,e3,e4,e5,e6,n1,n2,k _ _ e3 n3,k _ _ e5 n4⟩) h
theorem zbH.snoc {K:Frag}{H:Hp}{D:Addr}{Fr:Addr→Prop}{e:Tri Int (List En) (List En)}{v:V}{es:List (Tri Int (List En) (List En))}{us:List V}(h:zbH K H D Fr es us)(g:zrr K H D Fr e v):zbH K H D Fr (es++[e]) (us++[v]):=by
 induction h with
 | nil=>exact .cons g .nil
 | cons a _ ih=>exact .cons a ih
def zgM (K:Frag)(CS:Addr):Sp:=fun vs H Q _=>∃(sh dx st p g c:Addr) (gw cw:List V) (kn:Nat) (qs:List Addr) (ps:List Nat) (rows rows':List (List Int)) (t rs:Addr) (as:List Addr) (Fr:Addr→Prop),vs=[.ref sh,.int kn,.ref g,.ref c]∧zcm K CS H sh dx st p qs ps rows rows' t rs as kn 0∧
 kn < ps.length+1∧ze1 kn rows rows'∧zaK rows∧rows.length=ps.length+1∧zbd rows≤400∧H g=some (.lst gw)∧zal K H (zaL (zan ps rows kn) (zan ps rows' kn)) gw∧H c=some (.lst cw)∧zal K H (zaL (zan ps rows' kn) (zan ps rows kn)) cw∧Fr g∧Fr c∧g∉qs∧c∉qs∧¬Fr p∧(∀ b,H b=none→Fr b)∧
 ∀(D:Addr) (us:List V) (m:Nat) (qs':List Addr) (H':Hp),zpY ps rows rows' kn m→H D=none→(∀ q∈qs',q∈qs∨H q=none)→But p H H'→zaF K CS H' sh dx st p qs' ps rows' t rs as→H' D=some (.lst us)→zbH K H' D (fun b=>Fr b∧b∉qs') (zf6 ps rows rows' kn m) us→Q (.ref D) H'
def upV:Option Nat→V
 | none=>.non
 | some j=>.int j
def Goes (ps:List Nat)(rows rows':List (List Int))(k m:Nat):Prop:=∀ m' j,m' < m→upN ps k m'=some j→¬(zaL (zan ps rows j) (zan ps rows' j)=[]∧zaL (zan ps rows' j) (zan ps rows j)=[])
structure CarI (K:Frag)(CS:Addr)(Fr:Addr→Prop)(H H2:Hp)(sh dx st p g c D:Addr)(gw cw us:List V)(qs qs':List Addr)(ps:List Nat)(rows rows':List (List Int))(t rs:Addr)(as:List Addr)(k m:Nat):Prop where
 half:zcm K CS H2 sh dx st p qs' ps rows rows' t rs as k m
 hg:H2 g=some (.lst gw)
 hc:H2 c=some (.lst cw)
 cur:∀ j,upN ps k m=some j→zal K H2 (zaL (zan ps rows j) (zan ps rows' j)) gw∧zal K H2 (zaL (zan ps rows' j) (zan ps rows j)) cw
 goes:Goes ps rows rows' k m
 hD:H2 D=some (.lst us)
 told:zbH K H2 D (fun b=>Fr b∧b∉qs') (zf6 ps rows rows' k m) us
 gD:g≠D
 cD:c≠D
 gp:Fr g
 cp:Fr c
 gq:g∉qs'
 cq:c∉qs'
 nD:H D=none
 nqs:∀ q∈qs',q∈qs∨H q=none
 but:But p H H2
 dp:D≠p
 dqs:D∉qs'
theorem zcm.keep {K:Frag}{CS:Addr}{H H':Hp}{sh dx st p:Addr}{qs:List Addr}{ps:List Nat}{rows rows':List (List Int)}{t rs:Addr}{as:List Addr}{k m:Nat}{D:Addr}(S:zcm K CS H sh dx st p qs ps rows rows' t rs as k m)(kp:But D H H')(hD:∀ o,H D=some o→∃ us,o=.lst us)(dp:D≠p)(dq:D∉qs):zcm K CS H' sh dx st p qs ps rows rows' t rs as k m:=by
 have nl:∀{b:Addr} {o:HO},H b=some o→(∀ us,o≠.lst us)→H' b=some o:=fun {b o} e n=>kp b o (fun z=>by
  subst z;obtain ⟨us,z⟩:=hD _ e;exact n us z) e
 have tp:Tp H H':=fun b us e=>nl e (fun _ z=>nomatch z);refine ⟨nl S.own (fun _ z=>nomatch z),nl S.ins (fun _ z=>nomatch z),zcq tp S.stand,kp _ _ dp.symm S.full.at_,S.full.len,S.full.nd,S.full.np,fun j q hq=>?_⟩;obtain ⟨ws,h1,h2⟩:=S.full.get j q hq;exact ⟨ws,kp _ _ (fun z=>dq (z ▸ yaD hq)) h1,zbA tp h2⟩
theorem zhv {ps:List Nat}{rows rows':List (List Int)}{k:Nat}(T:zaA ps):∀ m:Nat,(zf6 ps rows rows' k m).length≤m
 | 0=>yaa _
 | m+1=>by
  unfold zf6;rw[yaq];have:=zhv (rows:=rows) (rows':=rows') (k:=k) T m;cases upN ps k m with
  | none=>exact Nat.le_succ_of_le this
  | some j=>exact Nat.succ_le_succ this
theorem zlr (ps:List Nat)(j:Nat):parV ps j=upV (par ps j):=by
 unfold parV;cases par ps j <;> rfl
theorem znw (T:Txt K mg){CS:Addr}(O:OwnC K mg CS)(D_Shelf_carry_up:DM K CS "carry_up" "Shelf.carry_up" zbm zaO)(F_handed:FC P w K mg base 6 "handed" zc7 (zgL K))(F_joined_up:FC P w K mg base 1 "joined_up" zbR (zk8 K))(F_without:FC P w K mg base 1 "without" zdq (zhy K)):FM P w K mg base CS 7 "carry_up" zaO (zgM K CS):=by
 refine D_Shelf_carry_up.ok sc_Shelf_carry_up (fun vs H Q E h=>?_) (fun f cdv A outer s H vs Q E hr h=>?_)
 ·obtain ⟨sh,dx,st,p,g,c,gw,cw,kn,qs,ps,rows,rows',t,rs,as,Fr,rfl,_⟩:=h;rfl
 obtain ⟨sh,dx,st,p,g,c,gw,cw,kn,qs,ps,rows,rows',t,rs,as,Fr,rfl,S,hk,hB,R,hlen,hkeys,hg,hgw,hc,hcw,ngp,ncp,ngq,ncq,hFp,hF0,q⟩:=h;refine ⟨_,(zaG (zar (i:=4) sc_Shelf_carry_up.nd rfl (Or.inl rfl) (zbi zad))
   (zaG (zju PassesOwn.never (PW.pt (zjs (zat zlx (pv 1) zgn (zaH _)) (zgW (zat zph (zav zbC (zam zao rfl T.m_len boot_len (zaa (pv 2) zad)) (zam zao rfl T.m_len boot_len (zaa (pv 3) zad))) zai (zaH _))))) (zaG (zby (zgZ F.plainAttrs_list F.slot_list_append F.type_list_append zbU (pv 4) (zaa (zbz (zaa (pv 1) (zaa (pv 2) (zaa (pv 3) zad)))) zad)))
   (zaG (zar (i:=5) sc_Shelf_carry_up.nd rfl (Or.inl rfl) (zax F_handed hr (zaa (zaR za1 (zbT (pv 0) rfl) (pv 1) (fun _ _=>rfl)) zad)))
   (zaG (zhG (zax F_joined_up hr (zaa (zbi (zaa (zax F_without hr (zaa (zaR za1 (zbT (pv 0) rfl) (pv 1) (fun _ _=>rfl)) (zaa (pv 2) zad))) (zaa (pv 3) zad))) zad)) (zhJ (zbT (pv 0) rfl) (pv 1) zd3))
   (zaG (zar (i:=6) sc_Shelf_carry_up.nd rfl (Or.inl rfl) (zax F_handed hr (zaa (zaR za1 (zbT (pv 0) rfl) (pv 1) (fun _ _=>rfl)) zad)))
   (zaG (zar (i:=2) sc_Shelf_carry_up.nd rfl (Or.inl rfl) (zax F_without hr (zaa (pv 5) (zaa (pv 6) zad))))
   (zaG (zar (i:=3) sc_Shelf_carry_up.nd rfl (Or.inl rfl) (zax F_without hr (zaa (pv 6) (zaa (pv 5) zad))))
   (zae (zar (i:=1) sc_Shelf_carry_up.nd rfl (Or.inl rfl) (zaR zbf (zaR zbf (zbT (pv 0) rfl) zai (fun _ _=>rfl)) (pv 1) (fun _ _=>rfl)))))))))))
   (zae (zas (pv 4))))),?_⟩
 intro N0 n0;refine ⟨(by show 0≤sizeLine;decide),fun D hD=>n0 _ _ ?_⟩;intro Nw nw;have T':=S.stand.T;have R':=S.stand.R;have s0:=zaf hD (.lst []);refine zhp (fun σ H2=>∃(g c:Addr) (gw cw us:List V) (qs':List Addr) (m:Nat) (x5 x6:Option V),σ=[some (.ref sh),some (upV (upN ps kn m)),some (.ref g),some (.ref c),some (.ref D),x5,x6]∧CarI K CS Fr H H2 sh dx st p g c D gw cw us qs qs' ps rows rows' t rs as kn m)
  (fun σ H2=>∃(g c:Addr) (gw cw us:List V) (qs':List Addr) (m:Nat) (x5 x6:Option V),σ=[some (.ref sh),some (upV (upN ps kn m)),some (.ref g),some (.ref c),some (.ref D),x5,x6]∧CarI K CS Fr H H2 sh dx st p g c D gw cw us qs qs' ps rows rows' t rs as kn m∧(upN ps kn m=none∨∃ j,upN ps kn m=some j∧zaL (zan ps rows j) (zan ps rows' j)=[]∧zaL (zan ps rows' j) (zan ps rows j)=[]))
  (fun σ _=>match σ with | _::some (.int j)::_=>j.toNat+1 | _=>0) ?_ ?_ ?_ ?_
 ·refine ⟨g,c,gw,cw,[],qs,0,_,_,rfl,⟨s0 _ _ S.own,s0 _ _ S.ins,S.stand.same s0,S.full.ext s0.ext⟩,s0 _ _ hg,s0 _ _ hc,fun j e=>?_,fun m' j h=>absurd h (ybV _),zab,.nil,zac hg hD,zac hc hD,ngp,ncp,ngq,ncq,hD,fun q h=>.inl h,fun b o _ e=>s0 b o e,(fun z=>by rw[z,S.full.at_]at hD;cases hD),fun z=>?_⟩
  ·have:kn=j:=yad e;subst this;exact ⟨hgw.mono s0.ext,hcw.mono s0.ext⟩
  ·obtain ⟨j,hj,e⟩:=yaR z;obtain ⟨ws,w1,_⟩:=S.full.get j D (by rw[yac hj,e]);rw[hD]at w1;cases w1
 ·rintro σ H2 ⟨g,c,gw,cw,us,qs',m,x5,x6,rfl,I⟩;cases eu:upN ps kn m with
  | none=>
   refine ⟨_,rfl,rfl,_,rfl,?_⟩;refine iteF ?_;refine iteF ?_;exact ⟨g,c,gw,cw,us,qs',m,x5,x6,by rw[eu],I,.inl eu⟩
  | some j=>
   refine ⟨_,rfl,rfl,_,rfl,?_⟩;refine iteT ?_;refine ⟨_,rfl,_,_,rfl,.inl (SqL.of I.hg),_,rfl,_,_,rfl,.inl (SqL.of I.hc),_,_,rfl,rfl,_,_,rfl,rfl,_,rfl,?_⟩;obtain ⟨cg,cc⟩:=I.cur j eu;have lg:=cg.length;have lc:=cc.length;refine ite2 (fun hpos=>?_) (fun hneg=>?_)
   ·have hmj:=zkO T' eu;have hjn:=zhs T' hk eu;have hfew:=S.stand.few;have hul:us.length≤m:=by
     have:=Paired.length I.told;have:=zhv (rows:=rows) (rows':=rows') (k:=kn) T' m;omega
    refine zrQ fun N B' R0 hN hB' hR'=>?_;intro N1 n1;refine ⟨_,rfl,.inl ⟨rfl,_,SqL.of I.hD⟩,?_⟩;refine ⟨_,rfl,_,rfl,_,rfl,(by show 3≤sizeLine;decide),fun u hu=>?_⟩;have su:=zaf hu (.tup [upV (some j),.ref g,.ref c]);have huT:upd H2 u (.tup [upV (some j),.ref g,.ref c]) u=some (.tup [.int (j:Int),.ref g,.ref c]):=zab;generalize upd H2 u (.tup [upV (some j),.ref g,.ref c])=H3 at su huT ⊢;refine ⟨_,_,_,rfl,rfl,su _ _ I.hD,zaq (by omega),n1 _ _ ?_⟩;intro N2 n2;have hDq:∀ o,H3 D=some o→∃ us,o=.lst us:=fun o e=>⟨us,by rw[su _ _ I.hD]at e;exact (yad e).symm⟩;have k4:But D H3 (upd H3 D (.lst (us++[.ref u]))):=fun b o n e=>by rw[zag n];exact e
    have S4:zcm K CS (upd H3 D (.lst (us++[.ref u]))) sh dx st p qs' ps rows rows' t rs as kn m:=zcm.keep ⟨su _ _ I.half.own,su _ _ I.half.ins,I.half.stand.same su,I.half.full.ext su.ext⟩ k4 hDq I.dp I.dqs;have tp4:Tp H3 (upd H3 D (.lst (us++[.ref u]))):=k4.tp fun us' z=>by rw[su _ _ I.hD]at z;cases z
    have tpS:Tp H2 H3:=fun b us e=>su _ _ e;have g4:=k4 _ _ I.gD (su _ _ I.hg);have c4:=k4 _ _ I.cD (su _ _ I.hc);have cg4:=zbA tp4 (zbA tpS cg);have cc4:=zbA tp4 (zbA tpS cc);have D4:upd H3 D (.lst (us++[.ref u])) D=some (.lst (us++[.ref u])):=zab;have t4:zbH K (upd H3 D (.lst (us++[.ref u]))) D (fun b=>Fr b∧b∉qs') (zf6 ps rows rows' kn (m+1)) (us++[.ref u]):=by
     have e:zf6 ps rows rows' kn (m+1)=zf6 ps rows rows' kn m++[zoV ps rows rows' j]:=by
      show _++((upN ps kn m).map (zoV ps rows rows')).toList=_;rw[eu];rfl
     rw[e];refine zbH.snoc (zbH.keep (fun b o n1 _ e=>k4 b o n1 (su _ _ e)) (fun b us e=>tp4 _ _ (tpS _ _ e)) I.told) ⟨u,g,c,gw,cw,rfl,tp4 _ _ huT,g4,cg4,c4,cc4,I.gD,I.cD,⟨I.gp,I.gq⟩,⟨I.cp,I.cq⟩⟩
    have b4:But p H (upd H3 D (.lst (us++[.ref u]))):=fun b o n e=>k4 b o (zac e hD) (su _ _ (I.but b o n e));clear k4 hDq tp4;generalize upd H3 D (.lst (us++[.ref u]))=H4 at S4 g4 c4 cg4 cc4 D4 t4 b4 ⊢;obtain ⟨qj,ws,f1,f2,f3⟩:=S4.full.at hjn;rw[zoZ T' eu]at f3;have hle:=zhi T' hlen hjn;have hle':=zhi T' S.stand.len hjn;have hk':=S.stand.keys;refine ⟨_,rfl,sh,CS,dx,_,_,rfl,S4.ins,O.cl,O.n_fulls,rfl,_,rfl,_,_,_,_,rfl,rfl,SqL.of S4.full.at_,zeY f1,qj,ws,_,rfl,f2,f3,by omega,zfN T' R hfew hjn,zaJ T' R hjn,fun B H5 hB5 s5 h5=>n2 _ _ ?_⟩;intro N3 n3;have hh5:zal K H5 (zcB (zan ps rows j)) (zcK ws (zek (zan ps rows j))):=zfm (f3.mono s5.ext);have tp5:Tp H4 H5:=fun b us e=>s5 _ _ e;have S5:zcm K CS H5 sh dx st p qs' ps rows rows' t rs as kn m:=⟨s5 _ _ S4.own,s5 _ _ S4.ins,S4.stand.same s5,S4.full.ext s5.ext⟩;have ndg:(zaL (zan ps rows j) (zan ps rows' j)).Nodup:=zgv (zdW T' R hjn);refine ⟨_,rfl,sh,CS,dx,_,_,rfl,S5.ins,O.cl,O.n_fulls,rfl,_,rfl,_,_,_,_,rfl,rfl,SqL.of S5.full.at_,zeY f1,_,rfl,qj,g,ws,gw,_,_,rfl,s5 _ _ f2,f3.mono s5.ext,by omega,s5 _ _ g4,cg4.mono s5.ext,?_,ndg,fun W ww H6 hW s6 h6 hw6=>?_⟩
    ·exact yaA (ya6 _ _) (by omega)
    refine ⟨_,rfl,(by show 2≤sizeLine;decide),fun L hL=>?_⟩;have s7:=zaf hL (.lst [.ref W,.ref c]);have c7:=s7 _ _ (s6 _ _ (s5 _ _ c4));have hL7:upd H6 L (.lst [.ref W,.ref c]) L=some (.lst ([W,c].map V.ref)):=zab;have W7:=s7 _ _ h6;have w7:=hw6.mono s7.ext;generalize upd H6 L (.lst [.ref W,.ref c])=H7 at s7 c7 hL7 W7 w7 ⊢;have s47:Same H4 H7:=s5.trans (s6.trans s7);have cl:(zaL (zan ps rows' j) (zan ps rows j)).length≤(zan ps rows' j).length:=ya6 _ _;have gl:(zaL (zan ps rows j) (zaL (zan ps rows j) (zan ps rows' j))).length≤(zan ps rows j).length:=ya6 _ _;refine ⟨L,[W,c],[zaL (zan ps rows j) (zaL (zan ps rows j) (zan ps rows' j)),zaL (zan ps rows' j) (zan ps rows j)],rfl,hL7,.cons ⟨ww,W7,w7⟩ (.cons ⟨cw,c7,cc4.mono s47.ext⟩ .nil),?_,fun J jw H8 hJ s8 h8 hw8=>?_⟩
    ·rw[ybJ,ybJ,List.flatten_nil,yay,yaq];omega
    rw[ybJ,ybJ,List.flatten_nil,yay,← (zpy (zaJ T' R hjn) (zaJ T' R' hjn)).eq]at hw8;have s48:Same H4 H8:=s47.trans s8;have S8:zcm K CS H8 sh dx st p qs' ps rows rows' t rs as kn m:=⟨s48 _ _ S4.own,s48 _ _ S4.ins,S4.stand.same s48,S4.full.ext s48.ext⟩;refine ⟨_,rfl,sh,CS,dx,_,_,rfl,S8.ins,O.cl,O.n_fulls,rfl,_,rfl,p,_,_,j,rfl,rfl,S8.full.at_,zfI (by rw[yab,S8.full.len];exact hjn),n3 _ _ ?_⟩;intro N4 n4;have nn:∀{b:Addr},H7 b=none→H4 b=none:=fun {b} e=>by
     cases e4:H4 b with
     | none=>rfl
     | some o=>
      rw[s47 _ _ e4]at e;cases e
    have hJ4:=nn hJ;have hJp:J≠p:=fun z=>by rw[z,S4.full.at_]at hJ4;cases hJ4
    have hJq:J∉qs':=fun z=>by
     obtain ⟨i,hi,e⟩:=yaR z;obtain ⟨ws,w1,_⟩:=S4.full.get i J (by rw[yac hi,e]);rw[hJ4]at w1;cases w1
    have hJD:D≠J:=fun z=>by rw[← z,D4]at hJ4;cases hJ4
    have hBp:B≠p:=fun z=>by rw[z,S4.full.at_]at hB5;cases hB5
    have F9:=S8.full.set (k:=j) h8 hw8 hJq hJp;have k9:But p H8 (upd H8 p (.lst ((qs'.map V.ref).set j (.ref J)))):=fun b o n e=>by rw[zag n];exact e
    have tp9:Tp H8 (upd H8 p (.lst ((qs'.map V.ref).set j (.ref J)))):=k9.tp fun us' z=>by rw[S8.full.at_]at z;cases z
    have F9':FA K (upd H8 p (.lst ((qs'.map V.ref).set j (.ref J)))) p (qs'.set j J) (ps.length+1) (stL ps rows rows' kn (m+1)):=F9.congr fun i hi=>by
     show _=if upN ps kn m=some i then zan ps rows' i else stL ps rows rows' kn m i
     rw[eu];by_cases z:i=j
     ·rw[if_pos z,if_pos (by rw[z]),z]
     ·rw[if_neg z,if_neg (fun y=>z (yad y).symm)]
    have nlp:∀{b:Addr} {o:HO},H8 b=some o→(∀ us,o≠.lst us)→upd H8 p (.lst ((qs'.map V.ref).set j (.ref J))) b=some o:=fun {b o} e n=>k9 b o (fun z=>by
     rw[z,S8.full.at_]at e;exact n _ (yad e).symm) e
    have S9:zcm K CS (upd H8 p (.lst ((qs'.map V.ref).set j (.ref J)))) sh dx st p (qs'.set j J) ps rows rows' t rs as kn (m+1):=⟨nlp S8.own (fun _ z=>nomatch z),nlp S8.ins (fun _ z=>nomatch z),zcq tp9 S8.stand,F9'⟩;have s58:Same H5 H8:=s6.trans (s7.trans s8);have B9:=k9 _ _ hBp (s58 _ _ h5);have hB9:=zbA tp9 (hh5.mono s58.ext);have J9:=k9 _ _ hJp h8;have hJ9:=zbA tp9 hw8;have D9:=k9 _ _ I.dp (s48 _ _ D4);have t4':=t4.imp (Fr':=fun b=>Fr b∧b∉qs'.set j J) fun b o e n=>⟨n.1,fun z=>by
     rcases ybK z with y | y
     ·exact n.2 y
     ·rw[y,hJ4]at e;cases e⟩
    have t9:=zbH.keep (fun b o _ n e=>k9 b o (fun z=>hFp (z ▸ n.1)) (s48 _ _ e)) (fun b us e=>tp9 _ _ (s48 _ _ e)) t4';have b9:But p H (upd H8 p (.lst ((qs'.map V.ref).set j (.ref J)))):=fun b o n e=>k9 b o n (s48 _ _ (b4 b o n e));clear k9 tp9 nlp F9 F9';generalize upd H8 p (.lst ((qs'.map V.ref).set j (.ref J)))=H9 at S9 B9 hB9 J9 hJ9 D9 t9 b9 ⊢;have fJ:(qs'.set j J)[j]?=some J:=by
     have:=I.half.full.len;rw[ybu,if_pos rfl,if_pos (by omega)]
    refine ⟨_,rfl,sh,CS,dx,_,_,rfl,S9.ins,O.cl,O.n_fulls,rfl,_,rfl,_,_,_,_,rfl,rfl,SqL.of S9.full.at_,zeY fJ,J,jw,_,rfl,J9,hJ9,by omega,zfN T' R' hfew hjn,zaJ T' R' hjn,fun A' H10 hA10 s10 h10=>n4 _ _ ?_⟩;intro N5 n5;have hh10:zal K H10 (zcB (zan ps rows' j)) (zcK jw (zek (zan ps rows' j))):=zfm (hJ9.mono s10.ext);have hl1:=(zaT (zan ps rows j)).length_le;have hl2:=(zaT (zan ps rows' j)).length_le;have nd1:=(zdW T' R hjn).sublist (zaT (zan ps rows j));have nd2:=(zdW T' R' hjn).sublist (zaT (zan ps rows' j));refine ⟨_,rfl,_,rfl,B,A',_,_,_,_,rfl,s10 _ _ B9,hB9.mono s10.ext,by omega,h10,hh10,by omega,nd2,fun G gw' H11 hG s11 h11 hw11=>n5 _ _ ?_⟩;intro N6 n6;refine ⟨_,rfl,_,rfl,A',B,_,_,_,_,rfl,s11 _ _ h10,hh10.mono s11.ext,by omega,s11 _ _ (s10 _ _ B9),(hB9.mono s10.ext).mono s11.ext,by omega,nd1,fun C cw' H12 hC s12 h12 hw12=>n6 _ _ ?_⟩;have s92:Same H9 H12:=s10.trans (s11.trans s12);have S12:zcm K CS H12 sh dx st p (qs'.set j J) ps rows rows' t rs as kn (m+1):=⟨s92 _ _ S9.own,s92 _ _ S9.ins,S9.stand.same s92,S9.full.ext s92.ext⟩;refine ⟨_,rfl,sh,CS,dx,_,_,rfl,S12.ins,O.cl,O.n_kept,rfl,_,_,_,_,rfl,rfl,SqT.of S12.stand.st,rfl,_,rfl,_,_,_,_,rfl,rfl,SqT.of S12.stand.tr,zf0 hjn,?_⟩;have tp92:Tp H9 H12:=fun b us e=>s92 _ _ e;have hnH:∀{b:Addr},H9 b=none→H b=none∨b=p:=fun {b} e=>by
     by_cases z:b=p
     ·exact .inr z
     ·refine .inl ?_;cases e4:H b with
      | none=>rfl
      | some o=>
       rw[b9 _ _ z e4]at e;cases e
    have nG:H9 G=none:=s10.free hG;have nC:H9 C=none:=s10.free (s11.free hC);have nqs:∀{b:Addr},H9 b=none→b∉qs'.set j J:=fun {b} e z=>by
     obtain ⟨i,hi,ei⟩:=yaR z;obtain ⟨ws,w1,_⟩:=S9.full.get i b (by rw[yac hi,ei]);rw[e]at w1;cases w1
    refine hN _ _ ⟨⟨G,C,gw',cw',us++[.ref u],qs'.set j J,m+1,some (.ref B),some (.ref A'),?_,S12,s12 _ _ h11,h12,fun i hi=>?_,fun m' i hm' hi=>?_,s92 _ _ D9,zbH.keep (fun b o _ _ e=>s92 _ _ e) tp92 t9,?_,?_,?_,?_,nqs nG,nqs nC,hD,fun x hx=>?_,fun b o n e=>s92 _ _ (b9 b o n e),I.dp,fun z=>?_⟩,?_⟩
    ·rw[zi7 eu,zlr];rfl
    ·have L:=zmi T' R R' hk hB (zi8 T' hk eu) ((zi7 eu).symm.trans hi);rw[← L.gone,← L.come];exact ⟨hw11.mono s12.ext,hw12⟩
    ·rcases ybD m' m with y | y
     ·exact I.goes m' i y hi
     ·have:m'=m:=by omega
      subst this;rw[eu]at hi;have:=yad hi;subst this;rintro ⟨z1,z2⟩;rw[z1]at lg;rw[z2]at lc;have:(0:Int) < (gw.length:Int)+cw.length:=yaQ hpos;rw[ybp]at lg lc;omega
    ·exact fun z=>by rw[z,D9]at nG;cases nG
    ·exact fun z=>by rw[z,D9]at nC;cases nC
    ·exact (hnH nG).elim (hF0 _) fun z=>by rw[z,S9.full.at_]at nG;cases nG
    ·exact (hnH nC).elim (hF0 _) fun z=>by rw[z,S9.full.at_]at nC;cases nC
    ·rcases ybK hx with y | y
     ·exact I.nqs x y
     ·rw[y];refine .inr ?_;cases e4:H J with
      | none=>rfl
      | some o=>
       rw[b4 _ _ hJp e4]at hJ4;cases hJ4
    ·rcases ybK z with y | y
     ·exact I.dqs y
     ·exact hJD y
    ·rw[zlr];cases ep:par ps j with
     | none=>exact Nat.succ_pos _
     | some i=>
      have:=(zaM T' ep).1;show ((i:Int)).toNat+1 < ((j:Int)).toNat+1;omega
   ·have e0:gw.length=0∧cw.length=0:=by
     have:¬ (0:Int) < (gw.length:Int)+cw.length:=fun z=>hneg (yal z);omega
    exact ⟨g,c,gw,cw,us,qs',m,x5,x6,by rw[eu],I,.inr ⟨j,eu,ycC.mp (by omega),ycC.mp (by omega)⟩⟩
 ·refine zkX (fun σ H Q Q' m h=>?_) (fun σ H Q Q' m h=>?_)
  ·obtain ⟨y1,e1,e3,b,e4,q⟩:=h;exact ⟨y1,e1,e3,b,e4,m _ _ q⟩
  ·obtain ⟨y1,e1,p1,z1,e2,e3,y2,e4,p2,z2,e5,e6,i1,j1,e7,e8,i2,j2,e9,e10,b,e11,q⟩:=h;exact ⟨y1,e1,p1,z1,e2,e3,y2,e4,p2,z2,e5,e6,i1,j1,e7,e8,i2,j2,e9,e10,b,e11,m _ _ q⟩
 ·rintro σ H2 ⟨g,c,gw,cw,us,qs',m,x5,x6,rfl,I,hm⟩;have hm':upN ps kn m=none∨∃ j,upN ps kn m=some j∧zan ps rows' j=zan ps rows j:=hm.imp id fun ⟨j,h1,h2,h3⟩=>⟨j,h1,zjF (zaJ T' R (zhs T' hk h1)) (zaJ T' R' (zhs T' hk h1)) h2 h3⟩;refine nw _ _ ?_;refine ⟨_,rfl,?_⟩;exact q D us m qs' H2 ⟨I.goes,hm⟩ hD I.nqs I.but ⟨I.half.own,I.half.ins,I.half.stand,I.half.full.congr fun i hi=>zoY T' R R' hk hB hm' hi⟩ I.hD I.told
def loN (row:List Int)(x:Int):Nat:=(row.filter fun y=>decide (y < x)).length
def putR (row:List Int)(x:Int):List Int:=row.take (loN row x)++[x]++row.drop (loN row x)
def outR (row:List Int)(x:Int):List Int:=row.take (loN row x)++row.drop (loN row x+1)
theorem zlW {x:Int}:∀{row:List Int},row.Pairwise (· < ·)→(∀ y∈row.take (loN row x),y < x)∧∀ y∈row.drop (loN row x),x≤y
 | [],_=>⟨(fun _ h=>by simp at h),fun _ h=>by simp at h⟩
 | a::r,h=>by
  obtain ⟨h1,h2⟩:=yb8.mp h;by_cases c:a < x
  ·have e:loN (a::r) x=loN r x+1:=by
    unfold loN;rw[ybv (p:=fun y=>decide (y < x)) (yal c),yaI]
   obtain ⟨i1,i2⟩:=zlW (x:=x) h2;rw[e];refine ⟨fun y hy=>?_,fun y hy=>i2 y hy⟩;rcases yam.mp hy with z | z
   ·rw[z];exact c
   ·exact i1 y z
  ·have e:loN (a::r) x=0:=by
    unfold loN;rw[ybI.mpr,ybp];intro y hy z;have z:=yaQ z;rcases yam.mp hy with w | w
    ·omega
    ·have:=h1 y w;omega
   rw[e];refine ⟨(fun y hy=>by simp at hy),fun y hy=>?_⟩;rcases yam.mp hy with w | w
   ·omega
   ·have:=h1 y w;omega
theorem zio {row:List Int}{x y:Int}:y∈putR row x↔y∈row∨y=x:=by
 unfold putR;rw[yaj,yaj,yag];constructor
 ·rintro ((h | h) | h)
  ·exact .inl (ybA h)
  ·exact .inr h
  ·exact .inl (ybB h)
 ·rintro (h | h)
  ·rw[← yaO (loN row x) row]at h;rcases yaj.mp h with h | h
   ·exact .inl (.inl h)
   ·exact .inr h
  ·exact .inl (.inr h)
theorem zow {row:List Int}{x:Int}(h:row.Pairwise (· < ·))(n:x∉row):(putR row x).Pairwise (· < ·):=by
 obtain ⟨h1,h2⟩:=zlW (x:=x) h;have h3:∀ y∈row.drop (loN row x),x < y:=fun y hy=>by
  have:=h2 y hy;have:y≠x:=fun z=>n (z ▸ ybB hy);omega
 have hp:=h;rw[← yaO (loN row x) row]at hp;obtain ⟨p1,p2,_⟩:=yaE.mp hp;unfold putR;refine yaE.mpr ⟨yaE.mpr ⟨p1,ycq _ _,fun a ha b hb=>?_⟩,p2,fun a ha b hb=>?_⟩
 ·rw[yag.mp hb];exact h1 a ha
 ·have:=h3 b hb;rcases yaj.mp ha with z | z
  ·have:=h1 a z;omega
  ·rw[yag.mp z];exact this
theorem zeC (row:List Int)(x:Int):(outR row x).Sublist row:=by
 unfold outR;have:(row.take (loN row x)++row.drop (loN row x+1)).Sublist (row.take (loN row x)++row.drop (loN row x)):=by
  refine List.Sublist.append (List.Sublist.refl _) ?_;rw[← ybz];exact yb6 _ _
 rwa[yaO]at this
theorem zlw {row:List Int}{x y:Int}(h:row.Pairwise (· < ·))(hx:x∈row):y∈outR row x↔y∈row∧y≠x:=by
 obtain ⟨h1,h2⟩:=zlW (x:=x) h;have hd:∃ r,row.drop (loN row x)=x::r:=by
  have hm:x∈row.drop (loN row x):=by
   have hx':=hx;rw[← yaO (loN row x) row]at hx';rcases yaj.mp hx' with z | z
   ·exact absurd (h1 x z) (by omega)
   ·exact z
  cases e:row.drop (loN row x) with
  | nil=>rw[e]at hm;cases hm
  | cons a r=>
   have ha:=h2 a (by rw[e];exact yaF);rw[e]at hm;rcases yam.mp hm with z | z
   ·exact ⟨r,by rw[z]⟩
   ·have hs:=h.sublist (yb6 (loN row x) row);rw[e]at hs;have:=(yb8.mp hs).1 x z;omega
 obtain ⟨r,hr⟩:=hd;have hr1:row.drop (loN row x+1)=r:=by
  rw[← ybz,hr];rfl
 have hs:=h.sublist (yb6 (loN row x) row);rw[hr]at hs;have hlt:=(yb8.mp hs).1;unfold outR;rw[yaj,hr1];constructor
 ·rintro (z | z)
  ·exact ⟨ybA z,fun e=>absurd (h1 y z) (by omega)⟩
  ·refine ⟨ybB (by rw[hr];exact yax _ z),fun e=>?_⟩;have:=hlt y z;omega
 ·rintro ⟨z,n⟩;rw[← yaO (loN row x) row,hr]at z;rcases yaj.mp z with z | z
  ·exact .inl z
  ·rcases yam.mp z with z | z
   ·exact absurd z n
   ·exact .inr z
section
variable {rows:List (List Int)}{kn:Nat}{x:Int}{r:List Int}
theorem zcF (h:kn < rows.length):zak (rows.set kn r) kn=r:=by
 unfold zak;rw[yae,ybu,if_pos rfl,if_pos h];rfl
theorem zeM:ze1 kn rows (rows.set kn r):=fun j n=>by
 unfold zak;rw[yae,ybu,if_neg (fun z=>n z.symm),yae]
theorem zcw {rows:List (List Int)}{k:Nat}{e:En}:e∈ownE rows k↔e.1∈zak rows k∧e.2=(k:Int):=by
 unfold ownE;rw[yaG];constructor
 ·rintro ⟨y,hy,rfl⟩;exact ⟨hy,rfl⟩
 ·rintro ⟨h1,h2⟩;exact ⟨e.1,h1,by rw[← h2]⟩
theorem zm6 (h:kn < rows.length):zaL (ownE rows kn) (ownE (rows.set kn (putR (zak rows kn) x)) kn)=[]:=by
 refine ybI.mpr fun e he z=>?_;have z:=yaQ z;obtain ⟨h1,h2⟩:=zcw.mp he;exact z (zcw.mpr ⟨by rw[zcF h];exact zio.mpr (.inl h1),h2⟩)
theorem znh (h:kn < rows.length):zaL (ownE (rows.set kn (outR (zak rows kn) x)) kn) (ownE rows kn)=[]:=by
 refine ybI.mpr fun e he z=>?_;have z:=yaQ z;obtain ⟨h1,h2⟩:=zcw.mp he;rw[zcF h]at h1;exact z (zcw.mpr ⟨(zeC _ _).mem h1,h2⟩)
theorem zjA {l:List En}{e:En}(h:Rise l)(m:∀ f,f∈l↔f=e):l=[e]:=zfv h (ycq _ _) fun f=>by rw[m f,yag]
theorem zm7 (h:kn < rows.length)(hup:(zak rows kn).Pairwise (· < ·))(hr:Rise (ownE (rows.set kn (putR (zak rows kn) x)) kn))(n:x∉zak rows kn):zaL (ownE (rows.set kn (putR (zak rows kn) x)) kn) (ownE rows kn)=[(x,(kn:Int))]:=by
 refine zjA (hr.filter _) fun e=>?_;rw[zbb,zcw,zcw,zcF h,zio];constructor
 ·rintro ⟨⟨h1 | h1,h2⟩,h3⟩
  ·exact absurd ⟨h1,h2⟩ h3
  ·exact Prod.ext h1 h2
 ·rintro rfl;exact ⟨⟨.inr rfl,rfl⟩,fun z=>n z.1⟩
theorem zng (h:kn < rows.length)(hup:(zak rows kn).Pairwise (· < ·))(hr:Rise (ownE rows kn))(hx:x∈zak rows kn):zaL (ownE rows kn) (ownE (rows.set kn (outR (zak rows kn) x)) kn)=[(x,(kn:Int))]:=by
 refine zjA (hr.filter _) fun e=>?_;rw[zbb,zcw,zcw,zcF h,zlw hup hx];constructor
 ·rintro ⟨⟨h1,h2⟩,h3⟩;exact Prod.ext (Classical.byContradiction fun z=>h3 ⟨⟨h1,z⟩,h2⟩) h2
 ·rintro rfl;exact ⟨⟨hx,rfl⟩,fun z=>z.1.2 rfl⟩
theorem zjq (R:zaK rows)(hup:r.Pairwise (· < ·))(hk:∀ y∈r,-(10 ^ 60) < y∧y < 10 ^ 60):zaK (rows.set kn r):=by
 refine ⟨fun row hrow=>?_,fun row hrow=>?_⟩
 ·rcases ybK hrow with z | z
  ·exact R.1 row z
  ·rw[z]
   first | exact hup | exact hk
 ·rcases ybK hrow with z | z
  ·exact R.2 row z
  ·rw[z]
   first | exact hup | exact hk
end
theorem zeB {α β:Type}{F G:α→β→Prop}(h:∀ a b,F a b→G a b):∀{l:List α} {m:List β},Paired F l m→Paired G l m
 | _,_,.nil=>.nil
 | _,_,.cons a t=>.cons (h _ _ a) (zeB h t)
theorem zdS {α β:Type}{F:α→β→Prop}:∀{l:List α} {m:List β} {i:Nat} {b:β},Paired F l m→m[i]?=some b→∃ a,l[i]?=some a∧F a b
 | _,_,i,a,.nil,h=>by simp at h
 | a::_,_::_,0,b,.cons h t,e=>by
  have:=yad (show some _=some b from e);subst this;exact ⟨a,rfl,h⟩
 | _::_,_::_,i+1,a,.cons h t,e=>by
  obtain ⟨q,h1,h2⟩:=zdS (i:=i) t (by simpa using e);exact ⟨q,by simpa using h1,h2⟩
theorem zdD {rows:List (List Int)}{row:List Int}(h:row∈rows):row.length≤zbd rows:=by
 unfold zbd
 induction rows with
 | nil=>cases h
 | cons r rows ih=>
  rw[yau,yaH];rcases yam.mp h with e | e
  ·rw[e];omega
  ·have:=ih e;omega
def zkC (H:Hp)(q:Addr)(n:Nat):Prop:=∃ xs,(H q=some (.lst xs)∨H q=some (.tup xs))∧xs.length=n
theorem zjb (l:List Nat):(l.map fun n:Nat=>(n:Int)).sum=((l.sum:Nat):Int):=by
 induction l with
 | nil=>rfl
 | cons a l ih=>
  rw[yau,yaH,ih,yaH,Int.natCast_add]
def zjh (K:Frag):Sp:=fun vs H Q _=>∃(a:Addr) (qs:List Addr) (ls:List Nat),vs=[.ref a]∧(H a=some (.lst (qs.map V.ref))∨H a=some (.tup (qs.map V.ref)))∧Paired (zkC H) qs ls∧ls.length≤900∧∀ H',Same H H'→Q (.int ((ls.sum:Nat):Int)) H'
theorem zpo (T:Txt K mg)(D_long_together:DF K mg "long_together" zbw zaP):FC P w K mg base 1 "long_together" zaP (zjh K):=by
 refine D_long_together.ok sc_long_together (fun vs H Q E h=>?_) (fun f cdv A outer s H vs Q E hr h=>?_)
 ·obtain ⟨a,qs,ls,rfl,_⟩:=h;rfl
 obtain ⟨a,qs,ls,rfl,ha,hP,hz,q⟩:=h;have hl:=Paired.length hP;refine ⟨_,(zae (zas (zam (zh1 rfl) rfl T.m_sum boot_sum (zaa (zbZ (N:=["each"]) (own:=1) (cap:=[]) rfl (zlo (pv 0)) ⟨rfl,rfl,rfl,rfl,rfl,rfl⟩ (fun _ _ _ _ _=>(zaz (i:=0) (show List.Nodup (["each"]:List Str) by decide +kernel) rfl (Or.inl rfl))) (fun _ _ _ _ _=>zcd) (fun _ _ _ _ _=>(zam (zer (K:=K)) rfl T.m_len boot_len (zaa (pv 0) zad)))) zad)))),?_⟩;have step:∀{D:Addr} (hD:H D=none) {i m:Nat} {x:V} {σ:L2.St} {H2:Hp} {fin:Nat→L2.St→Hp→Prop},(qs.map V.ref)[i]?=some x→i+m=(qs.map V.ref).length→(∀ b o,b≠D→H b=some o→H2 b=some o)→H2 D=some (.lst ((ls.take i).map nV))→∃ xs,(SqL K H2 (match x with | .ref q=>q | _=>0) xs∨SqT K H2 (match x with | .ref q=>q | _=>0) xs)∧(∃ q,x=.ref q)∧ls.take (i+1)=ls.take i++[xs.length]∧i < ls.length:=by
  intro D hD i m x σ H2 fin hx hm k2 h2;rw[yap]at hx;obtain ⟨qq,hq,rfl⟩:=ybl.mp hx;obtain ⟨n,hn,hL⟩:∃ n,ls[i]?=some n∧zkC H qq n:=by
   have:∀{qs:List Addr} {ls:List Nat} {i:Nat},Paired (zkC H) qs ls→qs[i]?=some qq→∃ n,ls[i]?=some n∧zkC H qq n:=by
    intro qs ls i r
    induction r generalizing i with
    | nil=>intro h;simp at h
    | cons a _ ih=>
     intro h;cases i with
     | zero=>
      have e:=yad (show some _=some qq from h);subst e;exact ⟨_,rfl,a⟩
     | succ i=>
      obtain ⟨n,h1,h2⟩:=ih (i:=i) (by simpa using h);exact ⟨n,by simpa using h1,h2⟩
   exact this hP hq
  have hi:=(yak.mp hn).1;obtain ⟨xs,hxs,hxl⟩:=hL;refine ⟨xs,?_,⟨qq,rfl⟩,?_,hi⟩
  ·rcases hxs with hxs | hxs
   ·exact .inl (SqL.of (k2 _ _ (zac hxs hD) hxs))
   ·exact .inr (SqT.of (k2 _ _ (zac hxs hD) hxs))
  ·rw[yaM hi,(yak.mp hn).2,hxl]
 have end_:∀{D:Addr} {H2:Hp},H D=none→H2 D=some (.lst (ls.map nV))→But D H H2→(fun xs H Q=>∃(p:Addr) (ns:List Int),xs=[V.ref p]∧SqL K H p (ns.map V.int)∧Q (.int ns.sum) H) [V.ref D] H2 Q:=fun {D H2} hD h2 k2=>by
  refine ⟨D,ls.map fun n:Nat=>(n:Int),rfl,?_,?_⟩
  ·rw[ybE];exact SqL.of h2
  ·rw[zjb];exact q H2 (fun b o e=>k2 b o (zac e hD) e)
 rcases ha with ha | ha
 ·refine ⟨_,rfl,a,rfl,.inl ⟨⟨_,SqL.of ha⟩,fun D hD=>?_⟩⟩;refine zbF (xs:=qs.map V.ref) (fun i σ H2=>∃ x0:Option V,σ=[x0]∧H2 D=some (.lst ((ls.take i).map nV))∧But D H H2) ?_ ?_ ?_ ?_
  ·exact ⟨_,rfl,zab,fun b o n e=>by rw[zag n];exact e⟩
  ·rintro i σ H2 _ ⟨x0,rfl,_,k2⟩;exact k2.sq (SqL.of ha) hD
  ·rintro i m x σ H2 hx hm ⟨x0,rfl,h2,k2⟩;obtain ⟨xs,hS,⟨qq,rfl⟩,htk,hi⟩:=step hD (σ:=[x0]) (fin:=fun _ _ _=>True) hx hm k2 h2;rw[yab]at hm;refine zcJ ?_;refine ⟨_,rfl,qq,xs,rfl,hS,_,h2,zaq (by rw[yab,yan];omega),m - 1,by omega,by rw[yab];omega,_,rfl,?_,fun b o n e=>by rw[zag n];exact k2 b o n e⟩;rw[zab,htk,yat];rfl
  ·rintro σ H2 ⟨x0,rfl,h2,k2⟩;rw[yab,yas (by omega)]at h2;exact end_ hD h2 k2
 ·refine ⟨_,rfl,a,rfl,.inr ⟨⟨_,SqT.of ha⟩,fun D hD=>?_⟩⟩;refine zdG (xs:=qs.map V.ref) (fun i σ H2=>∃ x0:Option V,σ=[x0]∧H2 D=some (.lst ((ls.take i).map nV))∧But D H H2) ?_ ?_ ?_ ?_
  ·exact ⟨_,rfl,zab,fun b o n e=>by rw[zag n];exact e⟩
  ·rintro i σ H2 _ ⟨x0,rfl,_,k2⟩;exact SqT.of (k2 _ _ (zac ha hD) ha)
  ·rintro i m x σ H2 hx hm ⟨x0,rfl,h2,k2⟩;obtain ⟨xs,hS,⟨qq,rfl⟩,htk,hi⟩:=step hD (σ:=[x0]) (fin:=fun _ _ _=>True) hx hm k2 h2;rw[yab]at hm;refine zcJ ?_;refine ⟨_,rfl,qq,xs,rfl,hS,_,h2,zaq (by rw[yab,yan];omega),m - 1,by omega,by rw[yab];omega,_,rfl,?_,fun b o n e=>by rw[zag n];exact k2 b o n e⟩;rw[zab,htk,yat];rfl
  ·rintro σ H2 ⟨x0,rfl,h2,k2⟩;rw[yab,yas (by omega)]at h2;exact end_ hD h2 k2
theorem zn9 {ps:List Nat}:atI (zbI ps) 0=some .non:=by
 have h:=zf0 (ps:=ps) (k:=0) (by omega);rw[zfy rfl]at h;exact h
def zjf (K:Frag):Sp:=fun vs H Q _=>∃(t:Addr) (ps:List Nat),vs=[.ref t]∧H t=some (.tup (zbI ps))∧zaA ps∧ps.length≤39∧∀ H',Same H H'→Q (.ref t) H'
theorem zlB (T:Txt K mg)(D_tree_of:DF K mg "tree_of" zd5 zdr)(F_is_one_of_first:FC P w K mg base 2 "is_one_of_first" zaB (zin K)):FC P w K mg base 3 "tree_of" zdr (zjf K):=by
 refine D_tree_of.ok sc_tree_of (fun vs H Q E h=>?_) (fun f cdv A outer s H vs Q E hr h=>?_)
 ·obtain ⟨t,ps,rfl,_⟩:=h;rfl
 obtain ⟨t,ps,rfl,ht,hT,hz,q⟩:=h;refine ⟨_,(zay (zaY (zc6 (zcu (zam zeL rfl T.m_isinstance boot_isinstance (zaa (pv 0) (zaa (zbz (zaa (zcW (v:=.ty "list") rfl T.m_list boot_list rfl) (zaa (zcW (v:=.ty "tuple") rfl T.m_tuple boot_tuple rfl) zad))) zad))))) (zae za5) zaw)
   (zay (zaY (zc6 (zm8 zni zni zai (zam zao rfl T.m_len boot_len (zaa (pv 0) zad)) (zdx rfl T.g_MOST_KNOTS))) (zae za5) zaw)
   (zay (zaY (zat zlx (zaR zbf (pv 0) zai (fun _ _=>rfl)) zgn (zaH _)) (zae za5) zaw)
   (zaj (zcf PassesOwn.never rfl (zeh rfl T.m_range (zaa zai (zaa (zam zao rfl T.m_len boot_len (zaa (pv 0) zad)) zad))) (zaz (i:=1) sc_tree_of.nd rfl (Or.inl rfl)) (zae (zaY (zc6 (zcu (zax F_is_one_of_first hr (zaa (pv 1) (zaa (zaR zbf (pv 0) (pv 1) (fun _ _=>rfl)) zad))))) (zae za5) zaw)))
   (zae (zas (za7 zaV rfl T.m_tuple boot_tuple (zaa (pv 0) zad)))))))),?_⟩
 refine ⟨fun σ' H'=>σ'=[some (.ref t),none]∧Same H H',?_,?_⟩
 ·refine ⟨_,rfl,(by show 2≤sizeLine;decide),fun p hp=>?_⟩;have sp:=zaf hp (.tup [.ty "list",.ty "tuple"]);refine ⟨t,p,rfl,zab,.inr ⟨_,sp _ _ ht⟩,_,rfl,?_⟩;refine iteF ?_;exact ⟨rfl,sp⟩
 rintro σ' H1 ⟨rfl,s1⟩;have h1:=s1 _ _ ht;refine ⟨fun σ' H'=>σ'=[some (.ref t),none]∧H1=H',?_,?_⟩
 ·refine ⟨_,rfl,_,_,rfl,.inr (SqT.of h1),_,_,rfl,rfl,_,rfl,?_⟩;refine zpB (by rw[zau];omega) ?_;refine ⟨_,_,rfl,rfl,_,rfl,?_⟩;rw[yal (by rw[zau];omega)];refine iteF ?_;exact ⟨rfl,rfl⟩
 rintro σ' H' ⟨rfl,rfl⟩;refine ⟨fun σ' H'=>σ'=[some (.ref t),none]∧H1=H',?_,?_⟩
 ·refine ⟨_,rfl,_,_,_,_,rfl,rfl,SqT.of h1,zn9,rfl,_,rfl,?_⟩;refine iteF ?_;exact ⟨rfl,rfl⟩
 rintro σ' H' ⟨rfl,rfl⟩;refine ⟨_,rfl,_,_,rfl,.inr (SqT.of h1),1,_,rfl,⟨by omega,by omega,by rw[zau];omega,by rw[zau];omega⟩,?_⟩;have en:((((zbI ps).length:Nat):Int) - 1).toNat=ps.length:=by rw[zau];omega
 rw[en];refine zbW (n:=ps.length) (fun i σ H2=>∃ x1:Option V,σ=[some (.ref t),x1]∧H2=H1) ?_ ?_ ?_
 ·exact ⟨_,rfl,rfl⟩
 ·rintro i σ H2 hi ⟨x1,rfl,rfl⟩;have ek:(1:Int)+(i:Int)=((i+1:Nat):Int):=by omega
  rw[ek];obtain ⟨u,hu⟩:=zg0 (ps:=ps) (k:=i+1) (by omega) (by omega);have hlt:=(zaM hT hu).1;have hat:=zf0 (ps:=ps) (k:=i+1) (by omega);rw[zei hu]at hat;refine ⟨_,rfl,_,rfl,_,rfl,_,_,_,_,rfl,rfl,SqT.of h1,hat,_,_,rfl,by omega,by omega,_,rfl,?_⟩;refine iteF ?_;exact ⟨_,rfl,rfl⟩
 ·rintro σ H2 ⟨x1,rfl,rfl⟩;refine ⟨_,rfl,t,_,rfl,.inr ⟨SqT.of h1,?_⟩⟩;exact q H2 s1
def SeqAt (H:Hp)(a:Addr)(xs:List V):Prop:=H a=some (.lst xs)∨H a=some (.tup xs)
theorem SeqAt.same {H H':Hp}(e:Same H H'){a:Addr}{xs:List V}(h:SeqAt H a xs):SeqAt H' a xs:=h.elim (fun h=>.inl (e _ _ h)) (fun h=>.inr (e _ _ h))
theorem SeqAt.but {H H':Hp}{D:Addr}(k:But D H H')(hD:H D=none){a:Addr}{xs:List V}(h:SeqAt H a xs):SeqAt H' a xs:=h.elim (fun h=>.inl (k _ _ (zac h hD) h)) (fun h=>.inr (k _ _ (zac h hD) h))
def zmO (H:Hp)(a:Addr)(row:List Int):Prop:=∃ r:List Int,SeqAt H a (r.map V.int)∧r.Perm row
theorem zlc {r row:List Int}(hp:r.Perm row)(hup:row.Pairwise (· < ·)):zc3 r=row:=
 (zdj (as:=r) (bs:=row) hp.symm (List.Pairwise.imp (fun {a b} (h:a < b)=>yai (by omega)) hup)).symm
def zjg (K:Frag):Sp:=fun vs H Q _=>∃(a:Addr) (r row:List Int),vs=[.ref a]∧SeqAt H a (r.map V.int)∧r.Perm row∧row.Pairwise (· < ·)∧(∀ x∈row,-(10 ^ 60) < x∧x < 10 ^ 60)∧row.length≤900∧
 ∀(b:Addr) (H':Hp),H b=none→Same H H'→H' b=some (.tup (row.map V.int))→Q (.ref b) H'
theorem zlC (T:Txt K mg)(D_row_of:DF K mg "row_of" ze8 zed)(F_is_key:FC P w K mg base 2 "is_key" zcG (zgK K)):FC P w K mg base 3 "row_of" zed (zjg K):=by
 refine D_row_of.ok sc_row_of (fun vs H Q E h=>?_) (fun f cdv A outer s H vs Q E hr h=>?_)
 ·obtain ⟨a,r,row,rfl,_⟩:=h;rfl
 obtain ⟨a,r,row,rfl,ha,hpm,hup,hky,hz,q⟩:=h;refine ⟨_,(zay (zaY (zc6 (zcu (zam zeL rfl T.m_isinstance boot_isinstance (zaa (pv 0) (zaa (zbz (zaa (zcW (v:=.ty "list") rfl T.m_list boot_list rfl) (zaa (zcW (v:=.ty "tuple") rfl T.m_tuple boot_tuple rfl) zad))) zad))))) (zae za5) zaw)
   (zaj (zcf PassesOwn.never rfl (zlo (pv 0)) (zaz (i:=1) sc_row_of.nd rfl (Or.inl rfl)) (zae (zaY (zc6 (zcu (zax F_is_key hr (zaa (pv 1) zad)))) (zae za5) zaw)))
   (zay (zaY (zat zga (zam zkz rfl T.m_len boot_len (zaa (za7 (zmD rfl) rfl T.m_set boot_set (zaa (pv 0) zad)) zad)) (zam zao rfl T.m_len boot_len (zaa (pv 0) zad)) (zaH _)) (zae za5) zaw)
   (zae (zas (za7 zaV rfl T.m_tuple boot_tuple (zaa (zam (zky Int) rfl T.m_sorted boot_sorted (zaa (pv 0) zad)) zad))))))),?_⟩
 have hrn:row.Nodup:=List.Pairwise.imp (fun {a b} (q:a < b)=>by omega) hup;have hnd:r.Nodup:=hpm.nodup_iff.mpr hrn;have hrl:r.length=row.length:=hpm.length_eq;have hsort:=zlc hpm hup;rcases ha with ha | ha
 ·
  refine ⟨fun σ' H'=>σ'=[some (.ref a),none]∧Same H H',?_,?_⟩
  ·refine ⟨_,rfl,(by show 2≤sizeLine;decide),fun p hp=>?_⟩;have sp:=zaf hp (.tup [.ty "list",.ty "tuple"]);refine ⟨a,p,rfl,zab,.inl ⟨_,sp _ _ ha⟩,_,rfl,?_⟩;refine iteF ?_;exact ⟨rfl,sp⟩
  rintro σ' H1 ⟨rfl,s1⟩;have h1:=s1 _ _ ha;refine ⟨_,rfl,a,rfl,.inl ⟨⟨_,SqL.of h1⟩,?_⟩⟩;refine zhj (xs:=r.map V.int) (fun i σ H2=>∃ x1:Option V,σ=[some (.ref a),x1]∧H2=H1) ?_ ?_ ?_ ?_
  ·exact ⟨_,rfl,rfl⟩
  ·rintro i σ H2 _ ⟨x1,rfl,rfl⟩;exact SqL.of h1
  ·rintro i x σ H2 hx ⟨x1,rfl,rfl⟩;rw[yap]at hx;obtain ⟨y,hy,rfl⟩:=ybl.mp hx;have hb:=hky y (hpm.mem_iff.mp (yaD hy));refine ⟨_,rfl,_,true,rfl,.int y true ?_,_,rfl,?_⟩
   ·rw[yal (by split <;> omega)]
   refine iteF ?_;exact ⟨_,rfl,rfl⟩
  ·rintro σ H2 ⟨x1,rfl,rfl⟩;refine ⟨fun σ' H'=>σ'=[some (.ref a),x1]∧Same H2 H',?_,?_⟩
   ·refine ⟨_,rfl,.inl ⟨a,r,rfl,SqL.of h1,by omega,fun l hl=>?_⟩⟩;have sl:=zaf hl (.set (fun k=>(metI r).any (· == k)) (metI r).length);refine ⟨l,_,_,rfl,zab,by rw[zdA hnd];omega,_,rfl,_,_,rfl,.inl (SqL.of (sl _ _ h1)),_,_,rfl,rfl,_,rfl,?_⟩;refine zl8 (by rw[zdA hnd,yab];omega) ?_;exact ⟨rfl,sl⟩
   rintro σ' H3 ⟨rfl,s3⟩;have h3:=s3 _ _ h1;refine ⟨_,rfl,.inl ⟨a,_,r,rfl,SqL.of h3,zal.ints,fun l ws hl hw=>?_⟩⟩;rw[hw.toInts,hsort];have sl:=zaf hl (.lst (row.map V.int));refine ⟨l,_,rfl,.inl ⟨SqL.of zab,fun b hb=>?_⟩⟩;have sb:=zaf hb (.tup (row.map V.int));have s03:Same H H3:=s1.trans s3;exact q b _ (s03.free (sl.free hb)) (s03.trans (sl.trans sb)) zab
 ·
  refine ⟨fun σ' H'=>σ'=[some (.ref a),none]∧Same H H',?_,?_⟩
  ·refine ⟨_,rfl,(by show 2≤sizeLine;decide),fun p hp=>?_⟩;have sp:=zaf hp (.tup [.ty "list",.ty "tuple"]);refine ⟨a,p,rfl,zab,.inr ⟨_,sp _ _ ha⟩,_,rfl,?_⟩;refine iteF ?_;exact ⟨rfl,sp⟩
  rintro σ' H1 ⟨rfl,s1⟩;have h1:=s1 _ _ ha;refine ⟨_,rfl,a,rfl,.inr ⟨⟨_,SqT.of h1⟩,?_⟩⟩;refine ziM (xs:=r.map V.int) (fun i σ H2=>∃ x1:Option V,σ=[some (.ref a),x1]∧H2=H1) ?_ ?_ ?_ ?_
  ·exact ⟨_,rfl,rfl⟩
  ·rintro i σ H2 _ ⟨x1,rfl,rfl⟩;exact SqT.of h1
  ·rintro i x σ H2 hx ⟨x1,rfl,rfl⟩;rw[yap]at hx;obtain ⟨y,hy,rfl⟩:=ybl.mp hx;have hb:=hky y (hpm.mem_iff.mp (yaD hy));refine ⟨_,rfl,_,true,rfl,.int y true ?_,_,rfl,?_⟩
   ·rw[yal (by split <;> omega)]
   refine iteF ?_;exact ⟨_,rfl,rfl⟩
  ·rintro σ H2 ⟨x1,rfl,rfl⟩;refine ⟨fun σ' H'=>σ'=[some (.ref a),x1]∧Same H2 H',?_,?_⟩
   ·refine ⟨_,rfl,.inr ⟨a,r,rfl,SqT.of h1,by omega,fun l hl=>?_⟩⟩;have sl:=zaf hl (.set (fun k=>(metI r).any (· == k)) (metI r).length);refine ⟨l,_,_,rfl,zab,by rw[zdA hnd];omega,_,rfl,_,_,rfl,.inr (SqT.of (sl _ _ h1)),_,_,rfl,rfl,_,rfl,?_⟩;refine zl8 (by rw[zdA hnd,yab];omega) ?_;exact ⟨rfl,sl⟩
   rintro σ' H3 ⟨rfl,s3⟩;have h3:=s3 _ _ h1;refine ⟨_,rfl,.inr ⟨a,_,r,rfl,SqT.of h3,zal.ints,fun l ws hl hw=>?_⟩⟩;rw[hw.toInts,hsort];have sl:=zaf hl (.lst (row.map V.int));refine ⟨l,_,rfl,.inl ⟨SqL.of zab,fun b hb=>?_⟩⟩;have sb:=zaf hb (.tup (row.map V.int));have s03:Same H H3:=s1.trans s3;exact q b _ (s03.free (sl.free hb)) (s03.trans (sl.trans sb)) zab
theorem zaI.lens {H:Hp}:∀{as:List Addr} {rows:List (List Int)},zaI H as rows→Paired (zkC H) as (rows.map List.length)
 | _,_,.nil=>.nil
 | _,_,.cons h t=>.cons ⟨_,.inr h,by rw[yab]⟩ (zaI.lens t)
def zgh (K:Frag):Sp:=fun vs H Q _=>∃(t r:Addr) (ps:List Nat) (rows:List (List Int)) (as:List Addr),vs=[.ref t,.ref r]∧H t=some (.tup (zbI ps))∧SeqAt H r (as.map V.ref)∧Paired (zmO H) as rows∧rows.length=ps.length+1∧zaA ps∧zaK rows∧ps.length≤40∧zbd rows≤300∧
 ∀(st rs:Addr) (bs:List Addr) (H':Hp),H st=none→Same H H'→zbs H' st ps rows t rs bs→Q (.ref st) H'
theorem ziv (T:Txt K mg)(D_stand_of:DF K mg "stand_of" zdl zcS)(F_row_of:FC P w K mg base 3 "row_of" zed (zjg K))(F_long_together:FC P w K mg base 1 "long_together" zaP (zjh K)):FC P w K mg base 4 "stand_of" zcS (zgh K):=by
 refine D_stand_of.ok sc_stand_of (fun vs H Q E h=>?_) (fun f cdv A outer s H vs Q E hr h=>?_)
 ·obtain ⟨t,r,ps,rows,as,rfl,_⟩:=h;rfl
 obtain ⟨t,r,ps,rows,as,rfl,ht,hr0,hA,hlen,hT,hR,hfew,hkeys,q⟩:=h;have hal:as.length=rows.length:=Paired.length hA;refine ⟨_,(zay (zaY (zc6 (zcu (zam zeL rfl T.m_isinstance boot_isinstance (zaa (pv 1) (zaa (zbz (zaa (zcW (v:=.ty "list") rfl T.m_list boot_list rfl) (zaa (zcW (v:=.ty "tuple") rfl T.m_tuple boot_tuple rfl) zad))) zad))))) (zae za5) zaw)
   (zay (zaY (zat zka (zam zao rfl T.m_len boot_len (zaa (pv 1) zad)) (zam zao rfl T.m_len boot_len (zaa (pv 0) zad)) (zaH _)) (zae za5) zaw)
   (zaj (zar (i:=2) sc_stand_of.nd rfl (Or.inl rfl) (za7 zaV rfl T.m_tuple boot_tuple (zaa (zbZ (N:=["row"]) (own:=1) (cap:=[]) rfl (zlo (pv 1)) ⟨rfl,rfl,rfl,rfl,rfl,rfl⟩ (fun _ _ _ _ _=>(zaz (i:=0) (show List.Nodup (["row"]:List Str) by decide +kernel) rfl (Or.inl rfl))) (fun _ _ _ _ _=>zcd) (fun _ _ _ _ _=>(zax F_row_of hr (zaa (pv 0) zad)))) zad)))
   (zay (zaY (zat zph (zax F_long_together hr (zaa (pv 2) zad)) (zdx rfl T.g_MOST_KEYS) (zaH _)) (zae za5) zaw)
   (zae (zas (zbz (zaa (pv 0) (zaa (pv 2) zad))))))))),?_⟩
 rcases hr0 with hr0 | hr0
 ·
  refine ⟨fun σ' H'=>σ'=[some (.ref t),some (.ref r),none]∧Same H H',?_,?_⟩
  ·refine ⟨_,rfl,(by show 2≤sizeLine;decide),fun p hp=>?_⟩;have sp:=zaf hp (.tup [.ty "list",.ty "tuple"]);refine ⟨r,p,rfl,zab,.inl ⟨_,sp _ _ hr0⟩,_,rfl,?_⟩;refine iteF ?_;exact ⟨rfl,sp⟩
  rintro σ' H1 ⟨rfl,s1⟩;have h1t:=s1 _ _ ht;have h1r:=s1 _ _ hr0;have A1:Paired (zmO H1) as rows:=zeB (fun _ _ ⟨x,h,p⟩=>⟨x,h.same s1,p⟩) hA;refine ⟨fun σ' H'=>σ'=[some (.ref t),some (.ref r),none]∧H1=H',?_,?_⟩
  ·refine ⟨_,rfl,_,_,rfl,.inl (SqL.of h1r),_,rfl,_,_,rfl,.inr (SqT.of h1t),rfl,_,rfl,?_⟩;refine zfJ (by rw[yab,zau,hal,hlen]) ?_;exact ⟨rfl,rfl⟩
  rintro σ' H' ⟨rfl,rfl⟩;refine ⟨_,rfl,r,rfl,.inl ⟨⟨_,SqL.of h1r⟩,fun D hD=>?_⟩⟩;refine zbF (xs:=as.map V.ref) (fun i σ H2=>∃(bs:List Addr) (x0:Option V),σ=[x0]∧H2 D=some (.lst (bs.map V.ref))∧zaI H2 bs (rows.take i)∧But D H1 H2) ?_ ?_ ?_ ?_
  ·exact ⟨[],_,rfl,zab,.nil,fun b o n e=>by rw[zag n];exact e⟩
  ·rintro i σ H2 _ ⟨bs,x0,rfl,_,_,k2⟩;exact SqL.of (k2 _ _ (zac h1r hD) h1r)
  ·rintro i m x σ H2 hx hm ⟨bs,x0,rfl,h2,hB,k2⟩;have hbl:=hB.length;rw[yan]at hbl;rw[yab]at hm;have hi:i < rows.length:=by
    have:=(yak.mp hx).1;rw[yab]at this;omega
   obtain ⟨b,hb1,x2,hb2,hxp⟩:∃ b,as[i]?=some b∧zmO H1 b (zak rows i):=by
    have hri:rows[i]?=some (zak rows i):=by
     unfold zak;rw[yae,yac hi];rfl
    exact zdS A1 hri
   rw[yap,hb1]at hx;have:=yad hx;subst this;have hmem:zak rows i∈rows:=by
    unfold zak;rw[yae,yac hi];exact ya0 hi
   have hrl:=zdD hmem;have htk:rows.take (i+1)=rows.take i++[zak rows i]:=by
    rw[yaM hi];unfold zak;rw[yae,yac hi];rfl
   have h2b:=hb2.but k2 hD;refine zcJ ?_;refine ⟨_,rfl,b,x2,zak rows i,rfl,h2b,hxp,hR.at_up i,hR.at_key i,by omega,fun c H3 hc s3 h3=>?_⟩;have h3D:=s3 _ _ h2;have ncD:∀{x:Addr} {o:List V},H3 x=some (.tup o)→x≠D:=fun {x o} e z=>by
    rw[z,h3D]at e;cases e
   have kD:∀ b o,b≠D→H3 b=some o→upd H3 D (.lst (bs.map V.ref++[.ref c])) b=some o:=fun b o n e=>by rw[zag n];exact e
   refine ⟨_,h3D,zaq (by rw[yab];omega),m - 1,by omega,by rw[yab];omega,bs++[c],_,rfl,?_,?_,fun b o n e=>kD _ _ n (s3 _ _ (k2 b o n e))⟩
   ·rw[zab,yat];rfl
   ·rw[htk];exact zaI.snoc (zaI.keep (p:=D) (d:=D) (fun a row e=>ncD e) kD (hB.ext s3)) (kD _ _ (ncD h3) h3)
  rintro σ H2 ⟨bs,x0,rfl,h2,hB,k2⟩;rw[yab,yas (by omega)]at hB;have s2:Same H1 H2:=fun b o e=>k2 b o (zac e hD) e;refine ⟨D,_,rfl,.inl ⟨SqL.of h2,fun rs hrs=>?_⟩⟩;have s3:=zaf hrs (.tup (bs.map V.ref));have h3:upd H2 rs (.tup (bs.map V.ref)) rs=some (.tup (bs.map V.ref)):=zab;have s13:=s2.trans s3;have B3:=hB.ext s3;generalize upd H2 rs (.tup (bs.map V.ref))=H3 at s3 h3 s13 B3 ⊢;refine ⟨fun σ' H'=>σ'=[some (.ref t),some (.ref r),some (.ref rs)]∧Same H3 H',?_,?_⟩
  ·refine ⟨_,rfl,rs,bs,rows.map List.length,rfl,.inr h3,B3.lens,by rw[yab];omega,fun H4 s4=>?_⟩;have hk:(rows.map List.length).sum=zbd rows:=rfl;rw[hk];refine ⟨_,_,rfl,rfl,_,rfl,?_⟩;refine zl8 (by omega) ?_;exact ⟨rfl,s4⟩
  rintro σ' H4 ⟨rfl,s4⟩;have s04:=s1.trans (s13.trans s4);refine ⟨_,rfl,_,rfl,(by show 2≤sizeLine;decide),fun st hst=>?_⟩;have ss:=zaf hst (.tup [.ref t,.ref rs]);exact q st rs bs _ (s04.free hst) (s04.trans ss) ⟨zab,ss _ _ (s04 _ _ ht),ss _ _ (s4 _ _ h3),(B3.ext s4).ext ss,hlen,hT,hR,hfew,by omega⟩
 ·
  refine ⟨fun σ' H'=>σ'=[some (.ref t),some (.ref r),none]∧Same H H',?_,?_⟩
  ·refine ⟨_,rfl,(by show 2≤sizeLine;decide),fun p hp=>?_⟩;have sp:=zaf hp (.tup [.ty "list",.ty "tuple"]);refine ⟨r,p,rfl,zab,.inr ⟨_,sp _ _ hr0⟩,_,rfl,?_⟩;refine iteF ?_;exact ⟨rfl,sp⟩
  rintro σ' H1 ⟨rfl,s1⟩;have h1t:=s1 _ _ ht;have h1r:=s1 _ _ hr0;have A1:Paired (zmO H1) as rows:=zeB (fun _ _ ⟨x,h,p⟩=>⟨x,h.same s1,p⟩) hA;refine ⟨fun σ' H'=>σ'=[some (.ref t),some (.ref r),none]∧H1=H',?_,?_⟩
  ·refine ⟨_,rfl,_,_,rfl,.inr (SqT.of h1r),_,rfl,_,_,rfl,.inr (SqT.of h1t),rfl,_,rfl,?_⟩;refine zfJ (by rw[yab,zau,hal,hlen]) ?_;exact ⟨rfl,rfl⟩
  rintro σ' H' ⟨rfl,rfl⟩;refine ⟨_,rfl,r,rfl,.inr ⟨⟨_,SqT.of h1r⟩,fun D hD=>?_⟩⟩;refine zdG (xs:=as.map V.ref) (fun i σ H2=>∃(bs:List Addr) (x0:Option V),σ=[x0]∧H2 D=some (.lst (bs.map V.ref))∧zaI H2 bs (rows.take i)∧But D H1 H2) ?_ ?_ ?_ ?_
  ·exact ⟨[],_,rfl,zab,.nil,fun b o n e=>by rw[zag n];exact e⟩
  ·rintro i σ H2 _ ⟨bs,x0,rfl,_,_,k2⟩;exact SqT.of (k2 _ _ (zac h1r hD) h1r)
  ·rintro i m x σ H2 hx hm ⟨bs,x0,rfl,h2,hB,k2⟩;have hbl:=hB.length;rw[yan]at hbl;rw[yab]at hm;have hi:i < rows.length:=by
    have:=(yak.mp hx).1;rw[yab]at this;omega
   obtain ⟨b,hb1,x2,hb2,hxp⟩:∃ b,as[i]?=some b∧zmO H1 b (zak rows i):=by
    have hri:rows[i]?=some (zak rows i):=by
     unfold zak;rw[yae,yac hi];rfl
    exact zdS A1 hri
   rw[yap,hb1]at hx;have:=yad hx;subst this;have hmem:zak rows i∈rows:=by
    unfold zak;rw[yae,yac hi];exact ya0 hi
   have hrl:=zdD hmem;have htk:rows.take (i+1)=rows.take i++[zak rows i]:=by
    rw[yaM hi];unfold zak;rw[yae,yac hi];rfl
   have h2b:=hb2.but k2 hD;refine zcJ ?_;refine ⟨_,rfl,b,x2,zak rows i,rfl,h2b,hxp,hR.at_up i,hR.at_key i,by omega,fun c H3 hc s3 h3=>?_⟩;have h3D:=s3 _ _ h2;have ncD:∀{x:Addr} {o:List V},H3 x=some (.tup o)→x≠D:=fun {x o} e z=>by
    rw[z,h3D]at e;cases e
   have kD:∀ b o,b≠D→H3 b=some o→upd H3 D (.lst (bs.map V.ref++[.ref c])) b=some o:=fun b o n e=>by rw[zag n];exact e
   refine ⟨_,h3D,zaq (by rw[yab];omega),m - 1,by omega,by rw[yab];omega,bs++[c],_,rfl,?_,?_,fun b o n e=>kD _ _ n (s3 _ _ (k2 b o n e))⟩
   ·rw[zab,yat];rfl
   ·rw[htk];exact zaI.snoc (zaI.keep (p:=D) (d:=D) (fun a row e=>ncD e) kD (hB.ext s3)) (kD _ _ (ncD h3) h3)
  rintro σ H2 ⟨bs,x0,rfl,h2,hB,k2⟩;rw[yab,yas (by omega)]at hB;have s2:Same H1 H2:=fun b o e=>k2 b o (zac e hD) e;refine ⟨D,_,rfl,.inl ⟨SqL.of h2,fun rs hrs=>?_⟩⟩;have s3:=zaf hrs (.tup (bs.map V.ref));have h3:upd H2 rs (.tup (bs.map V.ref)) rs=some (.tup (bs.map V.ref)):=zab;have s13:=s2.trans s3;have B3:=hB.ext s3;generalize upd H2 rs (.tup (bs.map V.ref))=H3 at s3 h3 s13 B3 ⊢;refine ⟨fun σ' H'=>σ'=[some (.ref t),some (.ref r),some (.ref rs)]∧Same H3 H',?_,?_⟩
  ·refine ⟨_,rfl,rs,bs,rows.map List.length,rfl,.inr h3,B3.lens,by rw[yab];omega,fun H4 s4=>?_⟩;have hk:(rows.map List.length).sum=zbd rows:=rfl;rw[hk];refine ⟨_,_,rfl,rfl,_,rfl,?_⟩;refine zl8 (by omega) ?_;exact ⟨rfl,s4⟩
  rintro σ' H4 ⟨rfl,s4⟩;have s04:=s1.trans (s13.trans s4);refine ⟨_,rfl,_,rfl,(by show 2≤sizeLine;decide),fun st hst=>?_⟩;have ss:=zaf hst (.tup [.ref t,.ref rs]);exact q st rs bs _ (s04.free hst) (s04.trans ss) ⟨zab,ss _ _ (s04 _ _ ht),ss _ _ (s4 _ _ h3),(B3.ext s4).ext ss,hlen,hT,hR,hfew,by omega⟩
theorem zmy (xs:List V)(a:Nat):cutV xs none (some (a:Int))=xs.take a:=by
 unfold cutV;rw[zcz,show HT.sIx xs.length 0 none=0 from rfl,ycd,Nat.sub_zero];by_cases h:a≤xs.length
 ·rw[ybs h]
 ·rw[yco (by omega),yas (yaa _),yas (by omega)]
theorem zfT (xs:List V)(a:Nat):cutV xs (some (a:Int)) none=xs.drop a:=by
 unfold cutV;rw[zcz,show HT.sIx xs.length xs.length none=xs.length from rfl];by_cases h:a≤xs.length
 ·rw[ybs h,yas (by rw[yaN];exact yaa _)]
 ·rw[yco (by omega),yaX (yaa _),yaX (show xs.length≤a by omega),List.take_nil]
theorem zlf {zs:List V}{k:Nat}{x:V}(h:k < zs.length):zs.set k x=zs.take k++[x]++zs.drop (k+1):=by
 rw[List.set_eq_take_append_cons_drop,if_pos h,yaL];rfl
def zjd (K:Frag):Sp:=fun vs H Q _=>∃(st t rs:Addr) (zs:List V) (k:Nat) (x:V),vs=[.ref st,.int k,x]∧H st=some (.tup [.ref t,.ref rs])∧H rs=some (.tup zs)∧k < zs.length∧zs.length≤60∧
 ∀(st' rs':Addr) (H':Hp),Same H H'→H' st'=some (.tup [.ref t,.ref rs'])→H' rs'=some (.tup (zs.set k x))→Q (.ref st') H'
theorem zpj (T:Txt K mg)(D_with_row:DF K mg "with_row" zdk zbJ):FC P w K mg base 1 "with_row" zbJ (zjd K):=by
 refine D_with_row.ok sc_with_row (fun vs H Q E h=>?_) (fun f cdv A outer s H vs Q E hr h=>?_)
 ·obtain ⟨st,t,rs,zs,k,x,rfl,_⟩:=h;rfl
 obtain ⟨st,t,rs,zs,k,x,rfl,hst,hrs,hk,hz,q⟩:=h;refine ⟨_,(zaj (zar (i:=3) sc_with_row.nd rfl (Or.inl rfl) (zaR zbf (pv 0) zai (fun _ _=>rfl)))
   (zae (zas (zbz (zaa (zaR zbf (pv 0) zai (fun _ _=>rfl)) (zaa (zav zfz (zav zg5 (zbN zc5 (pv 3) zc8 (zbX (pv 1))) (zbz (zaa (pv 2) zad))) (zbN zc5 (pv 3) (zbX (zav zbC (pv 1) zai)) zc8)) zad)))))),?_⟩
 refine ⟨_,rfl,_,_,_,_,rfl,rfl,SqT.of hst,rfl,?_⟩;refine ⟨_,rfl,_,_,_,_,rfl,rfl,SqT.of hst,rfl,?_⟩;refine ⟨_,rfl,_,rfl,_,rfl,rs,zs,rfl,SqT.of hrs,(fun z=>?_),fun _ p hp=>?_⟩
 ·have:=z.2;rw[zcz]at this;omega
 rw[zmy];have g1:=zaf hp (.tup (zs.take k));have w1:upd H p (.tup (zs.take k)) p=some (.tup (zs.take k)):=zab;generalize upd H p (.tup (zs.take k))=H1 at g1 w1 ⊢;refine ⟨_,rfl,(by show 1≤sizeLine;decide),fun m hm=>?_⟩;have g2:=zaf hm (.tup [x]);have w2:upd H1 m (.tup [x]) m=some (.tup [x]):=zab;have w12:=g2 _ _ w1;generalize upd H1 m (.tup [x])=H2 at g2 w2 w12 ⊢;have hl1:(zs.take k).length=k:=by rw[yan];omega
 have rest:∀(u:Addr) (H3:Hp),Same H2 H3→H3 u=some (.tup (zs.take k++[x]))→∀{Q':VK},(∀(v:Addr) (H':Hp),Same H3 H'→H' v=some (.tup (zs.set k x))→Q' (.ref v) H')→∀(p2:Addr) (H4:Hp),Same H3 H4→H4 p2=some (.tup (zs.drop (k+1)))→zo5 K (.ref u) (.ref p2) H4 Q':=fun u H3 _ hu Q' q' p2 H4 s4 hp2=>by
  refine ⟨u,p2,_,_,rfl,rfl,SqT.of (s4 _ _ hu),SqT.of hp2,by simp,?_,fun z=>?_,fun z v hv=>?_⟩
  ·refine ya1 (zaq ?_);rw[yaq,hl1,yaN,ybc];omega
  ·refine q' u H4 s4 ?_;rw[zlf hk,z,yay];exact s4 _ _ hu
  ·refine q' v _ (s4.trans (zaf hv _)) ?_;rw[zab,zlf hk]
 have fin:∀(u:Addr) (H3:Hp),Same H2 H3→H3 u=some (.tup (zs.take k++[x]))→∀(v:Addr) (H':Hp),Same H3 H'→H' v=some (.tup (zs.set k x))→∀ p,H' p=none→Q (.ref p) (upd H' p (.tup [.ref t,.ref v])):=fun u H3 s3 _ v H' s' hv p hp=>by
  have gp:=zaf hp (.tup [.ref t,.ref v]);exact q p v _ (g1.trans (g2.trans (s3.trans (s'.trans gp)))) zab (gp _ _ hv)
 have e1k:(k:Int)+1=((k+1:Nat):Int):=by omega
 refine ⟨p,m,_,_,rfl,rfl,SqT.of w12,SqT.of w2,by simp,ya1 (zaq (by rw[hl1];show k+1≤1000;omega)),fun z=>?_,fun z u hu=>?_⟩
 ·have e0:zs.take k++[x]=[x]:=by rw[z];rfl
  refine ⟨_,rfl,_,rfl,_,_,rfl,rfl,_,rfl,rs,zs,rfl,SqT.of (g2 _ _ (g1 _ _ hrs)),(fun z=>?_),fun _ p2 hp2=>?_⟩
  ·have:=z.1;rw[e1k,zcz]at this;omega
  rw[e1k,zfT];exact rest m H2 (fun _ _ e=>e) (by rw[e0];exact w2) (fun v H' s' hv=>⟨(by show 2≤sizeLine;decide),fin m H2 (fun _ _ e=>e) (by rw[e0];exact w2) v H' s' hv⟩) p2 _ (zaf hp2 _) zab
 ·have gu:=zaf hu (.tup (zs.take k++[x]));have wu:upd H2 u (.tup (zs.take k++[x])) u=some (.tup (zs.take k++[x])):=zab;generalize upd H2 u (.tup (zs.take k++[x]))=H3 at gu wu ⊢;refine ⟨_,rfl,_,rfl,_,_,rfl,rfl,_,rfl,rs,zs,rfl,SqT.of (gu _ _ (g2 _ _ (g1 _ _ hrs))),(fun z=>?_),fun _ p2 hp2=>?_⟩
  ·have:=z.1;rw[e1k,zcz]at this;omega
  rw[e1k,zfT];exact rest u H3 gu wu (fun v H' s' hv=>⟨(by show 2≤sizeLine;decide),fin u H3 gu wu v H' s' hv⟩) p2 _ (zaf hp2 _) zab
def zql (P:Program)(w:World)(K:Frag)(mg:Str→Option Value)(base:Heap):Sp:=fun vs H Q _=>∃(n:Nat) (f:Addr) (ps:List Str) (sp:Sp) (b:Nat→Bool) (R:Hp→Prop),vs=[.int n,.ref f]∧FV P w K mg base 1 f ps sp∧R H∧
 (∀(i:Nat) (H1:Hp) (Q1:VK),i < n→R H1→(∀ H2,R H2→Q1 (.bl (b i)) H2)→sp [.int i] H1 Q1 E0)∧(∀ i j,i≤j→j < n→b j=true→b i=true)∧
 ∀(m:Nat) (H':Hp),m≤n→(∀ i,i < m→b i=true)→(∀ i,m≤i→i < n→b i=false)→R H'→Q (.int m) H'
def zp3:L2.St→Hp→Nat:=fun σ _=>match σ with
 | [_,_,some (.int lo),some (.int hi),_]=>(hi - lo).toNat
 | _=>0
theorem zqM (T:Txt K mg)(D_how_many_below:DF K mg "how_many_below" zbl zbg):FC P w K mg base 2 "how_many_below" zbg (zql P w K mg base):=by
 refine D_how_many_below.ok sc_how_many_below (fun vs H Q E h=>?_) (fun f cdv A outer s H vs Q E hr h=>?_)
 ·obtain ⟨n,f,ps,sp,b,R,rfl,_⟩:=h;rfl
 obtain ⟨n,f,ps,sp,b,R,rfl,hF,hR,hask,hmono,q⟩:=h;refine ⟨_,(zaj (zar (i:=2) sc_how_many_below.nd rfl (Or.inl rfl) zai)
   (zaj (zar (i:=3) sc_how_many_below.nd rfl (Or.inl rfl) (pv 0))
   (zaj (zju PassesOwn.never (zat zga (pv 2) (pv 3) (zaH _)) (zaj (zar (i:=4) sc_how_many_below.nd rfl (Or.inl rfl) (zav ziu (zav zbC (pv 2) (pv 3)) zai))
   (zae (zaY (zcu (zne (kr:=1) hr (pv 1) (zaa (pv 4) zad))) (zae (zar (i:=2) sc_how_many_below.nd rfl (Or.inl rfl) (zav zbC (pv 4) zai))) (zae (zar (i:=3) sc_how_many_below.nd rfl (Or.inl rfl) (pv 4)))))))
   (zae (zas (pv 2)))))),?_⟩
 refine ⟨_,rfl,?_⟩;refine zhp (fun σ H2=>∃(lo hi:Nat) (x4:Option V),σ=[some (.int n),some (.ref f),some (.int lo),some (.int hi),x4]∧lo≤hi∧hi≤n∧(∀ i,i < lo→b i=true)∧(∀ i,hi≤i→i < n→b i=false)∧R H2) (fun σ H2=>∃(lo:Nat) (x4:Option V),σ=[some (.int n),some (.ref f),some (.int lo),some (.int lo),x4]∧lo≤n∧(∀ i,i < lo→b i=true)∧(∀ i,lo≤i→i < n→b i=false)∧R H2) zp3 ?_ ?_ ?_ ?_
 ·exact ⟨0,n,_,rfl,yaJ _,yaa _,fun i h=>absurd h (ybV _),fun i h1 h2=>absurd h2 (Nat.not_lt.mpr h1),hR⟩
 ·rintro σ H2 ⟨lo,hi,x4,rfl,h1,h2,hb1,hb2,hR2⟩;refine ⟨_,rfl,_,rfl,_,_,rfl,rfl,_,rfl,?_⟩;refine ite2 (fun c=>?_) (fun c=>?_)
  ·have c1:(lo:Int) < (hi:Int):=yaQ c;have em:((lo:Int)+(hi:Int)) / 2=(((lo+hi) / 2:Nat):Int):=by omega
   have m1:lo≤(lo+hi) / 2:=by omega
   have m2:(lo+hi) / 2 < hi:=by omega
   refine ⟨_,rfl,_,rfl,_,_,rfl,rfl,_,_,rfl,rfl,⟨by decide,by decide⟩,?_⟩;refine ⟨_,rfl,f,1,ps,sp,rfl,hF,yaa _,_,rfl,?_⟩;show sp [V.int (((lo:Int)+(hi:Int)) / 2)] H2 _ E0;rw[em];refine hask ((lo+hi) / 2) H2 _ (by omega) hR2 fun H3 hR3=>⟨_,rfl,?_⟩;cases hbm:b ((lo+hi) / 2) with
   | true=>
    refine iteT ?_;refine ⟨_,rfl,_,_,rfl,rfl,⟨(lo+hi) / 2+1,hi,some (V.int (((lo:Int)+(hi:Int)) / 2)),?_,by omega,h2,fun i hi'=>hmono i ((lo+hi) / 2) (by omega) (by omega) hbm,hb2,hR3⟩,?_⟩
    ·show [some (V.int n),some (V.ref f),some (V.int (((lo:Int)+(hi:Int)) / 2+1)),some (V.int hi),some (V.int (((lo:Int)+(hi:Int)) / 2))]=_;rw[em,Int.natCast_add];rfl
    ·show ((hi:Int) - (((lo:Int)+(hi:Int)) / 2+1)).toNat < ((hi:Int) - (lo:Int)).toNat;omega
   | false=>
    refine iteF ?_;refine ⟨_,rfl,⟨lo,(lo+hi) / 2,some (V.int (((lo:Int)+(hi:Int)) / 2)),?_,m1,by omega,hb1,fun i hi' hin=>?_,hR3⟩,?_⟩
    ·show [some (V.int n),some (V.ref f),some (V.int lo),some (V.int (((lo:Int)+(hi:Int)) / 2)),some (V.int (((lo:Int)+(hi:Int)) / 2))]=_;rw[em]
    ·cases hbi:b i with
     | false=>rfl
     | true=>
      have:=hmono ((lo+hi) / 2) i hi' hin hbi;rw[hbm]at this;cases this
    ·show ((((lo:Int)+(hi:Int)) / 2) - (lo:Int)).toNat < ((hi:Int) - (lo:Int)).toNat;omega
  ·have c1:¬ (lo:Int) < (hi:Int):=of_decide_eq_false (ybS.mpr c);have e:hi=lo:=by omega
   subst e;exact ⟨hi,_,rfl,h2,hb1,hb2,hR2⟩
 ·intro σ H Q Q' m h;obtain ⟨y1,e3,y2,e4,i2,j2,f2,g2,b2,e5,q⟩:=h;exact ⟨y1,e3,y2,e4,i2,j2,f2,g2,b2,e5,m _ _ q⟩
 rintro σ H2 ⟨lo,x4,rfl,h2,hb1,hb2,hR2⟩;refine ⟨_,rfl,?_⟩;exact q lo H2 h2 hb1 hb2 hR2
def zes (row:List Int)(key:Int):Nat:=(row.filter fun x=>decide (x < key)).length
theorem zn8 {row:List Int}{key:Int}{m:Nat}(hm:m≤row.length)(h1:∀ i,i < m→decide (row.getD i 0 < key)=true)(h2:∀ i,m≤i→i < row.length→decide (row.getD i 0 < key)=false):zes row key=m:=by
 unfold zes
 conv=>lhs;rw[← yaO m row]
 rw[ybg,yaq];have e1:(row.take m).filter (fun x=>decide (x < key))=row.take m:=by
  rw[List.filter_eq_self];intro x hx;obtain ⟨i,hi,rfl⟩:=yaR hx;rw[yan]at hi;have:=h1 i (by omega);rw[yae,yac (by omega)]at this;rw[List.getElem_take];exact this
 have e2:(row.drop m).filter (fun x=>decide (x < key))=[]:=by
  rw[ybI];intro x hx;obtain ⟨i,hi,rfl⟩:=yaR hx;rw[yaN]at hi;have:=h2 (m+i) (by omega) (by omega);rw[yae,yac (by omega)]at this;rw[List.getElem_drop];intro z;rw[show decide (row[m+i] < key)=false from this]at z;cases z
 rw[e1,e2,yan,ybp];omega
abbrev lamQ:Str:=(envOfC ("place" : Str) (zah zez) 0 0 .none).qual ++ "<lambda>"
abbrev zcy:Pos:=⟨56,36,56,60⟩
def zgI (K:Frag)(mp:Addr):Sp:=fun vs H Q _=>∃(r:Addr) (row:List Int) (key:Int),vs=[.ref r,.int key]∧H r=some (.tup (row.map V.int))∧row.Pairwise (· < ·)∧zbc H mp zcy lamQ∧
 ∀ H':Hp,Gro mp H H'→zbc H' mp zcy lamQ→Q (.int (zes row key:Nat)) H'
theorem znl (T:Txt K mg){mc mp:Addr}(D_place:DFT K mg "place" zez zds mc mp)(hBM:BMAt mg base)(F_how_many_below:∀ base,FC P w K mg base 2 "how_many_below" zbg (zql P w K mg base)):FC P w K mg base 3 "place" zds (zgI K mp):=by
 refine D_place.ok sc_place (fun vs H Q E h=>?_) (fun f A outer s H vs Q E hr h=>?_)
 ·obtain ⟨r,row,key,rfl,_⟩:=h;rfl
 obtain ⟨r,row,key,rfl,h0,hup,hT,q⟩:=h;refine ⟨_,(zae (zas (zj6 (kf:=0) F_how_many_below hr (zam zao rfl T.m_len boot_len (zaa (pv 0) zad)) (zq4 (osc:=zah zez) (N:=["row","key"]) (ps:=["at"]) (caps:=["key","row"]) (cap:=[1,0]) ⟨rfl,rfl,rfl,by decide +kernel,by decide +kernel,by decide +kernel,by decide +kernel⟩ (by decide +kernel) (by decide +kernel) rfl rfl rfl rfl (fun _ _ _ _ us hl=>match us,hl with | [_],_=>rfl) (fun _=>rfl)) rfl D_place.hd hBM (fun _ _ _ _ _ _ _ _ _=>(zis zga (zaR (zl6 (K:=K)) (pv 2) (pv 0) (fun _ _=>rfl)) (pv 1) (zaH _)))))),?_⟩
 refine ⟨_,rfl,_,_,rfl,.inr (SqT.of h0),hT,[.int key,.ref r],rfl,?_,fun base f c' H2 hg hT2 hC hV=>?_⟩
 ·intro j i v h1 h2;rcases j with _ | _ | j
  ·cases h1;cases h2;rfl
  ·cases h1;cases h2;rfl
  ·cases h1
 have nmp:r≠mp:=fun z=>by
  obtain ⟨tab,e,_⟩:=hT.ex;rw[← z,h0]at e;cases e
 have h2r:=hg _ _ nmp h0;rw[yab];refine ⟨row.length,f,_,_,fun i=>decide (row.getD i 0 < key),fun H'=>H'=H2,rfl,hV,rfl,fun i H1 Q1 hi hR hQ=>?_,fun i j hij hj hb=>?_,fun m H' hm hb1 hb2 hR=>?_⟩
 ·subst hR;refine ⟨rfl,hC,?_⟩;have hat:atI (row.map V.int) ((i:Nat):Int)=some (.int (row.getD i 0)):=zf1 (by rw[yap,yac hi,yae,yac hi];rfl);refine ⟨_,rfl,_,rfl,_,_,_,_,rfl,rfl,SqT.of h2r,hat,_,rfl,_,_,rfl,rfl,?_⟩;exact hQ _ rfl
 ·refine yal ?_;have hb:=yaQ hb;by_cases e:i=j
  ·subst e;exact hb
  ·have:=ybd.mp hup i j (by omega) hj (by omega);rw[yae,yac (by omega)]at hb ⊢;exact Int.lt_trans this hb
 ·subst hR;have e:=zn8 hm hb1 hb2;have q2:=q _ hg hT2;rw[e]at q2;exact q2
theorem zdC {r:List Int}:∀{rows:List (List Int)} {kn:Nat},kn < rows.length→zbd (rows.set kn r)+(zak rows kn).length=zbd rows+r.length
 | [],_,h=>absurd h (ybV _)
 | a::rows,0,_=>by
  unfold zbd;rw[List.set_cons_zero,yau,yaH,yau,yaH];show r.length+_+a.length=_;omega
 | a::rows,kn+1,h=>by
  have ih:=zdC (r:=r) (rows:=rows) (kn:=kn) (Nat.lt_of_succ_lt_succ h);unfold zbd at ih ⊢;rw[List.set_cons_succ,yau,yaH,yau,yaH];have e:zak (a::rows) (kn+1)=zak rows kn:=rfl;rw[e];omega
theorem zfL (n:Int)(xs:List Int):inV (.int n) (xs.map V.int)=decide (n∈xs):=by
 unfold inV
 induction xs with
 | nil=>rfl
 | cons x xs ih=>
  rw[yau,ybb,ih];show (x == n || decide (n∈xs))=decide (n∈x::xs);by_cases h:x=n
  ·subst h;simp
  ·have h2:¬ n=x:=fun z=>h z.symm;simp[h,h2]
theorem zfu {H:Hp}:∀{as:List Addr} {rows:List (List Int)},zaI H as rows→Paired (zkC H) as (rows.map List.length)
 | _,_,.nil=>.nil
 | _,_,.cons h t=>.cons ⟨_,.inr h,by rw[yab]⟩ (zfu t)
section
variable {K:Frag}{H:Hp}{a b:Addr}{xs ys:List V}{n:Nat}{Q:VK}
theorem zor (h:H a=some (.tup xs))(q:∀ v H',Same H H'→H' v=some (.tup (xs.take n))→Q (.ref v) H'):rSlX K (.ref a) none (some (n:Int)) H Q:=
 ⟨a,xs,rfl,SqT.of h,fun z=>q a H (fun _ _ e=>e) (by
  have:=z.2;rw[zcz]at this;rw[yas (by omega)];exact h),fun _ p hp=>q p _ (zaf hp _) (by rw[zab,zmy])⟩
theorem zjn (h:H a=some (.tup xs))(q:∀ v H',Same H H'→H' v=some (.tup (xs.drop n))→Q (.ref v) H'):rSlX K (.ref a) (some (n:Int)) none H Q:=
 ⟨a,xs,rfl,SqT.of h,fun z=>q a H (fun _ _ e=>e) (by
  have:=z.1;rw[zcz]at this;have e:xs.drop n=xs:=by
   rcases Nat.eq_zero_or_pos n with y | y
   ·rw[y];rfl
   ·have:xs=[]:=ycC.mp (by omega);rw[this];exact List.drop_nil
  rw[e];exact h),fun _ p hp=>q p _ (zaf hp _) (by rw[zab,zfT])⟩
theorem zjP (ha:H a=some (.tup xs))(hb:H b=some (.tup ys))(hy:ys≠[])(hl:xs.length+ys.length≤sizeLine)(q:∀ v H',Same H H'→H' v=some (.tup (xs++ys))→Q (.ref v) H'):zqt K (.ref a) (.ref b) H Q:=
 ⟨a,b,xs,ys,rfl,rfl,SqT.of ha,SqT.of hb,hy,hl,fun z=>q b H (fun _ _ e=>e) (by rw[z];exact hb),fun _ p hp=>q p _ (zaf hp _) zab⟩
theorem zn4 (ha:H a=some (.tup xs))(hb:H b=some (.tup ys))(hx:xs≠[])(hl:xs.length+ys.length≤sizeLine)(q:∀ v H',Same H H'→H' v=some (.tup (xs++ys))→Q (.ref v) H'):zo5 K (.ref a) (.ref b) H Q:=
 ⟨a,b,xs,ys,rfl,rfl,SqT.of ha,SqT.of hb,hx,hl,fun z=>q a H (fun _ _ e=>e) (by rw[z,yay];exact ha),fun _ p hp=>q p _ (zaf hp _) zab⟩
end
theorem zdP {H:Hp}{v:Addr}{r:List Int}(hv:H v=some (.tup (r.map V.int))):∀{as:List Addr} {rows:List (List Int)} (kn:Nat),zaI H as rows→zaI H (as.set kn v) (rows.set kn r)
 | _,_,_,.nil=>.nil
 | _,_,0,.cons _ t=>.cons hv t
 | _,_,kn+1,.cons h t=>.cons h (zdP hv kn t)
theorem zlm {row:List Int}{x:Int}:(putR row x).length=row.length+1:=by
 unfold putR;rw[yaq,yaq,yan,yaN];have:loN row x≤row.length:=ya6 _ _;show _+1+_=_;omega
theorem zii {H H':Hp}{Pt b:Addr}{pos:Pos}{q:Str}(x:zbc H Pt pos q)(k:But b H H')(h1:∀ tab,H b≠some (.tbl tab))(h2:∀ f,H b≠some (.ext f)):zbc H' Pt pos q:=by
 obtain ⟨tab,e1,e2,e3⟩:=x.ex;refine ⟨tab,k _ _ (fun z=>h1 tab (z ▸ e1)) e1,e2,?_⟩;rcases e3 with e3 | ⟨c,e3,e4⟩
 ·exact .inl e3
 ·exact .inr ⟨c,e3,k _ _ (fun z=>h2 _ (z ▸ (show H c=_ from e4))) e4⟩
theorem zhK {r:List (List Int)}(Q:zaK r)(k:Nat):Rise (ownE r k):=by
 unfold ownE;exact List.Pairwise.map _ (R:=fun a b:Int=>a < b) (fun a b (h:a < b)=>zcA.mpr (.inl h)) (Q.at_up k)
def Kd (sh p mp:Addr)(H H':Hp):Prop:=∀ b o,b≠sh→b≠p→b≠mp→H b=some o→H' b=some o
def zjl (K:Frag)(CS mp:Addr)(f:List Int→Int→List Int)(ok:List (List Int)→Nat→Int→Prop):Sp:=fun vs H Q _=>∃(sh dx st p:Addr) (kn:Nat) (x:Int) (qs:List Addr) (ps:List Nat) (rows:List (List Int)) (t rs:Addr) (as:List Addr),vs=[.ref sh,.int kn,.int x]∧zaF K CS H sh dx st p qs ps rows t rs as∧kn < ps.length+1∧zib x∧ok rows kn x∧zbc H mp zcy lamQ∧
 ∀(D:Addr) (us:List V) (m:Nat) (qs':List Addr) (st' rs':Addr) (as':List Addr) (H':Hp),zpY ps rows (rows.set kn (f (zak rows kn) x)) kn m→H D=none→(∀ q∈qs',q∈qs∨H q=none)→Kd sh p mp H H'→zaF K CS H' sh dx st' p qs' ps (rows.set kn (f (zak rows kn) x)) t rs' as'→zbc H' mp zcy lamQ→H' D=some (.lst us)→
  zbH K H' D (fun b=>H b=none∧b∉qs') (zf6 ps rows (rows.set kn (f (zak rows kn) x)) kn m) us→Q (.ref D) H'
def zps (rows:List (List Int))(kn:Nat)(x:Int):Prop:=x∉zak rows kn∧zbd rows < 300
def zqP (rows:List (List Int))(kn:Nat)(x:Int):Prop:=x∈zak rows kn
theorem zhX {K:Frag}{mp CS:Addr}{H H2 H8:Hp}{sh dx st p st' rs' v7 t rs:Addr}{qs as:List Addr}{ps:List Nat}{rows:List (List Int)}{kn:Nat}{r:List Int}(S:zaF K CS H sh dx st p qs ps rows t rs as)(S2:zaF K CS H2 sh dx st p qs ps rows t rs as)(hT2:zbc H2 mp zcy lamQ)
  (g:∀ b o,b≠mp→H b=some o→H2 b=some o) (s28:Same H2 H8) (h7:H8 v7=some (.tup (r.map V.int))) (h8:H8 st'=some (.tup [.ref t,.ref rs'])) (r8:H8 rs'=some (.tup ((as.map V.ref).set kn (.ref v7)))) (R':zaK (rows.set kn r)) (hk:zbd (rows.set kn r)≤400) :
  zcm K CS (upd H8 sh (.ins CS dx (putF "kept" (.ref st') [("kept",.ref st),("fulls",.ref p)]))) sh dx st' p qs ps rows (rows.set kn r) t rs' (as.set kn v7) kn 0∧zbc (upd H8 sh (.ins CS dx (putF "kept" (.ref st') [("kept",.ref st),("fulls",.ref p)]))) mp zcy lamQ∧(∀ b o,b≠sh→b≠mp→H b=some o→upd H8 sh (.ins CS dx (putF "kept" (.ref st') [("kept",.ref st),("fulls",.ref p)])) b=some o)∧
  (∀{b},upd H8 sh (.ins CS dx (putF "kept" (.ref st') [("kept",.ref st),("fulls",.ref p)])) b=none→H b=none)∧∀{b},upd H8 sh (.ins CS dx (putF "kept" (.ref st') [("kept",.ref st),("fulls",.ref p)])) b=none→b∉qs:=by
 have i8:=s28 _ _ S2.ins;have i9:upd H8 sh (.ins CS dx (putF "kept" (.ref st') [("kept",.ref st),("fulls",.ref p)])) sh=some (.ins CS dx [("kept",.ref st'),("fulls",.ref p)]):=zab;have k9:But sh H8 (upd H8 sh (.ins CS dx (putF "kept" (.ref st') [("kept",.ref st),("fulls",.ref p)]))):=fun b o n e=>by rw[zag n];exact e
 generalize upd H8 sh (.ins CS dx (putF "kept" (.ref st') [("kept",.ref st),("fulls",.ref p)]))=H9 at i9 k9 ⊢;have tp9:Tp H8 H9:=k9.tp fun us' z=>by rw[i8]at z;cases z
 have l9:∀ b us,H8 b=some (.lst us)→H9 b=some (.lst us):=fun b us e=>k9 b _ (fun z=>by rw[z,i8]at e;cases e) e
 have o9:=k9 _ _ (fun z=>by have:=S.own;rw[z,S.ins]at this;cases this) (s28 _ _ S2.own)
 have S9:zcm K CS H9 sh dx st' p qs ps rows (rows.set kn r) t rs' (as.set kn v7) kn 0:=by
  refine ⟨o9,i9,⟨tp9 _ _ h8,tp9 _ _ (s28 _ _ S2.stand.tr),?_,zdP (tp9 _ _ h7) kn (zft (fun b us e=>tp9 _ _ (s28 _ _ e)) S2.stand.at_),by rw[ybx];exact S.stand.len,S.stand.T,R',S.stand.few,hk⟩,(S2.full.ext s28.ext).tp tp9 l9⟩;rw[ybY];exact tp9 _ _ r8
 have T9:=zii (hT2.ext s28.ext) k9 (fun tab z=>by rw[i8]at z;cases z) (fun f z=>by rw[i8]at z;cases z)
 refine ⟨S9,T9,fun b o n1 n2 e=>k9 b o n1 (s28 _ _ (g b o n2 e)),fun {b} e=>?_,fun {b} e z=>?_⟩
 ·cases eb:H b with
  | none=>rfl
  | some o=>
   by_cases z1:b=sh
   ·rw[z1,S9.ins]at e;cases e
   ·by_cases z2:b=mp
    ·obtain ⟨tab,e1,_⟩:=T9.ex;rw[z2,e1]at e;cases e
    ·rw[k9 b o z1 (s28 _ _ (g b o z2 eb))]at e;cases e
 ·obtain ⟨i,hi,ei⟩:=yaR z;obtain ⟨ws,w1,_⟩:=S9.full.get i b (by rw[yac hi,ei]);rw[e]at w1;cases w1
theorem zqG (T:Txt K mg){mp:Addr}{CS:Addr}(O:OwnC K mg CS)(D_Shelf_put:DM K CS "put" "Shelf.put" zcc zbu)(F_Shelf_row_for:FM P w K mg base CS 4 "row_for" zaE (ze5 K CS))(F_long_together:FC P w K mg base 1 "long_together" zaP (zjh K))(F_place:FC P w K mg base 3 "place" zds (zgI K mp))(F_with_row:FC P w K mg base 1 "with_row" zbJ (zjd K))(F_Shelf_carry_up:FM P w K mg base CS 7 "carry_up" zaO (zgM K CS)):FM P w K mg base CS 8 "put" zbu (zjl K CS mp putR zps):=by
 refine D_Shelf_put.ok sc_Shelf_put (fun vs H Q E h=>?_) (fun f cdv A outer s H vs Q E hr h=>?_)
 ·obtain ⟨sh,dx,st,p,kn,x,qs,ps,rows,t,rs,as,rfl,_⟩:=h;rfl
 obtain ⟨sh,dx,st,p,kn,x,qs,ps,rows,t,rs,as,rfl,S,hk,hx,⟨hnx,hroom⟩,hT,q⟩:=h;refine ⟨_,(zaj (zar (i:=3) sc_Shelf_put.nd rfl (Or.inl rfl) (zir F_Shelf_row_for O.cl hr (pv 0) (zaa (pv 1) (zaa (pv 2) zad))))
   (zay (zaY (zat zdb (pv 2) (pv 3) (by with_unfolding_all rfl)) (zae za5) zaw)
   (zay (zaY (zat zlz (zax F_long_together hr (zaa (zaR zbf (zbT (pv 0) rfl) zai (fun _ _=>rfl)) zad)) (zdx rfl T.g_MOST_KEYS) (zaH _)) (zae za5) zaw)
   (zaj (zar (i:=4) sc_Shelf_put.nd rfl (Or.inl rfl) (zax F_place hr (zaa (pv 3) (zaa (pv 2) zad))))
   (zaj (zhF (pv 0) (zax F_with_row hr (zaa (zbT (pv 0) rfl) (zaa (pv 1) (zaa (zav zfz (zav zg5 (zbN zc5 (pv 3) zc8 (zbX (pv 4))) (zbz (zaa (pv 2) zad))) (zbN zc5 (pv 3) (zbX (pv 4)) zc8)) zad)))) rfl)
   (zae (zas (zir F_Shelf_carry_up O.cl hr (pv 0) (zaa (pv 1) (zaa (zbi zad) (zaa (zbi (zaa (zbz (zaa (pv 2) (zaa (pv 1) zad))) zad)) zad))))))))))),?_⟩
 refine ⟨_,rfl,sh,dx,_,rfl,S.ins,rfl,_,rfl,_,rfl,sh,dx,st,p,kn,x,qs,ps,rows,t,rs,as,rfl,S,hk,hx,fun a ha hrow=>?_⟩;have hfl:((zak rows kn).map V.int).all zeo=true:=yaS.mpr fun y hy=>by
  obtain ⟨z,_,rfl⟩:=yaG.mp hy;rfl
 refine ⟨fun σ' H'=>σ'=[some (.ref sh),some (.int kn),some (.int x),some (.ref a),none]∧H=H',?_,?_⟩
 ·refine ⟨_,rfl,_,rfl,a,_,rfl,.inr (SqT.of hrow),rfl,hfl,_,rfl,?_⟩;show if inV (.int x) ((zak rows kn).map V.int)=true then _ else _
  rw[zfL,yai hnx];exact iteF ⟨rfl,rfl⟩
 rintro _ _ ⟨rfl,rfl⟩;have hfew:=S.stand.few;refine ⟨fun σ' H1=>σ'=[some (.ref sh),some (.int kn),some (.int x),some (.ref a),none]∧Same H H1,?_,?_⟩
 ·refine ⟨_,rfl,sh,CS,dx,_,_,rfl,S.ins,O.cl,O.n_kept,rfl,_,_,_,_,rfl,rfl,SqT.of S.stand.st,rfl,rs,as,_,rfl,.inr S.stand.rs,zfu S.stand.at_,by rw[yab,S.stand.len];omega,fun H1 s1=>?_⟩;refine ⟨_,_,rfl,rfl,_,rfl,?_⟩;exact zl8 (show ¬ (300:Int)≤((zbd rows:Nat):Int) by omega) ⟨rfl,s1⟩
 rintro _ H1 ⟨rfl,s1⟩;have hrow1:=s1 _ _ hrow;refine ⟨_,rfl,_,rfl,a,zak rows kn,x,rfl,hrow1,S.stand.R.at_up kn,hT.ext s1.ext,fun H2 g2 hT2=>?_⟩;obtain ⟨tab,hmp⟩:∃ tab,H1 mp=some (.tbl tab):=by
  obtain ⟨tab,e,_⟩:=(hT.ext s1.ext).ex;exact ⟨tab,e⟩
 have keep2:∀{b:Addr} {o:HO},H b=some o→(∀ tab,o≠.tbl tab)→H2 b=some o:=fun {b o} e n=>g2 b o (fun z=>by
  rw[z]at e;have:=s1 _ _ e;rw[hmp]at this;exact n _ (yad this).symm) (s1 _ _ e)
 have tp2:Tp H H2:=fun b us e=>keep2 e (fun _ z=>nomatch z);have S2:zaF K CS H2 sh dx st p qs ps rows t rs as:=⟨keep2 S.own (fun _ z=>nomatch z),keep2 S.ins (fun _ z=>nomatch z),zcq tp2 S.stand,S.full.tp tp2 fun b us e=>keep2 e (fun _ z=>nomatch z)⟩;have row2:=tp2 _ _ hrow;refine ⟨_,rfl,sh,CS,dx,_,_,rfl,S2.ins,O.cl,O.n_kept,rfl,_,rfl,?_⟩;refine ⟨_,rfl,_,rfl,_,rfl,zor row2 fun v3 H3 s3 h3=>?_⟩;refine ⟨_,rfl,(by show 1≤sizeLine;decide),fun v4 hv4=>?_⟩;have s4:=zaf hv4 (.tup [.int x]);have h4:upd H3 v4 (.tup [.int x]) v4=some (.tup [.int x]):=zab;have h34:=s4 _ _ h3;have row4:=s4 _ _ (s3 _ _ row2);generalize upd H3 v4 (.tup [.int x])=H4 at s4 h4 h34 row4 ⊢;have hrl:(zak rows kn).length≤400:=by
  have:=S.stand.keys;refine yaA (zdD ?_) this;unfold zak;rw[yae,yac (show kn < rows.length by rw[S.stand.len];exact hk)];exact ya0 _
 refine zjP h34 h4 (fun z=>nomatch z) (ya1 (zaq (by rw[yan,yab];show _+1≤1000;omega))) fun v5 H5 s5 h5=>?_;refine ⟨_,rfl,_,rfl,_,rfl,?_⟩;unfold zij;dsimp only;refine zjn (s5 _ _ row4) fun v6 H6 s6 h6=>?_;refine zn4 (s6 _ _ h5) h6 (by simp) (ya1 (zaq (by rw[yaq,yan,yaN,yab];show _+1+_≤1000;omega))) fun v7 H7 s7 h7=>?_;have s27:Same H2 H7:=s3.trans (s4.trans (s5.trans (s6.trans s7)));have er:((zak rows kn).map V.int).take (zes (zak rows kn) x)++[V.int x]++((zak rows kn).map V.int).drop (zes (zak rows kn) x)=(putR (zak rows kn) x).map V.int:=by
  unfold putR;rw[yat,yat,ycr,List.map_drop];rfl
 rw[er]at h7;have hal:=S.stand.at_.length;refine ⟨st,t,rs,as.map V.ref,kn,.ref v7,rfl,s27 _ _ S2.stand.st,s27 _ _ S2.stand.rs,by rw[yab,hal,S.stand.len];exact hk,by rw[yab,hal,S.stand.len];omega,fun st' rs' H8 s8 h8 r8=>?_⟩;have s28:Same H2 H8:=s27.trans s8;have hkr:kn < rows.length:=by rw[S.stand.len];exact hk
 have R':zaK (rows.set kn (putR (zak rows kn) x)):=zjq S.stand.R (zow (S.stand.R.at_up kn) hnx) fun y hy=>by
  rcases zio.mp hy with z | z
  ·exact S.stand.R.at_key kn y z
  ·rw[z];exact hx
 have hks:=zdC (r:=putR (zak rows kn) x) hkr;rw[zlm]at hks;refine ⟨_,rfl,sh,CS,dx,_,rfl,s28 _ _ S2.ins,O.cl,O.n_kept,(by show 2 < 1000;decide),?_⟩;obtain ⟨S9,T9,kd9,al,nq9⟩:=zhX (r:=putR (zak rows kn) x) S S2 hT2 (fun b o n e=>g2 b o n (s1 _ _ e)) s28 (s8 _ _ h7) h8 r8 R' (by omega);generalize upd H8 sh (.ins CS dx (putF "kept" (.ref st') [("kept",.ref st),("fulls",.ref p)]))=H9 at S9 T9 kd9 al nq9 ⊢;refine ⟨_,rfl,sh,dx,_,rfl,S9.ins,rfl,_,rfl,(by show 0≤sizeLine;decide),fun g hg=>?_⟩;have s10:=zaf hg (.lst []);have g10:upd H9 g (.lst []) g=some (.lst []):=zab;generalize upd H9 g (.lst [])=H10 at s10 g10 ⊢;refine ⟨_,rfl,_,rfl,(by show 2≤sizeLine;decide),fun u hu=>?_⟩;have s11:=zaf hu (.tup [.int x,.int kn]);have u11:upd H10 u (.tup [.int x,.int kn]) u=some (.tup [.int x,.int kn]):=zab;generalize upd H10 u (.tup [.int x,.int kn])=H11 at s11 u11 ⊢;refine ⟨(by show 1≤sizeLine;decide),fun c hc=>?_⟩;have s12:=zaf hc (.lst [.ref u]);have c12:upd H11 c (.lst [.ref u]) c=some (.lst [.ref u]):=zab;generalize upd H11 c (.lst [.ref u])=H12 at s12 c12 ⊢;have s92:Same H9 H12:=s10.trans (s11.trans s12);have S12:zcm K CS H12 sh dx st' p qs ps rows (rows.set kn (putR (zak rows kn) x)) t rs' (as.set kn v7) kn 0:=⟨s92 _ _ S9.own,s92 _ _ S9.ins,S9.stand.same s92,S9.full.ext s92.ext⟩;have L:=zhT S.stand.T S.stand.R R' hk (zeM (rows:=rows) (r:=putR (zak rows kn) x));refine ⟨sh,dx,st',p,g,c,[],[.ref u],kn,qs,ps,rows,rows.set kn (putR (zak rows kn) x),t,rs',as.set kn v7,(fun b=>H b=none),rfl,S12,hk,zeM,S.stand.R,S.stand.len,S.stand.keys,s12 _ _ (s11 _ _ g10),?_,c12,?_,al hg,al (s10.free (s11.free hc)),(nq9 hg),(nq9 (s10.free (s11.free hc))),(fun z=>by have z:H p=none:=z;rw[S.full.at_]at z;cases z),(fun b z=>al (s92.free z)),fun D us m qs' H' st hD hq bb sh' hDl told=>?_⟩
 ·rw[← L.gone,zm6 hkr];exact .nil
 ·rw[← L.come,zm7 hkr (S.stand.R.at_up kn) (zhK R' kn) hnx];exact .cons ⟨u,.int x,.int kn,rfl,s12 _ _ u11,rfl,rfl⟩ .nil
 ·refine q D us m qs' st' rs' (as.set kn v7) H' st (al (s92.free hD)) (fun y hy=>(hq y hy).imp id fun z=>al (s92.free z)) (fun b o n1 n2 n3 e=>bb b o n2 (s92 _ _ (kd9 b o n1 n3 e))) sh' ?_ hDl told;have:=S12.full.at_;exact zii (T9.ext s92.ext) bb (fun tab z=>by rw[this]at z;cases z) (fun f z=>by rw[this]at z;cases z)
section
variable {K:Frag}{H:Hp}{a b:Addr}{xs ys:List V}{Q:VK}
theorem zn5 (ha:H a=some (.tup xs))(hb:H b=some (.tup ys))(hl:xs.length+ys.length≤sizeLine)(q:∀ v H',Same H H'→H' v=some (.tup (xs++ys))→Q (.ref v) H'):zqu K (.ref a) (.ref b) H Q:=
 ⟨a,b,xs,ys,rfl,rfl,SqT.of ha,SqT.of hb,hl,fun z=>q b H (fun _ _ e=>e) (by rw[z];exact hb),fun _=>⟨fun z=>q a H (fun _ _ e=>e) (by rw[z,yay];exact ha),fun _ p hp=>q p _ (zaf hp _) zab⟩⟩
end
theorem zqI (T:Txt K mg){mp:Addr}{CS:Addr}(O:OwnC K mg CS)(D_Shelf_out:DM K CS "out" "Shelf.out" zcR zcv)(F_Shelf_row_for:FM P w K mg base CS 4 "row_for" zaE (ze5 K CS))(F_place:FC P w K mg base 3 "place" zds (zgI K mp))(F_with_row:FC P w K mg base 1 "with_row" zbJ (zjd K))(F_Shelf_carry_up:FM P w K mg base CS 7 "carry_up" zaO (zgM K CS)):FM P w K mg base CS 8 "out" zcv (zjl K CS mp outR zqP):=by
 refine D_Shelf_out.ok sc_Shelf_out (fun vs H Q E h=>?_) (fun f cdv A outer s H vs Q E hr h=>?_)
 ·obtain ⟨sh,dx,st,p,kn,x,qs,ps,rows,t,rs,as,rfl,_⟩:=h;rfl
 obtain ⟨sh,dx,st,p,kn,x,qs,ps,rows,t,rs,as,rfl,S,hk,hx,hin,hT,q⟩:=h;refine ⟨_,(zaj (zar (i:=3) sc_Shelf_out.nd rfl (Or.inl rfl) (zir F_Shelf_row_for O.cl hr (pv 0) (zaa (pv 1) (zaa (pv 2) zad))))
   (zay (zaY (zat zda (pv 2) (pv 3) (by with_unfolding_all rfl)) (zae za5) zaw)
   (zaj (zar (i:=4) sc_Shelf_out.nd rfl (Or.inl rfl) (zax F_place hr (zaa (pv 3) (zaa (pv 2) zad))))
   (zaj (zhF (pv 0) (zax F_with_row hr (zaa (zbT (pv 0) rfl) (zaa (pv 1) (zaa (zav zpi (zbN zc5 (pv 3) zc8 (zbX (pv 4))) (zbN zc5 (pv 3) (zbX (zav zbC (pv 4) zai)) zc8)) zad)))) rfl)
   (zae (zas (zir F_Shelf_carry_up O.cl hr (pv 0) (zaa (pv 1) (zaa (zbi (zaa (zbz (zaa (pv 2) (zaa (pv 1) zad))) zad)) (zaa (zbi zad) zad)))))))))),?_⟩
 refine ⟨_,rfl,sh,dx,_,rfl,S.ins,rfl,_,rfl,_,rfl,sh,dx,st,p,kn,x,qs,ps,rows,t,rs,as,rfl,S,hk,hx,fun a ha hrow=>?_⟩;have hfl:((zak rows kn).map V.int).all zeo=true:=yaS.mpr fun y hy=>by
  obtain ⟨z,_,rfl⟩:=yaG.mp hy;rfl
 refine ⟨fun σ' H'=>σ'=[some (.ref sh),some (.int kn),some (.int x),some (.ref a),none]∧H=H',?_,?_⟩
 ·refine ⟨_,rfl,_,rfl,a,_,rfl,.inr (SqT.of hrow),rfl,hfl,_,rfl,?_⟩;show if (!inV (.int x) ((zak rows kn).map V.int))=true then _ else _
  rw[zfL,yal (show x∈zak rows kn from hin)];exact iteF ⟨rfl,rfl⟩
 rintro _ _ ⟨rfl,rfl⟩;have hfew:=S.stand.few;have s1:Same H H:=fun _ _ e=>e;have hrow1:=s1 _ _ hrow;refine ⟨_,rfl,_,rfl,a,zak rows kn,x,rfl,hrow1,S.stand.R.at_up kn,hT.ext s1.ext,fun H2 g2 hT2=>?_⟩;obtain ⟨tab,hmp⟩:∃ tab,H mp=some (.tbl tab):=by
  obtain ⟨tab,e,_⟩:=(hT.ext s1.ext).ex;exact ⟨tab,e⟩
 have keep2:∀{b:Addr} {o:HO},H b=some o→(∀ tab,o≠.tbl tab)→H2 b=some o:=fun {b o} e n=>g2 b o (fun z=>by
  rw[z]at e;have:=s1 _ _ e;rw[hmp]at this;exact n _ (yad this).symm) (s1 _ _ e)
 have tp2:Tp H H2:=fun b us e=>keep2 e (fun _ z=>nomatch z);have S2:zaF K CS H2 sh dx st p qs ps rows t rs as:=⟨keep2 S.own (fun _ z=>nomatch z),keep2 S.ins (fun _ z=>nomatch z),zcq tp2 S.stand,S.full.tp tp2 fun b us e=>keep2 e (fun _ z=>nomatch z)⟩;have row2:=tp2 _ _ hrow;refine ⟨_,rfl,sh,CS,dx,_,_,rfl,S2.ins,O.cl,O.n_kept,rfl,_,rfl,?_⟩;refine ⟨_,rfl,_,rfl,_,rfl,zor row2 fun v3 H3 s3 h3=>?_⟩;have hrl:(zak rows kn).length≤400:=by
  have:=S.stand.keys;refine yaA (zdD ?_) this;unfold zak;rw[yae,yac (show kn < rows.length by rw[S.stand.len];exact hk)];exact ya0 _
 refine ⟨_,rfl,_,rfl,_,_,rfl,rfl,_,rfl,?_⟩;unfold zij;dsimp only;rw[show ((zes (zak rows kn) x:Nat):Int)+1=((zes (zak rows kn) x+1:Nat):Int) from rfl];refine zjn (s3 _ _ row2) fun v6 H6 s6 h6=>?_;refine zn5 (s6 _ _ h3) h6 (ya1 (zaq (by rw[yan,yaN,yab];omega))) fun v7 H7 s7 h7=>?_;have s27:Same H2 H7:=s3.trans (s6.trans s7);have er:((zak rows kn).map V.int).take (zes (zak rows kn) x)++((zak rows kn).map V.int).drop (zes (zak rows kn) x+1)=(outR (zak rows kn) x).map V.int:=by
  unfold outR;rw[yat,ycr,List.map_drop];rfl
 rw[er]at h7;have hal:=S.stand.at_.length;refine ⟨st,t,rs,as.map V.ref,kn,.ref v7,rfl,s27 _ _ S2.stand.st,s27 _ _ S2.stand.rs,by rw[yab,hal,S.stand.len];exact hk,by rw[yab,hal,S.stand.len];omega,fun st' rs' H8 s8 h8 r8=>?_⟩;have s28:Same H2 H8:=s27.trans s8;have hkr:kn < rows.length:=by rw[S.stand.len];exact hk
 have R':zaK (rows.set kn (outR (zak rows kn) x)):=zjq S.stand.R ((S.stand.R.at_up kn).sublist (zeC _ _)) fun y hy=>S.stand.R.at_key kn y ((zeC _ _).mem hy);have hks:=zdC (r:=outR (zak rows kn) x) hkr;have hol:=(zeC (zak rows kn) x).length_le;have hkk:=S.stand.keys;refine ⟨_,rfl,sh,CS,dx,_,rfl,s28 _ _ S2.ins,O.cl,O.n_kept,(by show 2 < 1000;decide),?_⟩;obtain ⟨S9,T9,kd9,al,nq9⟩:=zhX (r:=outR (zak rows kn) x) S S2 hT2 (fun b o n e=>g2 b o n (s1 _ _ e)) s28 (s8 _ _ h7) h8 r8 R' (by omega);generalize upd H8 sh (.ins CS dx (putF "kept" (.ref st') [("kept",.ref st),("fulls",.ref p)]))=H9 at S9 T9 kd9 al nq9 ⊢;refine ⟨_,rfl,sh,dx,_,rfl,S9.ins,rfl,_,rfl,_,rfl,_,rfl,(by show 2≤sizeLine;decide),fun u hu=>?_⟩;have s10:=zaf hu (.tup [.int x,.int kn]);have u10:upd H9 u (.tup [.int x,.int kn]) u=some (.tup [.int x,.int kn]):=zab;generalize upd H9 u (.tup [.int x,.int kn])=H10 at s10 u10 ⊢;refine ⟨(by show 1≤sizeLine;decide),fun g hg=>?_⟩;have s11:=zaf hg (.lst [.ref u]);have g11:upd H10 g (.lst [.ref u]) g=some (.lst [.ref u]):=zab;generalize upd H10 g (.lst [.ref u])=H11 at s11 g11 ⊢;refine ⟨(by show 0≤sizeLine;decide),fun c hc=>?_⟩;have s12:=zaf hc (.lst []);have c12:upd H11 c (.lst []) c=some (.lst []):=zab;generalize upd H11 c (.lst [])=H12 at s12 c12 ⊢;have s92:Same H9 H12:=s10.trans (s11.trans s12);have S12:zcm K CS H12 sh dx st' p qs ps rows (rows.set kn (outR (zak rows kn) x)) t rs' (as.set kn v7) kn 0:=⟨s92 _ _ S9.own,s92 _ _ S9.ins,S9.stand.same s92,S9.full.ext s92.ext⟩;have L:=zhT S.stand.T S.stand.R R' hk (zeM (rows:=rows) (r:=outR (zak rows kn) x));refine ⟨sh,dx,st',p,g,c,[.ref u],[],kn,qs,ps,rows,rows.set kn (outR (zak rows kn) x),t,rs',as.set kn v7,(fun b=>H b=none),rfl,S12,hk,zeM,S.stand.R,S.stand.len,S.stand.keys,s12 _ _ g11,?_,c12,?_,al (s10.free hg),al (s10.free (s11.free hc)),(nq9 (s10.free hg)),(nq9 (s10.free (s11.free hc))),(fun z=>by have z:H p=none:=z;rw[S.full.at_]at z;cases z),(fun b z=>al (s92.free z)),fun D us m qs' H' st hD hq bb sh' hDl told=>?_⟩
 ·rw[← L.gone,zng hkr (S.stand.R.at_up kn) (zhK S.stand.R kn) hin];exact .cons ⟨u,.int x,.int kn,rfl,s12 _ _ (s11 _ _ u10),rfl,rfl⟩ .nil
 ·rw[← L.come,znh hkr];exact .nil
 ·refine q D us m qs' st' rs' (as.set kn v7) H' st (al (s92.free hD)) (fun y hy=>(hq y hy).imp id fun z=>al (s92.free z)) (fun b o n1 n2 n3 e=>bb b o n2 (s92 _ _ (kd9 b o n1 n3 e))) sh' ?_ hDl told;have:=S12.full.at_;exact zii (T9.ext s92.ext) bb (fun tab z=>by rw[this]at z;cases z) (fun f z=>by rw[this]at z;cases z)
inductive AnyV (K:Frag)(H:Hp):V→Prop where
 | int (i:Int):AnyV K H (.int i)
 | oth (x:V) (h:∀ i,x≠.int i) (w:zf3 K H x false):AnyV K H x
def zfP (n:Nat)(x:V):Bool:=match x with
 | .int i=>decide (0≤i) && decide (i < n)
 | _=>false
theorem zkt {n:Nat}{x:V}(h:∀ i,x≠.int i):zfP n x=false:=by
 cases x with
 | int i=>exact absurd rfl (h i)
 | _=>rfl
def zjj (K:Frag):Sp:=fun vs H Q _=>∃(n:Nat) (x:V),vs=[.int n,x]∧AnyV K H x∧Q (.bl (zfP n x)) H
theorem zlH (T:Txt K mg)(D_is_one_of_first:DF K mg "is_one_of_first" za0 zaB)(F_is_whole:FC P w K mg base 1 "is_whole" zbK (zgH K)):FC P w K mg base 2 "is_one_of_first" zaB (zjj K):=by
 refine D_is_one_of_first.ok sc_is_one_of_first (fun vs H Q E h=>?_) (fun f cdv A outer s H vs Q E hr h=>?_)
 ·obtain ⟨n,x,rfl,_⟩:=h;rfl
 obtain ⟨n,x,rfl,hx,q⟩:=h;refine ⟨_,(zae (zas (zjy (zax F_is_whole hr (zaa (pv 1) zad)) (zjw (zjx zni zga zai (pv 1) (pv 0)))))),?_⟩;cases hx with
 | oth x h w=>
  refine ⟨_,rfl,_,false,rfl,w,_,rfl,?_⟩;refine iteF ?_;rw[zkt h]at q;exact q
 | int i=>
  refine ⟨_,rfl,_,true,rfl,.int i,_,rfl,?_⟩;refine iteT ?_;refine ⟨_,rfl,_,_,rfl,rfl,_,rfl,?_⟩;refine ite2 (fun c=>?_) (fun c=>?_)
  ·refine ⟨_,rfl,_,_,rfl,rfl,?_⟩;have e:zfP n (.int i)=decide (i < (n:Int)):=by
    show (decide (0≤i) && decide (i < (n:Int)))=_;rw[show decide (0≤i)=true from c,Bool.true_and]
   rw[e]at q;exact q
  ·have e:zfP n (.int i)=false:=by
    show (decide (0≤i) && decide (i < (n:Int)))=_;rw[show decide (0≤i)=false from ybS.mpr c,Bool.false_and]
   rw[e]at q;exact q
def zk7 (K:Frag)(C:Addr):Sp:=fun vs H _ E=>∃(t:Addr) (x:V) (ps:List Nat),vs=[.ref t,x]∧H t=some (.tup (zbI ps))∧ps.length≤900∧AnyV K H x∧zfP (ps.length+1) x=false∧E (.ref C) none H
theorem znq (T:Txt K mg){C_BridgeError C_NoTree C_NoWay C_NoStand C_Twice C_Missing C_NoRoom C_NoKnot C_NoKey C_NoOrder C_NoRow C_NoText C_Shelf:Addr}(CL:Cls K mg C_BridgeError C_NoTree C_NoWay C_NoStand C_Twice C_Missing C_NoRoom C_NoKnot C_NoKey C_NoOrder C_NoRow C_NoText C_Shelf)(D_need_knot:DF K mg "need_knot" zcb za2)(F_is_one_of_first:FC P w K mg base 2 "is_one_of_first" zaB (zjj K)):FX P w K mg base 3 "need_knot" za2 (zk7 K C_NoKnot):=by
 refine D_need_knot.okx sc_need_knot (fun vs H Q E h=>?_) (fun f cdv A outer s H vs Q E hr h=>?_)
 ·obtain ⟨t,x,ps,rfl,_⟩:=h;rfl
 obtain ⟨t,x,ps,rfl,ht,hl,hx,hf,e⟩:=h;refine ⟨_,(zae (zaY (zc6 (zcu (zax F_is_one_of_first hr (zaa (zam zao rfl T.m_len boot_len (zaa (pv 0) zad)) (zaa (pv 1) zad))))) (zae (zfg CL.c_NoKnot thrX rfl rfl (zaa zaQ zad))) zaw)),?_⟩;refine ⟨_,rfl,_,_,rfl,.inr (SqT.of ht),_,rfl,?_⟩;rw[zau];refine ⟨ps.length+1,x,rfl,hx,?_⟩;rw[hf];refine ⟨_,rfl,iteT ?_⟩;exact ⟨(by show 1≤sizeLine;decide),e⟩
def zon (K:Frag)(C:Addr):Sp:=fun vs H _ E=>∃(x:V),vs=[x]∧zi1 K H x false∧E (.ref C) none H
theorem zpp (T:Txt K mg){C_BridgeError C_NoTree C_NoWay C_NoStand C_Twice C_Missing C_NoRoom C_NoKnot C_NoKey C_NoOrder C_NoRow C_NoText C_Shelf:Addr}(CL:Cls K mg C_BridgeError C_NoTree C_NoWay C_NoStand C_Twice C_Missing C_NoRoom C_NoKnot C_NoKey C_NoOrder C_NoRow C_NoText C_Shelf)(D_need_key:DF K mg "need_key" zcE zbq)(F_is_key:FC P w K mg base 2 "is_key" zcG (zgK K)):FX P w K mg base 3 "need_key" zbq (zon K C_NoKey):=by
 refine D_need_key.okx sc_need_key (fun vs H Q E h=>?_) (fun f cdv A outer s H vs Q E hr h=>?_)
 ·obtain ⟨x,rfl,_⟩:=h;rfl
 obtain ⟨x,rfl,hx,e⟩:=h;refine ⟨_,(zae (zaY (zc6 (zcu (zax F_is_key hr (zaa (pv 0) zad)))) (zae (zfg CL.c_NoKey thrX rfl rfl (zaa zaQ zad))) zaw)),?_⟩;refine ⟨_,rfl,_,false,rfl,hx,_,rfl,?_⟩;refine iteT ?_;exact ⟨(by show 1≤sizeLine;decide),e⟩
def zo1 (K:Frag)(C:Addr):Sp:=fun vs H Q E=>zgJ K vs H Q E∨zk7 K C vs H Q E
def zqj (K:Frag)(C:Addr):Sp:=fun vs H Q E=>zil K vs H Q E∨zon K C vs H Q E
def zk4 (K:Frag)(CS CK CY:Addr):Sp:=fun vs H _ E=>∃(sh dx st p:Addr) (x y:V) (qs:List Addr) (ps:List Nat) (rows:List (List Int)) (t rs:Addr) (as:List Addr),vs=[.ref sh,x,y]∧zaF K CS H sh dx st p qs ps rows t rs as∧
 ((AnyV K H x∧zfP (ps.length+1) x=false∧E (.ref CK) none H)∨(∃ kn:Nat,x=.int kn∧kn < ps.length+1∧zi1 K H y false∧E (.ref CY) none H))
theorem zpm (T:Txt K mg){C_BridgeError C_NoTree C_NoWay C_NoStand C_Twice C_Missing C_NoRoom C_NoKnot C_NoKey C_NoOrder C_NoRow C_NoText C_Shelf:Addr}(CL:Cls K mg C_BridgeError C_NoTree C_NoWay C_NoStand C_Twice C_Missing C_NoRoom C_NoKnot C_NoKey C_NoOrder C_NoRow C_NoText C_Shelf){CS:Addr}(O:OwnC K mg CS)(D_Shelf_row_for:DM K CS "row_for" "Shelf.row_for" zbe zaE)(F_need_knot:FX P w K mg base 3 "need_knot" za2 (zo1 K C_NoKnot))(F_need_key:FX P w K mg base 3 "need_key" zbq (zqj K C_NoKey)):FMX P w K mg base CS 4 "row_for" zaE (zk4 K CS C_NoKnot C_NoKey):=by
 refine D_Shelf_row_for.okx sc_Shelf_row_for (fun vs H Q E h=>?_) (fun f cdv A outer s H vs Q E hr h=>?_)
 ·obtain ⟨sh,dx,st,p,x,y,qs,ps,rows,t,rs,as,rfl,_⟩:=h;rfl
 obtain ⟨sh,dx,st,p,x,y,qs,ps,rows,t,rs,as,rfl,S,hc⟩:=h;refine ⟨_,(zaj (zby (zoA F_need_knot hr zpg (zaa (zaR zbf (zbT (pv 0) rfl) zai (fun _ _=>rfl)) (zaa (pv 1) zad))))
   (zaj (zby (zoA F_need_key hr zpg (zaa (pv 2) zad)))
   (zae (zas (zaR zbf (zaR zbf (zbT (pv 0) rfl) zai (fun _ _=>rfl)) (pv 1) (fun _ _=>rfl)))))),?_⟩
 have hfew:=S.stand.few;rcases hc with ⟨hx,hf,e⟩ | ⟨kn,rfl,hk,hy,e⟩
 ·exact ⟨_,rfl,sh,CS,dx,_,_,rfl,S.ins,O.cl,O.n_kept,rfl,_,_,_,_,rfl,rfl,SqT.of S.stand.st,rfl,_,rfl,.inr ⟨t,x,ps,rfl,S.stand.tr,by omega,hx,hf,e⟩⟩
 ·refine ⟨_,rfl,sh,CS,dx,_,_,rfl,S.ins,O.cl,O.n_kept,rfl,_,_,_,_,rfl,rfl,SqT.of S.stand.st,rfl,_,rfl,.inl ⟨t,kn,ps,rfl,S.stand.tr,by omega,hk,?_⟩⟩;exact ⟨_,rfl,.inr ⟨y,rfl,hy,e⟩⟩
def zqf (K:Frag)(CS CK CY:Addr):Sp:=fun vs H Q E=>ze5 K CS vs H Q E∨zk4 K CS CK CY vs H Q E
def zom (K:Frag)(CS CK CY CT CR:Addr):Sp:=fun vs H Q E=>zk4 K CS CK CY vs H Q E∨∃(sh dx st p:Addr) (kn:Nat) (x:Int) (qs:List Addr) (ps:List Nat) (rows:List (List Int)) (t rs:Addr) (as:List Addr),vs=[.ref sh,.int kn,.int x]∧zaF K CS H sh dx st p qs ps rows t rs as∧kn < ps.length+1∧zib x∧
 ((x∈zak rows kn∧E (.ref CT) none H)∨(x∉zak rows kn∧300≤zbd rows∧∀ H',Same H H'→E (.ref CR) none H'))
theorem zpn (T:Txt K mg){C_BridgeError C_NoTree C_NoWay C_NoStand C_Twice C_Missing C_NoRoom C_NoKnot C_NoKey C_NoOrder C_NoRow C_NoText C_Shelf:Addr}(CL:Cls K mg C_BridgeError C_NoTree C_NoWay C_NoStand C_Twice C_Missing C_NoRoom C_NoKnot C_NoKey C_NoOrder C_NoRow C_NoText C_Shelf){mp:Addr}{CS:Addr}(O:OwnC K mg CS)(D_Shelf_put:DM K CS "put" "Shelf.put" zcc zbu)(F_Shelf_row_for:FMX P w K mg base CS 4 "row_for" zaE (zqf K CS C_NoKnot C_NoKey))(F_long_together:FC P w K mg base 1 "long_together" zaP (zjh K))(F_place:FC P w K mg base 3 "place" zds (zgI K mp))(F_with_row:FC P w K mg base 1 "with_row" zbJ (zjd K))(F_Shelf_carry_up:FM P w K mg base CS 7 "carry_up" zaO (zgM K CS)):FMX P w K mg base CS 8 "put" zbu (zom K CS C_NoKnot C_NoKey C_Twice C_NoRoom):=by
 refine D_Shelf_put.okx sc_Shelf_put (fun vs H Q E h=>?_) (fun f cdv A outer s H vs Q E hr h=>?_)
 ·rcases h with ⟨sh,dx,st,p,x,y,qs,ps,rows,t,rs,as,rfl,_⟩ | ⟨sh,dx,st,p,kn,x,qs,ps,rows,t,rs,as,rfl,_⟩ <;> rfl
 refine ⟨_,(zaj (zar (i:=3) sc_Shelf_put.nd rfl (Or.inl rfl) (zqA F_Shelf_row_for O.cl hr zpg (pv 0) (zaa (pv 1) (zaa (pv 2) zad))))
   (zay (zaY (zat zdb (pv 2) (pv 3) (by with_unfolding_all rfl)) (zae (zfg CL.c_Twice thrX rfl rfl (zaa zaQ zad))) zaw)
   (zay (zaY (zat zlz (zax F_long_together hr (zaa (zaR zbf (zbT (pv 0) rfl) zai (fun _ _=>rfl)) zad)) (zdx rfl T.g_MOST_KEYS) (zaH _)) (zae (zfg CL.c_NoRoom thrX rfl rfl (zaa zaQ zad))) zaw)
   (zaj (zar (i:=4) sc_Shelf_put.nd rfl (Or.inl rfl) (zax F_place hr (zaa (pv 3) (zaa (pv 2) zad))))
   (zaj (zhF (pv 0) (zax F_with_row hr (zaa (zbT (pv 0) rfl) (zaa (pv 1) (zaa (zav zfz (zav zg5 (zbN zc5 (pv 3) zc8 (zbX (pv 4))) (zbz (zaa (pv 2) zad))) (zbN zc5 (pv 3) (zbX (pv 4)) zc8)) zad)))) rfl)
   (zae (zas (zir F_Shelf_carry_up O.cl hr (pv 0) (zaa (pv 1) (zaa (zbi zad) (zaa (zbi (zaa (zbz (zaa (pv 2) (zaa (pv 1) zad))) zad)) zad))))))))))),?_⟩
 rcases h with h | ⟨sh,dx,st,p,kn,x,qs,ps,rows,t,rs,as,rfl,S,hk,hx,hc⟩
 ·have h0:=h;obtain ⟨sh,dx,st,p,x,y,qs,ps,rows,t,rs,as,rfl,S,hc⟩:=h;exact ⟨_,rfl,sh,dx,_,rfl,S.ins,rfl,_,rfl,_,rfl,.inr h0⟩
 refine ⟨_,rfl,sh,dx,_,rfl,S.ins,rfl,_,rfl,_,rfl,.inl ⟨sh,dx,st,p,kn,x,qs,ps,rows,t,rs,as,rfl,S,hk,hx,fun a ha hrow=>?_⟩⟩;have hfl:((zak rows kn).map V.int).all zeo=true:=yaS.mpr fun y hy=>by
  obtain ⟨z,_,rfl⟩:=yaG.mp hy;rfl
 have hfew:=S.stand.few;refine ⟨fun σ' H'=>x∉zak rows kn∧σ'=[some (.ref sh),some (.int kn),some (.int x),some (.ref a),none]∧H=H',?_,?_⟩
 ·refine ⟨_,rfl,_,rfl,a,_,rfl,.inr (SqT.of hrow),rfl,hfl,_,rfl,?_⟩;show if inV (.int x) ((zak rows kn).map V.int)=true then _ else _
  rw[zfL];rcases hc with ⟨hin,e⟩ | ⟨hni,_,_⟩
  ·rw[yal hin];exact iteT ⟨(by show 1≤sizeLine;decide),e⟩
  ·rw[yai hni];exact iteF ⟨hni,rfl,rfl⟩
 rintro _ _ ⟨hni,rfl,rfl⟩;rcases hc with ⟨hin,_⟩ | ⟨_,h300,e⟩
 ·exact absurd hin hni
 refine ⟨fun σ' H1=>False,?_,fun _ _ z=>z.elim⟩;refine ⟨_,rfl,sh,CS,dx,_,_,rfl,S.ins,O.cl,O.n_kept,rfl,_,_,_,_,rfl,rfl,SqT.of S.stand.st,rfl,rs,as,_,rfl,.inr S.stand.rs,zfu S.stand.at_,by rw[yab,S.stand.len];omega,fun H1 s1=>?_⟩;refine ⟨_,_,rfl,rfl,_,rfl,?_⟩;exact zpB (show (300:Int)≤((zbd rows:Nat):Int) by omega) ⟨(by show 1≤sizeLine;decide),e _ s1⟩
def dl (Av:List Addr)(H:Hp):Hp:=fun b=>if b∈Av then none else H b
def KpV (Av:List Addr)(H H':Hp):Prop:=∀ b o,b∉Av→H b=some o→H' b=some o
section
variable {Av:List Addr}{H H':Hp}
theorem zpP {b:Addr}(h:b∉Av):dl Av H b=H b:=if_neg h
theorem zdX:Same (dl Av H) H:=fun b o e=>by
 unfold dl at e;split at e
 ·cases e
 ·exact e
theorem zmp (k:KpV Av H H'):Same (dl Av H) (dl Av H'):=fun b o e=>by
 unfold dl at e ⊢;split at e
 ·cases e
 ·rename_i n;rw[if_neg n];exact k b o n e
theorem zeq {b:Addr}{o:HO}(e:H b=some o)(h:b∉Av):dl Av H b=some o:=by rw[zpP h];exact e
def zhn (Av:List Addr)(H:Hp):Prop:=∀ a∈Av,∀ us,H a≠some (.tup us)
theorem zhn.out (n:zhn Av H){b:Addr}{us:List V}(e:H b=some (.tup us)):b∉Av:=fun z=>n b z us e
theorem zhn.dl (n:zhn Av H){b:Addr}{us:List V}(e:H b=some (.tup us)):dl Av H b=some (.tup us):=zeq e (n.out e)
theorem zhn.tp (n:zhn Av H):Tp H (My.dl Av H):=fun _ _ e=>n.dl e
theorem KpV.of (s:Same H H'):KpV Av H H':=fun c o _ e=>s c o e
end
def optL (ps:List Nat):List (Option Int):=none::ps.map fun (p:Nat)=>some (Int.ofNat p)
theorem zi9 {K:Frag}{H:Hp}(ps:List Nat):zal K H (optL ps) (zbI ps):=by
 refine .cons rfl ?_
 induction ps with
 | nil=>exact .nil
 | cons p ps ih=>exact .cons rfl ih
theorem zgT {K:Frag}{H:Hp}:∀{as:List Addr} {rows:List (List Int)},zaI H as rows→zal K H (rows.map Tup.mk) (as.map V.ref)
 | _,_,.nil=>.nil
 | _,_,.cons h t=>.cons ⟨_,_,rfl,SqT.of h,zal.ints⟩ (zgT t)
abbrev StD:Type:=Tup (Option Int)×Tup (Tup Int)
def zk1 (ps:List Nat)(rows:List (List Int)):StD:=(⟨optL ps⟩,⟨rows.map Tup.mk⟩)
theorem zk0 {K:Frag}{H:Hp}{st t rs:Addr}{ps:List Nat}{rows:List (List Int)}{as:List Addr}(S:zbs H st ps rows t rs as):Rep.has K H (zk1 ps rows) (.ref st):=
 ⟨st,_,_,rfl,S.st,⟨_,_,rfl,SqT.of S.tr,zi9 ps⟩,⟨_,_,rfl,SqT.of S.rs,zgT S.at_⟩⟩
def zoH (ps:List Nat)(rows:List (List Int)):List (List En):=(List.range (ps.length+1)).map (zan ps rows)
theorem zrL {c A B:Prop}[Decidable c](hc:¬ c)(h:A):if (!decide c)=true then A else B:=by
 rw[yai hc];exact h
theorem zqU {L d:Addr}{H':Hp}{p:Addr}{o:List V}(s:LS K L d H')(hp:H' p=some (.tup o)):p≠d:=fun z=>by
 obtain ⟨_,_,_,e,_⟩:=s.ex;rw[← z,hp]at e;cases e
theorem znE {L d:Addr}{H H':Hp}(s:LS K L d H)(k:Keep d H H'):Tp H H':=fun b us e=>k b _ (zqU s e) e
theorem zkN {l:List Int}(h:l.Pairwise (· < ·)):l.Pairwise fun a b=>Srt.blt b a=false:=List.Pairwise.imp (fun {a b} (h:a < b)=>yai (by omega)) h
theorem zi6 {l:List Int}(h:l.Pairwise (· < ·)):l.Nodup:=List.Pairwise.imp (fun {a b} (q:a < b)=>by omega) h
theorem zru {l m:List Int}(h1:l.Pairwise (· < ·))(h2:m.Pairwise (· < ·))(e:∀ x,x∈l↔x∈m):l=m:=by
 have p:=(ycA (zi6 h1) (zi6 h2)).mpr e;rw[zdj p (zkN h1),zld (zkN h2)]
theorem zm5 {row:List Int}{x:Int}(h:row.Pairwise (· < ·))(n:x∉row):zc3 (row++[x])=putR row x:=by
 refine (zdj ?_ (zkN (zow h n))).symm;unfold putR;have:=(ybN (l₁:=[x]) (l₂:=row.drop (loN row x))).append_left (row.take (loN row x));rwa[← yaL,← yaL,yaO]at this
theorem zj8 {row:List Int}{x:Int}(h:row.Pairwise (· < ·))(hx:x∈row):row.filter (fun y=>!decide (y=x))=outR row x:=by
 refine zru (h.sublist List.filter_sublist) (h.sublist (zeC _ _)) fun y=>?_;rw[zlw h hx,ya7];simp
structure zic (K:Frag)(CS mp:Addr)(H H':Hp)(sh dx p D:Addr)(us:List V)(m:Nat)(qs qs':List Addr)(st' t rs':Addr)(as':List Addr)(ps:List Nat)(rows rows':List (List Int))(kn:Nat):Prop where
 stops:zpY ps rows rows' kn m
 new:H D=none
 qn:∀ q∈qs',q∈qs∨H q=none
 kd:Kd sh p mp H H'
 shelf:zaF K CS H' sh dx st' p qs' ps rows' t rs' as'
 tab:zbc H' mp zcy lamQ
 at_:H' D=some (.lst us)
 told:zbH K H' D (fun b=>H b=none∧b∉qs') (zf6 ps rows rows' kn m) us
section
variable {K:Frag}{CS mp:Addr}{H H':Hp}{sh dx p D:Addr}{us:List V}{m:Nat}{qs qs':List Addr}{st' t rs':Addr}{as':List Addr}{ps:List Nat}{rows rows':List (List Int)}{kn:Nat}{Av:List Addr}
theorem zic.kp (X:zic K CS mp H H' sh dx p D us m qs qs' st' t rs' as' ps rows rows' kn)(h1:sh∈Av)(h2:p∈Av)(h3:mp∈Av):KpV Av H H':=fun b o n e=>X.kd b o (fun z=>n (z ▸ h1)) (fun z=>n (z ▸ h2)) (fun z=>n (z ▸ h3)) e
theorem zaF.same (S:zaF K CS H sh dx st' p qs ps rows t rs' as')(s:Same H H'):zaF K CS H' sh dx st' p qs ps rows t rs' as':=⟨s _ _ S.own,s _ _ S.ins,S.stand.same s,S.full.ext s.ext⟩
theorem zaF.ext (S:zaF K CS H sh dx st' p qs ps rows t rs' as')(e:Ext H H'):zaF K CS H' sh dx st' p qs ps rows t rs' as':=⟨e _ _ S.own (fun _ z=>nomatch z),e _ _ S.ins (fun _ z=>nomatch z),zcq (fun b us h=>e _ _ h (fun _ z=>nomatch z)) S.stand,S.full.ext e⟩
theorem zaF.dl (S:zaF K CS H sh dx st' p qs ps rows t rs' as')(A:zhn Av H)(h1:sh∉Av)(h2:dx∉Av)(h3:p∉Av)(h4:∀ q∈qs,q∉Av):zaF K CS (dl Av H) sh dx st' p qs ps rows t rs' as':=by
 refine ⟨zeq S.own h2,zeq S.ins h1,zcq A.tp S.stand,zeq S.full.at_ h3,S.full.len,S.full.nd,S.full.np,fun j q hq=>?_⟩;obtain ⟨ws,g1,g2⟩:=S.full.get j q hq;exact ⟨ws,zeq g1 (h4 q (yaD hq)),zbA A.tp g2⟩
end
def Kp0 (H H':Hp):Prop:=∀ b o,(∀ tab,o≠.tbl tab)→H b=some o→H' b=some o
theorem zqV {L d:Addr}{H H':Hp}(s:LS K L d H)(g:Kp0 H H'):LS K L d H':=by
 obtain ⟨ns,a,l,e,q⟩:=s.ex;refine ⟨ns,a,l,g _ _ (fun _ z=>nomatch z) e,?_⟩;rcases q with (q | ⟨o,q⟩) | q
 ·exact .inl (.inl (g _ _ (fun _ z=>nomatch z) q))
 ·exact .inl (.inr ⟨o,g _ _ (fun _ z=>nomatch z) q⟩)
 ·exact .inr q
theorem ziD {L d:Addr}{Bv:List Addr}{H H':Hp}(s:LS K L d (dl Bv H))(k:Keep d H H')(s':LS K L d H'):LS K L d (dl Bv H'):=by
 obtain ⟨ns,a,l,e,q⟩:=s.ex;obtain ⟨ns',a',l',e',_⟩:=s'.ex;have nd:d∉Bv:=fun z=>by
  unfold dl at e;rw[if_pos z]at e;cases e
 have k':Keep d (dl Bv H) (dl Bv H'):=fun b o n h=>by
  unfold dl at h ⊢;split at h
  ·cases h
  ·rename_i nb;rw[if_neg nb];exact k b o n h
 exact ⟨ns,a',l',zeq e' nd,ze6 e k' q⟩
theorem zkk {K:Frag}{CS:Addr}{H:Hp}{sh dx st:Addr}{ps:List Nat}{rows:List (List Int)}{t rs:Addr}{as:List Addr}{Q:VK}{E:XK}(S:zbs H st ps rows t rs as)(hsh:H sh=none)(hdx:H dx=none)(hne:dx≠sh)
  (q:∀(p:Addr) (qs:List Addr) (H':Hp),H p=none→(∀ q∈qs,H q=none)→Same H H'→zaF K CS H' sh dx st p qs ps rows t rs as→Q .non H'):zk9 K CS [.ref sh,.ref st] (upd (upd H dx (.own sh)) sh (.ins CS dx [])) Q E:=by
 have s1:=zaf hdx (.own sh);have hsh1:upd H dx (.own sh) sh=none:=by rw[zag (Ne.symm hne)];exact hsh
 have s2:=zaf hsh1 (.ins CS dx []);have s12:=s1.trans s2;refine ⟨sh,dx,st,ps,rows,t,rs,as,rfl,s2 _ _ zab,zab,S.same s12,fun p qs H' hp hq hb S'=>?_⟩;exact q p qs H' (s12.free hp) (fun x hx=>s12.free (hq x hx)) (fun b o e=>hb b o (zac e hsh) (s12 _ _ e)) S'
inductive zmN (K:Frag)(H:Hp)(ps:List Nat)(rows:List (List Int)):V→V→Nat→Prop where
 | room (kn:Nat) (k:Int) (h1:kn < ps.length+1) (h2:zib k) (h3:k∉zak rows kn) (h4:300≤zbd rows):zmN K H ps rows (.int kn) (.int k) 0
 | twice (kn:Nat) (k:Int) (h1:kn < ps.length+1) (h2:zib k) (h3:k∈zak rows kn):zmN K H ps rows (.int kn) (.int k) 1
 | knot (x y:V) (h1:AnyV K H x) (h2:zfP (ps.length+1) x=false):zmN K H ps rows x y 2
 | key (kn:Nat) (y:V) (h1:kn < ps.length+1) (h2:zi1 K H y false):zmN K H ps rows (.int kn) y 3
structure ClsF (K:Frag)(os:List Addr)(c0 c1 c2 c3 C:Addr)(c:Nat):Prop where
 x:ExcC K C
 v:kitOne K (.ref C) (.type "ValueError")=some true
 o:∀ o∈os,kitOne K (.ref C) (.ref o)=some false
 k0:kitOne K (.ref C) (.ref c0)=some (decide (c=0))
 k1:kitOne K (.ref C) (.ref c1)=some (decide (c=1))
 k2:kitOne K (.ref C) (.ref c2)=some (decide (c=2))
 k3:kitOne K (.ref C) (.ref c3)=some (decide (c=3))
def zlj:Nat→Str
 | 0 => "no room"
 | 1 => "twice"
 | 2 => "no knot"
 | _ => "no key"
def zqg (K:Frag)(CS mp CK CY CT CR:Addr):Sp:=fun vs H Q E=>zjl K CS mp putR zps vs H Q E∨zom K CS CK CY CT CR vs H Q E
def zol (K:Frag)(CS mp:Addr):Sp:=fun vs H Q _=>∃(sh dx st p:Addr) (x y:V) (qs:List Addr) (ps:List Nat) (rows:List (List Int)) (t rs:Addr) (as:List Addr),vs=[.ref sh,x,y]∧zaF K CS H sh dx st p qs ps rows t rs as∧zbc H mp zcy lamQ∧
 ((∃ c,zmN K H ps rows x y c∧∀ H',Same H H'→Q (.str (zlj c)) H')∨∃(kn:Nat) (k:Int),x=.int kn∧y=.int k∧kn < ps.length+1∧zib k∧zps rows kn k∧
  ∀(D:Addr) (us:List V) (m:Nat) (qs':List Addr) (st' rs':Addr) (as':List Addr) (H':Hp),zic K CS mp H H' sh dx p D us m qs qs' st' t rs' as' ps rows (rows.set kn (putR (zak rows kn) k)) kn→Q (.str "put") H')
theorem zl2 {K:Frag}{C:Addr}:∀{os:List Addr},(∀ o∈os,kitOne K (.ref C) (.ref o)=some false)→PySem.W.kitAny K (.ref C) (os.map Value.ref)=some false
 | [],_=>rfl
 | o::os,h=>by
  have h1:=h o yaF;have h2:=zl2 (os:=os) fun x hx=>h x (yax _ hx);simp only[List.map,PySem.W.kitAny,h1,h2]
theorem zhl {C_BridgeError C_NoTree C_NoWay C_NoStand C_Twice C_Missing C_NoRoom C_NoKnot C_NoKey C_NoOrder C_NoRow C_NoText C_Shelf:Addr}(CL:Cls K mg C_BridgeError C_NoTree C_NoWay C_NoStand C_Twice C_Missing C_NoRoom C_NoKnot C_NoKey C_NoOrder C_NoRow C_NoText C_Shelf)(c:Nat)(hc:c < 4):∃ C,ClsF K [C_Missing,C_NoOrder,C_NoRow,C_NoStand,C_NoText,C_NoTree,C_NoWay] C_NoRoom C_Twice C_NoKnot C_NoKey C c∧zdY K C C_BridgeError∧(c=0→C=C_NoRoom)∧(c=1→C=C_Twice)∧(c=2→C=C_NoKnot)∧(c=3→C=C_NoKey):=by
 have all:∀{P:Addr→Prop},P C_Missing→P C_NoOrder→P C_NoRow→P C_NoStand→P C_NoText→P C_NoTree→P C_NoWay→∀ o∈[C_Missing,C_NoOrder,C_NoRow,C_NoStand,C_NoText,C_NoTree,C_NoWay],P o:=fun h1 h2 h3 h4 h5 h6 h7 o ho=>by
  simp only[yam,ybe,or_false]at ho;rcases ho with rfl | rfl | rfl | rfl | rfl | rfl | rfl <;> assumption
 rcases c with _ | _ | _ | _ | c
 ·exact ⟨C_NoRoom,⟨CL.x_NoRoom,CL.v_NoRoom,all CL.k_NoRoom_Missing CL.k_NoRoom_NoOrder CL.k_NoRoom_NoRow CL.k_NoRoom_NoStand CL.k_NoRoom_NoText CL.k_NoRoom_NoTree CL.k_NoRoom_NoWay,CL.k_NoRoom_NoRoom,CL.k_NoRoom_Twice,CL.k_NoRoom_NoKnot,CL.k_NoRoom_NoKey⟩,CL.h_NoRoom,fun _=>rfl,(fun z=>nomatch z),(fun z=>nomatch z),(fun z=>nomatch z)⟩
 ·exact ⟨C_Twice,⟨CL.x_Twice,CL.v_Twice,all CL.k_Twice_Missing CL.k_Twice_NoOrder CL.k_Twice_NoRow CL.k_Twice_NoStand CL.k_Twice_NoText CL.k_Twice_NoTree CL.k_Twice_NoWay,CL.k_Twice_NoRoom,CL.k_Twice_Twice,CL.k_Twice_NoKnot,CL.k_Twice_NoKey⟩,CL.h_Twice,(fun z=>nomatch z),fun _=>rfl,(fun z=>nomatch z),(fun z=>nomatch z)⟩
 ·exact ⟨C_NoKnot,⟨CL.x_NoKnot,CL.v_NoKnot,all CL.k_NoKnot_Missing CL.k_NoKnot_NoOrder CL.k_NoKnot_NoRow CL.k_NoKnot_NoStand CL.k_NoKnot_NoText CL.k_NoKnot_NoTree CL.k_NoKnot_NoWay,CL.k_NoKnot_NoRoom,CL.k_NoKnot_Twice,CL.k_NoKnot_NoKnot,CL.k_NoKnot_NoKey⟩,CL.h_NoKnot,(fun z=>nomatch z),(fun z=>nomatch z),fun _=>rfl,(fun z=>nomatch z)⟩
 ·exact ⟨C_NoKey,⟨CL.x_NoKey,CL.v_NoKey,all CL.k_NoKey_Missing CL.k_NoKey_NoOrder CL.k_NoKey_NoRow CL.k_NoKey_NoStand CL.k_NoKey_NoText CL.k_NoKey_NoTree CL.k_NoKey_NoWay,CL.k_NoKey_NoRoom,CL.k_NoKey_Twice,CL.k_NoKey_NoKnot,CL.k_NoKey_NoKey⟩,CL.h_NoKey,(fun z=>nomatch z),(fun z=>nomatch z),(fun z=>nomatch z),fun _=>rfl⟩
 ·omega
def zf8 (c:Nat):List Bool:=[decide (c=0),decide (c=1),decide (c=2),decide (c=3)]
theorem zlk {c:Nat}(h:c < 4):(zf8 c).filter id=[true]∧(zf8 c)[c]?=some true∧(∀ j,j < c→(zf8 c)[j]?≠some true)∧atI [V.str "no room",.str "twice",.str "no knot",.str "no key"] (c:Int)=some (.str (zlj c)):=by
 rcases c with _ | _ | _ | _ | c
 ·exact ⟨rfl,rfl,(fun j hj=>by omega),rfl⟩
 ·refine ⟨rfl,rfl,fun j hj=>?_,rfl⟩;have:j=0:=by omega
  subst this;decide
 ·refine ⟨rfl,rfl,fun j hj=>?_,rfl⟩;rcases j with _ | _ | j
  ·decide
  ·decide
  ·omega
 ·refine ⟨rfl,rfl,fun j hj=>?_,rfl⟩;rcases j with _ | _ | _ | j
  ·decide
  ·decide
  ·decide
  ·omega
 ·omega
theorem zh3 {K:Frag}{H:Hp}:∀{bs:List Bool},zal K H bs (bs.map V.bl)
 | []=>.nil
 | _::_=>.cons rfl zh3
theorem zpl (T:Txt K mg){C_BridgeError C_NoTree C_NoWay C_NoStand C_Twice C_Missing C_NoRoom C_NoKnot C_NoKey C_NoOrder C_NoRow C_NoText C_Shelf:Addr}(CL:Cls K mg C_BridgeError C_NoTree C_NoWay C_NoStand C_Twice C_Missing C_NoRoom C_NoKnot C_NoKey C_NoOrder C_NoRow C_NoText C_Shelf){mp:Addr}{CS:Addr}(O:OwnC K mg CS)(D_l_said:DF K mg "_law_said" zfc zeg)(F_Shelf_put:FMX P w K mg base CS 8 "put" zbu (zqg K CS mp C_NoKnot C_NoKey C_Twice C_NoRoom)):FC P w K mg base 9 "_law_said" zeg (zol K CS mp):=by
 refine D_l_said.ok sc_l_said (fun vs H Q E h=>?_) (fun f cdv A outer s H vs Q E hr h=>?_)
 ·obtain ⟨sh,dx,st,p,x,y,qs,ps,rows,t,rs,as,rfl,_⟩:=h;rfl
 obtain ⟨sh,dx,st,p,x,y,qs,ps,rows,t,rs,as,rfl,S,hT,hc⟩:=h;refine ⟨_,(zaj (zar (i:=3) sc_l_said.nd rfl (Or.inl rfl) zgn)
   (zay (zo8 (i:=4) (zll F_Shelf_put O.cl hr (pv 0) (zaa (pv 1) (zaa (pv 2) zad))) rfl rfl sc_l_said.nd rfl rfl CL.n_BridgeError rfl (fun _=>(zae (zar (i:=3) sc_l_said.nd rfl (Or.inl rfl) (pv 4)))))
   (zay (zaY (zat zqF (pv 3) zgn (zaH _)) (zae (zas zaQ)) zaw)
   (zay (zaY (zc6 (zcu (zam zcM rfl T.m_isinstance boot_isinstance (zaa (pv 3) (zaa (zcW (v:=.ty "ValueError") rfl T.m_ValueError (by decide +kernel) rfl) zad))))) (zae (zas zaQ)) zaw)
   (zay (zaY (zcu (zam zcM rfl T.m_isinstance boot_isinstance (zaa (pv 3) (zaa (zbz (zaa (zbY (v:=.ref C_Missing) rfl CL.n_Missing rfl) (zaa (zbY (v:=.ref C_NoOrder) rfl CL.n_NoOrder rfl) (zaa (zbY (v:=.ref C_NoRow) rfl CL.n_NoRow rfl) (zaa (zbY (v:=.ref C_NoStand) rfl CL.n_NoStand rfl) (zaa (zbY (v:=.ref C_NoText) rfl CL.n_NoText rfl) (zaa (zbY (v:=.ref C_NoTree) rfl CL.n_NoTree rfl) (zaa (zbY (v:=.ref C_NoWay) rfl CL.n_NoWay rfl) zad)))))))) zad)))) (zae (zas zaQ)) zaw)
   (zaj (zar (i:=5) sc_l_said.nd rfl (Or.inl rfl) (zbi (zaa (zam zcM rfl T.m_isinstance boot_isinstance (zaa (pv 3) (zaa (zbY (v:=.ref C_NoRoom) rfl CL.n_NoRoom rfl) zad))) (zaa (zam zcM rfl T.m_isinstance boot_isinstance (zaa (pv 3) (zaa (zbY (v:=.ref C_Twice) rfl CL.n_Twice rfl) zad))) zad))))
   (zaj (zar (i:=5) sc_l_said.nd rfl (Or.inl rfl) (zav zoC (pv 5) (zbi (zaa (zam zcM rfl T.m_isinstance boot_isinstance (zaa (pv 3) (zaa (zbY (v:=.ref C_NoKnot) rfl CL.n_NoKnot rfl) zad))) (zaa (zam zcM rfl T.m_isinstance boot_isinstance (zaa (pv 3) (zaa (zbY (v:=.ref C_NoKey) rfl CL.n_NoKey rfl) zad))) zad)))))
   (zay (zaY (zat zka (zam zao rfl T.m_len boot_len (zaa (zbZ (N:=["_law_one"]) (own:=1) (cap:=[]) rfl (zcV (pv 5)) ⟨rfl,rfl,rfl,rfl,rfl,rfl⟩ (fun _ _ _ _ _=>(zaz (i:=0) (show List.Nodup (["_law_one"]:List Str) by decide +kernel) rfl (Or.inl rfl))) (fun _ _ _ _ _=>(zeA (zcu (pv 0)))) (fun _ _ _ _ _=>(pv 0))) zad)) zai (zaH _)) (zae (zas zaQ)) zaw)
   (zae (zas (zaR za1 (zbi (zaa zaQ (zaa zaQ (zaa zaQ (zaa zaQ zad))))) (zgZ F.plainAttrs_list F.slot_list_index F.type_list_index (zlK Bool (huD hr)) (pv 5) (zaa zf9 zad)) (fun _ _=>rfl)))))))))))),?_⟩
 refine ⟨fun σ' H'=>(∃ a C c,σ'=[some (.ref sh),some x,some y,some (.ref a),none,none]∧c < 4∧H' a=some (zhW a (.ref C))∧ClsF K [C_Missing,C_NoOrder,C_NoRow,C_NoStand,C_NoText,C_NoTree,C_NoWay] C_NoRoom C_Twice C_NoKnot C_NoKey C c∧Same H H'∧∀ H',Same H H'→Q (.str (zlj c)) H')∨(σ'=[some (.ref sh),some x,some y,some .non,none,none]∧Q (.str "put") H'),?_,?_⟩
 ·rcases hc with ⟨c,hR,q⟩ | ⟨kn,k,rfl,rfl,hk,hx,hok,q⟩
  ·refine ⟨_,rfl,sh,dx,_,rfl,S.ins,rfl,_,rfl,_,rfl,.inr ?_⟩;cases hR with
   | room kn k h1 h2 h3 h4=>
    obtain ⟨C,F,hC,e0,e1,e2,e3⟩:=zhl CL 0 (by decide);cases e0 rfl
    exact .inr ⟨sh,dx,st,p,kn,k,qs,ps,rows,t,rs,as,rfl,S,h1,h2,.inr ⟨h3,h4,fun H' s'=>⟨_,rfl,hC,fun a ha=>⟨_,rfl,.inl ⟨a,_,0,rfl,by decide,zab,F,s'.trans (zaf ha _),q⟩⟩⟩⟩⟩
   | twice kn k h1 h2 h3=>
    obtain ⟨C,F,hC,e0,e1,e2,e3⟩:=zhl CL 1 (by decide);cases e1 rfl
    exact .inr ⟨sh,dx,st,p,kn,k,qs,ps,rows,t,rs,as,rfl,S,h1,h2,.inl ⟨h3,⟨_,rfl,hC,fun a ha=>⟨_,rfl,.inl ⟨a,_,1,rfl,by decide,zab,F,zaf ha _,q⟩⟩⟩⟩⟩
   | knot _ _ h1 h2=>
    obtain ⟨C,F,hC,e0,e1,e2,e3⟩:=zhl CL 2 (by decide);cases e2 rfl
    exact .inl ⟨sh,dx,st,p,x,y,qs,ps,rows,t,rs,as,rfl,S,.inl ⟨h1,h2,⟨_,rfl,hC,fun a ha=>⟨_,rfl,.inl ⟨a,_,2,rfl,by decide,zab,F,zaf ha _,q⟩⟩⟩⟩⟩
   | key kn _ h1 h2=>
    obtain ⟨C,F,hC,e0,e1,e2,e3⟩:=zhl CL 3 (by decide);cases e3 rfl
    exact .inl ⟨sh,dx,st,p,.int kn,y,qs,ps,rows,t,rs,as,rfl,S,.inr ⟨kn,rfl,h1,h2,⟨_,rfl,hC,fun a ha=>⟨_,rfl,.inl ⟨a,_,3,rfl,by decide,zab,F,zaf ha _,q⟩⟩⟩⟩⟩
  ·refine ⟨_,rfl,sh,dx,_,rfl,S.ins,rfl,_,rfl,_,rfl,.inl ⟨sh,dx,st,p,kn,k,qs,ps,rows,t,rs,as,rfl,S,hk,hx,hok,hT,fun D us m qs' st' rs' as' H' h1 h2 h3 h4 h5 h6 h7 h8=>.inr ⟨rfl,?_⟩⟩⟩;exact q D us m qs' st' rs' as' H' ⟨h1,h2,h3,h4,h5,h6,h7,h8⟩
 rintro σ' H1 (⟨a,C,c,rfl,hc4,ha,F,s1,q⟩ | ⟨rfl,q⟩)
 ·refine ⟨fun σ' H'=>σ'=[some (.ref sh),some x,some y,some (.ref a),none,none]∧H1=H',⟨_,rfl,rfl,_,rfl,iteF ⟨rfl,rfl⟩⟩,?_⟩;rintro _ _ ⟨rfl,rfl⟩;refine ⟨fun σ' H'=>σ'=[some (.ref sh),some x,some y,some (.ref a),none,none]∧H1=H',⟨_,rfl,a,C,_,true,rfl,ha,F.x,.inr (.inl ⟨_,rfl,F.v⟩),_,rfl,iteF ⟨rfl,rfl⟩⟩,?_⟩;rintro _ _ ⟨rfl,rfl⟩;refine ⟨fun σ' H'=>σ'=[some (.ref sh),some x,some y,some (.ref a),none,none]∧Same H1 H',?_,?_⟩
  ·refine ⟨_,rfl,(by show 7≤sizeLine;decide),fun tp htp=>?_⟩;have st:=zaf htp (.tup [.ref C_Missing,.ref C_NoOrder,.ref C_NoRow,.ref C_NoStand,.ref C_NoText,.ref C_NoTree,.ref C_NoWay]);exact ⟨a,C,_,false,rfl,st _ _ ha,F.x,.inr (.inr ⟨tp,[C_Missing,C_NoOrder,C_NoRow,C_NoStand,C_NoText,C_NoTree,C_NoWay],rfl,zab,zl2 F.o⟩),_,rfl,iteF ⟨rfl,st⟩⟩
  rintro _ H2 ⟨rfl,s2⟩;have ha2:=s2 _ _ ha;refine ⟨_,rfl,a,C,_,_,rfl,ha2,F.x,.inl ⟨_,rfl,F.k0⟩,_,rfl,a,C,_,_,rfl,ha2,F.x,.inl ⟨_,rfl,F.k1⟩,(by show 2≤sizeLine;decide),fun l1 hl1=>?_⟩;have s3:=zaf hl1 (.lst [.bl (decide (c=0)),.bl (decide (c=1))]);have h3:upd H2 l1 (.lst [.bl (decide (c=0)),.bl (decide (c=1))]) l1=some (.lst [.bl (decide (c=0)),.bl (decide (c=1))]):=zab;generalize upd H2 l1 (.lst [.bl (decide (c=0)),.bl (decide (c=1))])=H3 at s3 h3 ⊢;have ha3:=s3 _ _ ha2;refine ⟨_,rfl,_,rfl,a,C,_,_,rfl,ha3,F.x,.inl ⟨_,rfl,F.k2⟩,_,rfl,a,C,_,_,rfl,ha3,F.x,.inl ⟨_,rfl,F.k3⟩,(by show 2≤sizeLine;decide),fun l2 hl2=>?_⟩;have s4:=zaf hl2 (.lst [.bl (decide (c=2)),.bl (decide (c=3))]);have h4:upd H3 l2 (.lst [.bl (decide (c=2)),.bl (decide (c=3))]) l2=some (.lst [.bl (decide (c=2)),.bl (decide (c=3))]):=zab;generalize upd H3 l2 (.lst [.bl (decide (c=2)),.bl (decide (c=3))])=H4 at s4 h4 ⊢;refine ⟨l1,l2,_,_,rfl,rfl,s4 _ _ h3,h4,(by show 4≤sizeLine;decide),fun l3 hl3=>?_⟩;have s5:=zaf hl3 (.lst ((zf8 c).map V.bl));have h5:upd H4 l3 (.lst ((zf8 c).map V.bl)) l3=some (.lst ((zf8 c).map V.bl)):=zab;change zp7 _ _ _ _ (upd H4 l3 (.lst ((zf8 c).map V.bl)));generalize upd H4 l3 (.lst ((zf8 c).map V.bl))=H5 at s5 h5 ⊢;obtain ⟨b1,b2,b3,b4⟩:=zlk hc4;have hbl:(zf8 c).length=4:=rfl;generalize zf8 c=bs at b1 b2 b3 hbl h5;refine ⟨fun σ' H'=>σ'=[some (.ref sh),some x,some y,some (.ref a),none,some (.ref l3)]∧Same H5 H',?_,?_⟩
  ·refine ⟨_,rfl,l3,rfl,⟨_,SqL.of h5⟩,fun D hD=>?_⟩;refine zbF (xs:=bs.map V.bl) (fun i σ H6=>∃ x0:Option V,σ=[x0]∧H6 D=some (.lst (((bs.take i).filter id).map V.bl))∧But D H5 H6) ?_ ?_ ?_ ?_
   ·exact ⟨_,rfl,zab,fun b o n e=>by rw[zag n];exact e⟩
   ·rintro i σ H6 _ ⟨x0,rfl,_,k6⟩;exact SqL.of (k6 _ _ (zac h5 hD) h5)
   ·rintro i m v σ H6 hv hm ⟨x0,rfl,h6,k6⟩;rw[yab]at hm;rw[yap]at hv;obtain ⟨b,hb,rfl⟩:=ybl.mp hv;obtain ⟨hi,rfl⟩:=yak.mp hb;have hfl:=ya6 id (bs.take i);rw[yan]at hfl;rw[yaM hi,ybg];refine ⟨_,rfl,_,rfl,?_⟩;cases hbi:bs[i] with
    | false=>
     refine iteF ⟨m - 1,by omega,by rw[yab];omega,_,rfl,?_,k6⟩;rw[show [false].filter id=[] from rfl,yay];exact h6
    | true=>
     refine iteT ⟨_,rfl,_,h6,zaq (by rw[yab];omega),m - 1,by omega,by rw[yab];omega,_,rfl,?_,fun b o n e=>by rw[zag n];exact k6 b o n e⟩;rw[zab,show [true].filter id=[true] from rfl,yat];rfl
   ·rintro σ H6 ⟨x0,rfl,h6,k6⟩;rw[yab,yas (yaa _),b1]at h6;refine ⟨_,_,rfl,.inl (SqL.of h6),rfl,_,rfl,?_⟩;exact zfJ rfl ⟨rfl,fun b o e=>k6 b o (zac e hD) e⟩
  rintro _ H6 ⟨rfl,s6⟩;refine ⟨(by show 4≤sizeLine;decide),fun l4 hl4=>?_⟩;have s7:=zaf hl4 (.lst [.str "no room",.str "twice",.str "no knot",.str "no key"]);have h7:upd H6 l4 (.lst [.str "no room",.str "twice",.str "no knot",.str "no key"]) l4=some (.lst [.str "no room",.str "twice",.str "no knot",.str "no key"]):=zab;generalize upd H6 l4 (.lst [.str "no room",.str "twice",.str "no knot",.str "no key"])=H7 at s7 h7 ⊢;have h57:=s7 _ _ (s6 _ _ h5);refine ⟨_,rfl,.inl ⟨rfl,_,SqL.of h57⟩,l3,_,bs,true,.bl true,c,rfl,rfl,h57,zh3,rfl,by omega,b2,b3,?_⟩;refine ⟨_,_,_,_,rfl,rfl,SqL.of h7,b4,?_⟩;exact q _ (s1.trans (s2.trans (s3.trans (s4.trans (s5.trans (s6.trans s7))))))
 ·refine ⟨fun _ _=>False,?_,fun _ _ z=>z.elim⟩;exact ⟨_,rfl,rfl,_,rfl,iteT q⟩
structure LI (H:Hp)(p:Addr)(qs:List Addr)(rows:List (List Int)):Prop where
 at_:H p=some (.lst (qs.map V.ref))
 len:qs.length=rows.length
 nd:qs.Nodup
 np:p∉qs
 get:∀ j q,qs[j]?=some q→H q=some (.lst ((zak rows j).map V.int))
theorem LI.put {H:Hp}{p:Addr}{qs:List Addr}{rows:List (List Int)}{k:Nat}{q:Addr}{x:Int}(h:LI H p qs rows)(hk:qs[k]?=some q):LI (upd H q (.lst ((zak rows k).map V.int++[.int x]))) p qs (rows.set k (zak rows k++[x])):=by
 have hq:=h.get k q hk;have hqp:p≠q:=fun z=>h.np (z ▸ yaD hk);have hkl:=(yak.mp hk).1;refine ⟨by rw[zag hqp];exact h.at_,by rw[ybx];exact h.len,h.nd,h.np,fun j q2 hj=>?_⟩;by_cases c:j=k
 ·subst c;rw[hk]at hj;cases hj
  rw[zab,zcF (by rw[← h.len];exact hkl),yat];rfl
 ·have hne:q2≠q:=fun z=>by
   subst z;obtain ⟨i1,e1⟩:=yak.mp hj;obtain ⟨i2,e2⟩:=yak.mp hk;have old:=ybd.mp h.nd;rcases Nat.lt_or_gt_of_ne c with z | z
   ·exact old j k i1 i2 z (e1.trans e2.symm)
   ·exact old k j i2 i1 z (e2.trans e1.symm)
  rw[zag hne,zeM (rows:=rows) (kn:=k) (r:=zak rows k++[x]) j c];exact h.get j q2 hj
theorem LI.snoc {H:Hp}{p E:Addr}{qs:List Addr}{rows:List (List Int)}(h:LI H p qs rows)(hE:H E=none):LI (upd (upd H E (.lst [])) p (.lst (qs.map V.ref++[.ref E]))) p (qs++[E]) (rows++[[]]):=by
 have s1:=zaf hE (.lst []);have e1:upd H E (.lst []) E=some (.lst []):=zab;have nEp:E≠p:=fun z=>by rw[z,h.at_]at hE;cases hE
 have nq:E∉qs:=fun z=>by
  obtain ⟨i,hi,ei⟩:=yaR z;have w1:=h.get i E (by rw[yac hi,ei]);rw[hE]at w1;cases w1
 have hl:=h.len;refine ⟨by rw[zab,yat];rfl,by rw[yaq,yaq,hl];rfl,?_,?_,fun j q hj=>?_⟩
 ·rw[ya5];exact ⟨h.nd,yaV.mpr ⟨(fun z=>nomatch z),ybq⟩,fun a ha b hb e=>nq ((e.trans (yag.mp hb)) ▸ ha)⟩
 ·intro z;rcases yaj.mp z with y | y
  ·exact h.np y
  ·exact nEp (yag.mp y).symm
 ·rcases ybD j qs.length with c | c
  ·rw[yba c]at hj;have hne:q≠p:=fun z=>h.np (z ▸ yaD hj);have er:zak (rows++[[]]) j=zak rows j:=by
    unfold zak;rw[yae,yba (by omega),yae]
   rw[zag hne,er];exact s1 _ _ (h.get j q hj)
  ·rw[ya3 c]at hj;have hj0:j - qs.length=0:=by
    have:=(yak.mp hj).1;rw[ybc]at this;omega
   rw[hj0]at hj;cases hj
   have er:zak (rows++[[]]) j=[]:=by
    unfold zak;rw[yae,ya3 (by omega),show j - rows.length=0 by omega];rfl
   rw[zag nEp,er];exact e1
theorem LI.ext {H H':Hp}{p:Addr}{qs:List Addr}{rows:List (List Int)}(h:LI H p qs rows)(e:Ext H H'):LI H' p qs rows:=⟨e _ _ h.at_ (fun _ z=>nomatch z),h.len,h.nd,h.np,fun j q hj=>e _ _ (h.get j q hj) (fun _ z=>nomatch z)⟩
def Low (rows:List (List Int))(b:Int):Prop:=∀ k,(zak rows k).Pairwise (· < ·)∧∀ y∈zak rows k,-500≤y∧y < b
theorem Low.put {rows:List (List Int)}{b x:Int}{kn:Nat}(h:Low rows b)(hk:kn < rows.length)(h1:b≤x)(h2:-500≤x):Low (rows.set kn (zak rows kn++[x])) (x+1):=fun k=>by
 by_cases c:k=kn
 ·subst c;rw[zcF hk];obtain ⟨u,v⟩:=h k;refine ⟨yaE.mpr ⟨u,ycq _ _,fun a ha y hy=>?_⟩,fun y hy=>?_⟩
  ·rw[yag.mp hy];have:=(v a ha).2;omega
  ·rcases yaj.mp hy with z | z
   ·have:=v y z;omega
   ·rw[yag.mp z];omega
 ·rw[zeM (rows:=rows) (kn:=kn) (r:=zak rows kn++[x]) k c];exact ⟨(h k).1,fun y hy=>by have:=(h k).2 y hy;omega⟩
theorem zlU {rows:List (List Int)}{row:List Int}(h:row∈rows):∃ k,zak rows k=row:=by
 obtain ⟨k,hk,rfl⟩:=yaR h;exact ⟨k,by unfold zak;rw[yae,yac hk];rfl⟩
theorem Low.ok {rows:List (List Int)}{b:Int}(h:Low rows b)(hb:b≤1000):zaK rows:=by
 refine ⟨fun r hr=>?_,fun r hr=>?_⟩
 ·obtain ⟨k,rfl⟩:=zlU hr
  first | exact (h k).1 | exact fun y hy=>by have:=(h k).2 y hy;constructor <;> omega
 ·obtain ⟨k,rfl⟩:=zlU hr
  first | exact (h k).1 | exact fun y hy=>by have:=(h k).2 y hy;constructor <;> omega
def zjk (K:Frag):Sp:=fun vs H Q _=>∃(d L t:Addr) (ps:List Nat),vs=[.ref d,.ref t]∧H t=some (.tup (zbI ps))∧ps.length≤20∧LS K L d H∧
 ∀(R:Addr) (as:List Addr) (rows:List (List Int)) (H':Hp),H R=none→H' R=some (.lst (as.map V.ref))→zaI H' as rows→rows.length=ps.length+1→zaK rows→zbd rows≤300→Keep d H H'→LS K L d H'→Q (.ref R) H'
theorem zlI (T:Txt K mg)(D_l_filled:DF K mg "_law_filled" zdm zcT)(F_l_take:FC P w K mg base 2 "_law_take" zce (zhz K)):FC P w K mg base 3 "_law_filled" zcT (zjk K):=by
 refine D_l_filled.ok sc_l_filled (fun vs H Q E h=>?_) (fun f cdv A outer s H vs Q E hr h=>?_)
 ·obtain ⟨d,L,t,ps,rfl,_⟩:=h;rfl
 obtain ⟨d,L,t,ps,rfl,ht,hps,hs,q⟩:=h;refine ⟨_,(zaj (zar (i:=2) sc_l_filled.nd rfl (Or.inl rfl) (zav zbC zai (zax F_l_take hr (zaa (pv 0) (zaa zai zad)))))
   (zaj (zar (i:=3) sc_l_filled.nd rfl (Or.inl rfl) (zax F_l_take hr (zaa (pv 0) (zaa zai zad))))
   (zaj (zar (i:=4) sc_l_filled.nd rfl (Or.inl rfl) (zax F_l_take hr (zaa (pv 0) (zaa (zam zao rfl T.m_len boot_len (zaa (pv 1) zad)) zad))))
   (zaj (zfw (i:=5) (N:=["_law_knot"]) (own:=1) (cap:=[]) sc_l_filled.nd rfl rfl rfl (zgm (pv 1)) ⟨rfl,rfl,rfl,rfl,rfl,rfl⟩ (fun _ _ _ _ _=>(zaz (i:=0) (show List.Nodup (["_law_knot"]:List Str) by decide +kernel) rfl (Or.inl rfl))) (fun _ _ _ _ _=>zcd) (fun _ _ _ _ _=>(zbi zad)))
   (zaj (zcf PassesOwn.never rfl (zcg rfl T.m_range (zaa (pv 2) zad)) (zaz (i:=6) sc_l_filled.nd rfl (Or.inl rfl)) (zaj (zar (i:=7) sc_l_filled.nd rfl (Or.inl rfl) (zaR za1 (zbi (zaa (zav zdI (pv 6) (zam zao rfl T.m_len boot_len (zaa (pv 1) zad))) (zaa (pv 4) zad))) (pv 3) (fun _ _=>rfl)))
   (zay (zaY (zat zga (pv 6) (zam zao rfl T.m_len boot_len (zaa (pv 1) zad)) (zaH _)) (zae (zar (i:=7) sc_l_filled.nd rfl (Or.inl rfl) (pv 6))) zaw)
   (zae (zby (zgZ F.plainAttrs_list F.slot_list_append F.type_list_append zbU (zaR za1 (pv 5) (pv 7) (fun _ _=>rfl)) (zaa (zav zcH (zav zch zai (pv 6)) zai) zad)))))))
   (zae (zas (zbZ (N:=["_law_row"]) (own:=1) (cap:=[]) rfl (zcV (pv 5)) ⟨rfl,rfl,rfl,rfl,rfl,rfl⟩ (fun _ _ _ _ _=>(zaz (i:=0) (show List.Nodup (["_law_row"]:List Str) by decide +kernel) rfl (Or.inl rfl))) (fun _ _ _ _ _=>zcd) (fun _ _ _ _ _=>(za7 (zgc (K:=K)) rfl T.m_tuple boot_tuple (zaa (pv 0) zad))))))))))),?_⟩
 have el:=zau ps;refine ⟨_,rfl,d,L,4,rfl,by decide,hs,fun n H1 n0 n1 k1 s1=>⟨_,_,rfl,rfl,?_⟩⟩;refine ⟨_,rfl,d,L,2,rfl,by decide,s1,fun wy H2 w0 w1 k2 s2=>?_⟩;have k02:=k1.trans k2;have t2:=znE hs k02 _ _ ht;refine ⟨_,rfl,_,rfl,_,_,rfl,.inr (SqT.of t2),?_⟩;rw[el];refine ⟨d,L,((ps.length+1:Nat):Int),rfl,⟨by omega,by omega⟩,s2,fun la H3 l0 l1 k3 s3=>?_⟩;have k03:=k02.trans k3;have t3:=znE hs k03 _ _ ht;refine ⟨_,rfl,t,rfl,⟨_,SqT.of t3⟩,fun R hR=>?_⟩;refine zdG (xs:=zbI ps) (fun i σ H4=>∃(x0:Option V) (qs:List Addr),σ=[x0]∧LI H4 R qs (List.replicate i [])∧(∀ q∈qs,H3 q=none)∧But R H3 H4) ?_ ?_ ?_ ?_
 ·exact ⟨_,[],rfl,⟨zab,rfl,ybq,(fun z=>nomatch z),fun j q e=>by simp at e⟩,(fun q z=>nomatch z),fun b o n e=>by rw[zag n];exact e⟩
 ·rintro i σ H4 _ ⟨x0,qs,rfl,_,_,k4⟩;exact SqT.of (k4 _ _ (zac t3 hR) t3)
 ·rintro i m v σ H4 hv hm ⟨x0,qs,rfl,I4,hqs,k4⟩;have hi:=(yak.mp hv).1;have hql:=I4.len;rw[ybj]at hql;have s4:Same H3 H4:=fun b o e=>k4 b o (zac e hR) e;refine zcJ ?_;refine ⟨(by show 0≤sizeLine;decide),fun E0 hE=>?_⟩;have nE:E0≠R:=fun z=>by rw[z,I4.at_]at hE;cases hE
  refine ⟨_,by rw[zag (Ne.symm nE)];exact I4.at_,zaq (by rw[yab];omega),m - 1,by omega,by omega,_,qs++[E0],rfl,?_,fun q hq=>?_,fun b o n e=>by rw[zag n];exact zaf hE _ _ _ (k4 b o n e)⟩
  ·rw[List.replicate_succ'];exact I4.snoc hE
  ·rcases yaj.mp hq with y | y
   ·exact hqs q y
   ·rw[yag.mp y];exact s4.free hE
 rintro σ H4 ⟨x0,qs,rfl,I4,hqs,k4⟩;rw[el]at I4;have s34:Same H3 H4:=fun b o e=>k4 b o (zac e hR) e;have hR0:∀ k,zak (List.replicate (ps.length+1) ([]:List Int)) k=[]:=fun k=>by
  unfold zak;rw[yae,yct];split <;> rfl
 have hK0:zbd (List.replicate (ps.length+1) ([]:List Int))=0:=by
  unfold zbd;rw[List.map_replicate];generalize ps.length+1=n
  induction n with
  | zero=>rfl
  | succ n ih=>rw[List.replicate_succ,yaH,ih];rfl
 refine ⟨_,rfl,_,rfl,by show -2 ^ 62≤297+n;omega,by show 297+n < 2 ^ 62;omega,?_⟩;refine zbW (n:=(297+n).toNat) (fun i σ H5=>∃(rows:List (List Int)) (x6 x7:Option V),σ=[some (.ref d),some (.ref t),some (.int (297+n)),some (.int wy),some (.int la),some (.ref R),x6,x7]∧LI H5 R qs rows∧rows.length=ps.length+1∧Low rows (3 * (i:Int) - 400)∧zbd rows=i∧Same H3 H5) ?_ ?_ ?_
 ·exact ⟨_,_,_,rfl,I4,ybj,fun k=>by rw[hR0];exact ⟨.nil,fun y hy=>nomatch hy⟩,hK0,s34⟩
 ·rintro i σ H5 hi ⟨rows,x6,x7,rfl,I5,hl5,hL5,hK5,s5⟩;rw[ybX];have t5:=s5 _ _ t3;refine ⟨_,rfl,_,rfl,_,_,rfl,.inr (SqT.of t5),?_⟩;refine ⟨_,_,rfl,rfl,(by show (0:Int) < (((zbI ps).length:Nat):Int);rw[el];omega),_,rfl,(by show 2≤sizeLine;decide),fun l hl=>?_⟩;rw[el];have sl:=zaf hl (.lst [.int ((i:Int) % ((ps.length+1:Nat):Int)),.int la]);have hll:upd H5 l (.lst [.int ((i:Int) % ((ps.length+1:Nat):Int)),.int la]) l=some (.lst [.int ((i:Int) % ((ps.length+1:Nat):Int)),.int la]):=zab;generalize upd H5 l (.lst [.int ((i:Int) % ((ps.length+1:Nat):Int)),.int la])=H6 at sl hll ⊢;obtain ⟨kn,hkn,hat⟩:∃ kn:Nat,kn < ps.length+1∧atI [V.int ((i:Int) % ((ps.length+1:Nat):Int)),.int la] wy=some (.int kn):=by
   have hw:wy=0∨wy=1:=by omega
   rcases hw with rfl | rfl
   ·refine ⟨i % (ps.length+1),ybH _ (by omega),?_⟩;rw[Int.natCast_emod];rfl
   ·refine ⟨la.toNat,by omega,?_⟩;rw[Int.toNat_of_nonneg l0];rfl
  refine ⟨_,rfl,_,_,_,_,rfl,rfl,SqL.of hll,hat,?_⟩;have I6:=I5.ext sl.ext;have s6:=s5.trans sl;refine ⟨fun σ' H'=>∃ kn:Nat,σ'=[some (.ref d),some (.ref t),some (.int (297+n)),some (.int wy),some (.int la),some (.ref R),some (.int i),some (.int kn)]∧kn < ps.length+1∧H6=H',?_,?_⟩
  ·refine ⟨_,rfl,_,rfl,_,_,rfl,.inr (SqT.of (s6 _ _ t3)),_,_,rfl,rfl,_,rfl,?_⟩;refine ite2 (fun c=>?_) (fun c=>?_)
   ·have c':(i:Int) < (((zbI ps).length:Nat):Int):=yaQ c;rw[el]at c';exact ⟨_,rfl,i,rfl,by omega,rfl⟩
   ·exact ⟨kn,rfl,hkn,rfl⟩
  rintro _ _ ⟨kn,rfl,hkn,rfl⟩;obtain ⟨qk,hqk⟩:∃ qk,qs[kn]?=some qk:=⟨_,yac (show kn < qs.length by rw[I6.len,hl5];exact hkn)⟩;have hq1:=I6.get kn qk hqk;have hrl:(zak rows kn).length≤300:=by
   unfold zak;rw[yae,yac (show kn < rows.length by omega)];exact yaA (zdD (ya0 _)) (by omega)
  refine ⟨_,rfl,_,rfl,_,_,_,_,rfl,rfl,SqL.of I6.at_,zeY hqk,.inl ⟨rfl,_,SqL.of hq1⟩,_,rfl,_,_,rfl,rfl,.inl (by decide),_,_,rfl,rfl,_,_,_,rfl,rfl,hq1,zaq (by rw[yab];omega),?_⟩;have hks:=zdC (r:=zak rows kn++[3 * (i:Int) - 400]) (show kn < rows.length by omega);rw[yaq,ybc]at hks;have low:=hL5.put (x:=3 * (i:Int) - 400) (show kn < rows.length by omega) (Int.le_refl _) (by omega);refine ⟨rows.set kn (zak rows kn++[3 * (i:Int) - 400]),_,_,rfl,I6.put hqk,by rw[ybx];exact hl5,fun k=>?_,by omega,fun b o e=>?_⟩
  ·exact ⟨(low k).1,fun y hy=>by have:=(low k).2 y hy;omega⟩
  ·have:=hqs qk (yaD hqk);rw[zag (fun z=>by rw[z,this]at e;cases e)]
   exact s6 _ _ e
 ·rintro σ H5 ⟨rows,x6,x7,rfl,I5,hl5,hL5,hK5,s5⟩;refine ⟨_,rfl,R,rfl,⟨_,SqL.of I5.at_⟩,fun D hD=>?_⟩;have hql:=I5.len;refine zbF (xs:=qs.map V.ref) (fun i σ H6=>∃(x0:Option V) (as:List Addr),σ=[x0]∧H6 D=some (.lst (as.map V.ref))∧zaI H6 as (rows.take i)∧But D H5 H6) ?_ ?_ ?_ ?_
  ·exact ⟨_,[],rfl,zab,.nil,fun b o n e=>by rw[zag n];exact e⟩
  ·rintro i σ H6 _ ⟨x0,as,rfl,_,_,k6⟩;exact SqL.of (k6 _ _ (zac I5.at_ hD) I5.at_)
  ·rintro i m v σ H6 hv hm ⟨x0,as,rfl,h6,hA,k6⟩;rw[yab]at hm;rw[yap]at hv;obtain ⟨q0,hq0,rfl⟩:=ybl.mp hv;have hi:=(yak.mp hq0).1;have hq1:=I5.get i q0 hq0;have hal:=hA.length;rw[yan]at hal;refine zcJ ?_;refine ⟨_,rfl,q0,_,rfl,.inl ⟨SqL.of (k6 _ _ (zac hq1 hD) hq1),fun u hu=>?_⟩⟩;have su:=zaf hu (.tup ((zak rows i).map V.int));have hu1:upd H6 u (.tup ((zak rows i).map V.int)) u=some (.tup ((zak rows i).map V.int)):=zab;generalize upd H6 u (.tup ((zak rows i).map V.int))=H7 at su hu1 ⊢;have h7:=su _ _ h6;have kD:∀ b o,b≠D→H7 b=some o→upd H7 D (.lst (as.map V.ref++[.ref u])) b=some o:=fun b o n e=>by rw[zag n];exact e
   have ncD:∀{x:Addr} {o:List V},H7 x=some (.tup o)→x≠D:=fun {x o} e z=>by
    rw[z,h7]at e;cases e
   refine ⟨_,h7,zaq (by rw[yab];omega),m - 1,by omega,by rw[yab];omega,_,as++[u],rfl,?_,?_,fun b o n e=>kD _ _ n (su _ _ (k6 b o n e))⟩
   ·rw[zab,yat];rfl
   ·have htk:rows.take (i+1)=rows.take i++[zak rows i]:=by
     rw[yaM (show i < rows.length by omega)];unfold zak;rw[yae,yac (show i < rows.length by omega)];rfl
    rw[htk];exact zaI.snoc (zaI.keep (p:=D) (d:=D) (fun a row e=>ncD e) kD (hA.ext su)) (kD _ _ (ncD hu1) hu1)
  ·rintro σ H6 ⟨x0,as,rfl,h6,hA,k6⟩;rw[yab,hql,yas (yaa _)]at hA;have s56:Same H5 H6:=fun b o e=>k6 b o (zac e hD) e;have s36:=s5.trans s56;have hD0:H D=none:=by
    cases e:H D with
    | none=>rfl
    | some o=>
     by_cases z:D=d
     ·obtain ⟨_,_,_,e2,_⟩:=(s3.same s5).ex;rw[← z,hD]at e2;cases e2
     ·rw[s5 _ _ (k03 D o z e)]at hD;cases hD
   exact q D as rows H6 hD0 h6 hA hl5 (hL5.ok (by omega)) (by omega) (fun b o z e=>s36 _ _ (k03 b o z e)) (s3.same s36)
def dueS (rows:List (List Int))(kn:Nat)(x:Int):Str:=if x∈zak rows kn then "twice" else if 300≤zbd rows then "no room" else "put"
structure zia (H:Hp)(r:Addr)(as:List Addr)(rows:List (List Int)):Prop where
 at_:H r=some (.lst (as.map V.ref))
 rows:zaI H as rows
theorem zia.get {H:Hp}{r:Addr}{as:List Addr}{rows:List (List Int)}(h:zia H r as rows){k:Nat}(hk:k < rows.length):∃ a,atI (as.map V.ref) (k:Int)=some (.ref a)∧H a=some (.tup ((zak rows k).map V.int)):=by
 obtain ⟨a,h1,h2⟩:=h.rows.get hk;exact ⟨a,zeY h1,h2⟩
theorem zhR (l:List Int):(l.map V.int).all zeo=true:=yaS.mpr fun y hy=>by
 obtain ⟨z,_,rfl⟩:=yaG.mp hy;rfl
def zqn (K:Frag):Sp:=fun vs H Q _=>∃(r:Addr) (kn:Nat) (x:Int) (rows:List (List Int)) (as:List Addr),vs=[.ref r,.int kn,.int x]∧zia H r as rows∧kn < rows.length∧rows.length≤900∧∀ H',Same H H'→Q (.str (dueS rows kn x)) H'
theorem zqO (T:Txt K mg)(D_l_due:DF K mg "_law_due" zgS zfj):FC P w K mg base 1 "_law_due" zfj (zqn K):=by
 refine D_l_due.ok sc_l_due (fun vs H Q E h=>?_) (fun f cdv A outer s H vs Q E hr h=>?_)
 ·obtain ⟨r,kn,x,rows,as,rfl,_⟩:=h;rfl
 obtain ⟨r,kn,x,rows,as,rfl,R,hkn,hz,q⟩:=h;refine ⟨_,(zay (zaY (zat zdb (pv 2) (zaR za1 (pv 0) (pv 1) (fun _ _=>rfl)) (by with_unfolding_all rfl)) (zae (zas zaQ)) zaw)
   (zae (zas (zaR za1 (zbi (zaa zaQ (zaa zaQ zad))) (za7 zmG rfl T.m_int boot_int (zaa (zis zlz (zam (zh1 rfl) rfl T.m_sum boot_sum (zaa (zbZ (N:=["_law_row"]) (own:=1) (cap:=[]) rfl (zcV (pv 0)) ⟨rfl,rfl,rfl,rfl,rfl,rfl⟩ (fun _ _ _ _ _=>(zaz (i:=0) (show List.Nodup (["_law_row"]:List Str) by decide +kernel) rfl (Or.inl rfl))) (fun _ _ _ _ _=>zcd) (fun _ _ _ _ _=>(zam (zer (K:=K)) rfl T.m_len boot_len (zaa (pv 0) zad)))) zad)) zai (zaH _)) zad)) (fun _ _=>rfl))))),?_⟩
 obtain ⟨a,ha,hrow⟩:=R.get hkn;have hal:=R.rows.length;refine ⟨fun σ' H'=>σ'=[some (.ref r),some (.int kn),some (.int x)]∧H=H'∧x∉zak rows kn,?_,?_⟩
 ·refine ⟨_,rfl,_,rfl,_,rfl,_,_,_,_,rfl,rfl,SqL.of R.at_,ha,a,_,rfl,.inr (SqT.of hrow),rfl,zhR _,_,rfl,?_⟩;rw[zfL];by_cases c:x∈zak rows kn
  ·rw[yal c];refine iteT ?_;have:=q H (fun _ _ e=>e);unfold dueS at this;rw[if_pos c]at this;exact this
  ·rw[yai c];exact iteF ⟨rfl,rfl,c⟩
 rintro _ _ ⟨rfl,rfl,c⟩;refine ⟨(by show 2≤sizeLine;decide),fun l hl=>?_⟩;have sl:=zaf hl (.lst [.str "put",.str "no room"]);have hll:upd H l (.lst [.str "put",.str "no room"]) l=some (.lst [.str "put",.str "no room"]):=zab;generalize upd H l (.lst [.str "put",.str "no room"])=H1 at sl hll ⊢;have R1:=sl _ _ R.at_;refine ⟨_,rfl,r,rfl,⟨_,SqL.of R1⟩,fun D hD=>?_⟩;refine zbF (xs:=as.map V.ref) (fun i σ H2=>∃ x0:Option V,σ=[x0]∧H2 D=some (.lst ((((rows.map List.length).take i).map fun n:Nat=>(n:Int)).map V.int))∧But D H1 H2) ?_ ?_ ?_ ?_
 ·exact ⟨_,rfl,zab,fun b o n e=>by rw[zag n];exact e⟩
 ·rintro i σ H2 _ ⟨x0,rfl,_,k2⟩;exact SqL.of (k2 _ _ (zac R1 hD) R1)
 ·rintro i m v σ H2 hv hm ⟨x0,rfl,h2,k2⟩;rw[yab]at hm;have hi:i < rows.length:=by
   have:=(yak.mp hv).1;rw[yab]at this;omega
  obtain ⟨a,ha,hrow⟩:=R.rows.get hi;rw[yap,ha]at hv;cases hv
  have hr2:=k2 _ _ (zac (sl _ _ hrow) hD) (sl _ _ hrow);refine zcJ ?_;refine ⟨_,rfl,a,_,rfl,.inr (SqT.of hr2),_,h2,zaq (by rw[yab,yab,yan,yab];omega),m - 1,by omega,by rw[yab];omega,_,rfl,?_,fun b o n e=>by rw[zag n];exact k2 b o n e⟩;have hr:(zak rows i).length=(rows.map List.length)[i]'(by rw[yab];exact hi):=by
   unfold zak;rw[yae,yac hi,List.getElem_map];rfl
  rw[zab,yaM (by rw[yab];exact hi),yat,yat,yab,hr];rfl
 ·rintro σ H2 ⟨x0,rfl,h2,k2⟩;rw[yab,yas (by rw[yab];omega)]at h2;have s2:Same H1 H2:=fun b o e=>k2 b o (zac e hD) e;refine ⟨D,_,rfl,SqL.of h2,?_⟩;rw[zjb];have e0:=q H2 (sl.trans s2);unfold dueS at e0;rw[if_neg c]at e0;have hk:((rows.map List.length).sum:Nat)=zbd rows:=rfl;rw[hk];refine ⟨_,_,rfl,rfl,.inr ⟨_,rfl,?_⟩⟩;have h2l:=s2 _ _ hll;by_cases c3:300≤zbd rows
  ·rw[if_pos c3]at e0;rw[if_pos (yal (show (300:Int)≤((zbd rows:Nat):Int) by omega))];exact ⟨_,_,_,_,rfl,rfl,SqL.of h2l,rfl,e0⟩
  ·rw[if_neg c3]at e0;rw[if_neg (fun z=>c3 (by have:(300:Int)≤((zbd rows:Nat):Int):=yaQ z;omega))];exact ⟨_,_,_,_,rfl,rfl,SqL.of h2l,rfl,e0⟩
structure SNow (K:Frag)(CS mp a:Addr)(H:Hp)(d sh p:Addr)(qs:List Addr)(ps:List Nat)(rows:List (List Int)):Prop where
 shelf:∃ dx st t rs as,zaF K CS H sh dx st p qs ps rows t rs as
 tab:zbc H mp zcy lamQ
 ls:LS K a d (dl [sh,p,mp] H)
section
variable {K:Frag}{CS mp a d sh p:Addr}{H H':Hp}{qs:List Addr}{ps:List Nat}{rows:List (List Int)}
theorem SNow.lsH (h:SNow K CS mp a H d sh p qs ps rows):LS K a d H:=h.ls.same zdX
theorem SNow.same (h:SNow K CS mp a H d sh p qs ps rows)(s:Same H H'):SNow K CS mp a H' d sh p qs ps rows:=by
 obtain ⟨dx,st,t,rs,as,S⟩:=h.shelf;exact ⟨⟨dx,st,t,rs,as,S.same s⟩,h.tab.ext s.ext,h.ls.same (zmp (KpV.of s))⟩
theorem SNow.take (h:SNow K CS mp a H d sh p qs ps rows)(k:Keep d H H')(s:LS K a d H'):SNow K CS mp a H' d sh p qs ps rows:=by
 obtain ⟨dx,st,t,rs,as,S⟩:=h.shelf;have e:=h.lsH.ext k;exact ⟨⟨dx,st,t,rs,as,S.ext e⟩,h.tab.ext e,ziD h.ls k s⟩
theorem SNow.new {H0:Hp}{dx st t rs:Addr}{as:List Addr}(s0:LS K a d H0)(hT:zbc H0 mp zcy lamQ)(s:Same H0 H)(hsh:H0 sh=none)(hp:H0 p=none)(S:zaF K CS H sh dx st p qs ps rows t rs as):SNow K CS mp a H d sh p qs ps rows:=by
 refine ⟨⟨dx,st,t,rs,as,S⟩,hT.ext s.ext,zqV s0 fun b o n e=>zeq (s _ _ e) fun z=>?_⟩;simp only[yam,ybe,or_false]at z;rcases z with rfl | rfl | rfl
 ·rw[hsh]at e;cases e
 ·rw[hp]at e;cases e
 ·obtain ⟨tab,e2,_⟩:=hT.ex;rw[e2]at e;exact n _ (yad e).symm
end
theorem zm4 {rows:List (List Int)}(k:Nat):(zak rows k).length≤zbd rows:=by
 unfold zak;rw[yae];cases e:rows[k]? with
 | none=>exact yaJ _
 | some r=>exact zdD (yaD e)
theorem FA.snoc {K:Frag}{H:Hp}{p:Addr}{qs:List Addr}{n:Nat}{f:Nat→List En}{E:Addr}{ws:List V}(h:FA K H p qs n f)(hE:H E=none)(hw:zal K H (f n) ws):FA K (upd (upd H E (.lst ws)) p (.lst (qs.map V.ref++[.ref E]))) p (qs++[E]) (n+1) f:=by
 have s1:=zaf hE (.lst ws);have e1:upd H E (.lst ws) E=some (.lst ws):=zab;have nEp:E≠p:=fun z=>by rw[z,h.at_]at hE;cases hE
 have p1:=s1 _ _ h.at_;have nq:E∉qs:=fun z=>by
  obtain ⟨i,hi,ei⟩:=yaR z;obtain ⟨ws,w1,_⟩:=h.get i E (by rw[yac hi,ei]);rw[hE]at w1;cases w1
 have hl:=h.len;refine ⟨by rw[zab,yat];rfl,by rw[yaq,ybc,hl],?_,?_,fun j q hj=>?_⟩
 ·rw[ya5];exact ⟨h.nd,yaV.mpr ⟨(fun z=>nomatch z),ybq⟩,fun a ha b hb e=>nq ((e.trans (yag.mp hb)) ▸ ha)⟩
 ·intro z;rcases yaj.mp z with y | y
  ·exact h.np y
  ·exact nEp (yag.mp y).symm
 ·rcases ybD j qs.length with c | c
  ·rw[yba c]at hj;obtain ⟨us,g1,g2⟩:=h.get j q hj;have hne:q≠p:=fun z=>h.np (z ▸ yaD hj);exact ⟨us,by rw[zag hne];exact s1 _ _ g1,zbB p1 (g2.mono s1.ext)⟩
  ·rw[ya3 c]at hj;have hj0:j - qs.length=0:=by
    have:=(yak.mp hj).1;rw[ybc]at this;omega
   rw[hj0]at hj;cases hj
   have:j=n:=by omega
   subst this;exact ⟨ws,by rw[zag nEp];exact e1,zbB p1 (hw.mono s1.ext)⟩
structure LNow (K:Frag)(CS mp a:Addr)(H:Hp)(d sh p t R:Addr)(qs as:List Addr)(ps:List Nat)(rows rl:List (List Int)):Prop where
 now:SNow K CS mp a (dl [R] H) d sh p qs ps rows
 rows:zia H R as rl
 tree:H t=some (.tup (zbI ps))
section
variable {K:Frag}{CS mp a d sh p t R:Addr}{H H':Hp}{qs as:List Addr}{ps:List Nat}{rows rl:List (List Int)}
theorem LNow.real (h:LNow K CS mp a H d sh p t R qs as ps rows rl):SNow K CS mp a H d sh p qs ps rows:=h.now.same zdX
theorem LNow.same (h:LNow K CS mp a H d sh p t R qs as ps rows rl)(s:Same H H'):LNow K CS mp a H' d sh p t R qs as ps rows rl:=
 ⟨h.now.same (zmp (KpV.of s)),⟨s _ _ h.rows.at_,h.rows.rows.ext s⟩,s _ _ h.tree⟩
theorem LNow.nd (h:LNow K CS mp a H d sh p t R qs as ps rows rl):R≠d:=fun z=>by
 obtain ⟨_,_,_,e,_⟩:=h.real.lsH.ex;rw[← z,h.rows.at_]at e;cases e
theorem LNow.take (h:LNow K CS mp a H d sh p t R qs as ps rows rl)(k:Keep d H H')(s:LS K a d H'):LNow K CS mp a H' d sh p t R qs as ps rows rl:=by
 have tp:=znE h.real.lsH k;have k':Keep d (dl [R] H) (dl [R] H'):=fun b o n e=>by
  have nb:b∉[R]:=fun z=>by unfold dl at e;rw[if_pos z]at e;cases e
  exact zeq (k b o n (zdX _ _ e)) nb
 exact ⟨h.now.take k' (ziD h.now.lsH k s),⟨k _ _ h.nd h.rows.at_,zft tp h.rows.rows⟩,tp _ _ h.tree⟩
theorem zfQ {Av:List Addr}{b:Addr}{o:HO}(e:dl Av H b=some o):b∉Av:=fun z=>by
 unfold dl at e;rw[if_pos z]at e;cases e
theorem LNow.deed {dx D:Addr}{zs:List V}{m:Nat}{qs':List Addr}{st' t' rs':Addr}{as':List Addr}{rows':List (List Int)}{kn:Nat}(h:LNow K CS mp a H d sh p t R qs as ps rows rl)(X:zic K CS mp H H' sh dx p D zs m qs qs' st' t' rs' as' ps rows rows' kn):LNow K CS mp a H' d sh p t R qs' as ps rows' rl:=by
 obtain ⟨dx0,st0,t0,rs0,as0,S⟩:=h.now.shelf;obtain ⟨tab,et,_⟩:=h.now.tab.ex;have n1:sh∉[R]:=zfQ S.ins;have n2:p∉[R]:=zfQ S.full.at_;have n3:mp∉[R]:=zfQ et;have ne:∀{b:Addr},b∉[R]→R≠b:=fun {b} n z=>n (z ▸ yaF);have hR:=X.kd R _ (ne n1) (ne n2) (ne n3) h.rows.at_;have no:zhn [R] H':=fun b hb us z=>by
  rw[yag.mp hb,hR]at z;cases z
 have tp:Tp H H':=fun b us e=>X.kd b _ (fun z=>by rw[z,zdX _ _ S.ins]at e;cases e) (fun z=>by rw[z,zdX _ _ S.full.at_]at e;cases e) (fun z=>by rw[z,zdX _ _ et]at e;cases e) e
 refine ⟨⟨⟨dx,st',t',rs',as',X.shelf.dl no n1 (fun z=>?_) n2 fun q hq z=>?_⟩,?_,?_⟩,⟨hR,zft tp h.rows.rows⟩,tp _ _ h.tree⟩
 ·have:=X.shelf.own;rw[yag.mp z,hR]at this;cases this
 ·rcases X.qn q hq with y | y
  ·obtain ⟨j,hj,ej⟩:=yaR y;obtain ⟨ws,g,_⟩:=S.full.get j q (by rw[yac hj,ej]);exact zfQ g z
  ·rw[yag.mp z,h.rows.at_]at y;cases y
 ·obtain ⟨tab,e,r1,r2⟩:=X.tab.ex;refine ⟨tab,zeq e n3,r1,?_⟩;rcases r2 with z | ⟨c,z1,z2⟩
  ·exact .inl z
  ·refine .inr ⟨c,z1,?_⟩;exact zeq z2 (fun z=>by
    unfold ze0 at z2;rw[yag.mp z,hR]at z2;cases z2)
 ·refine h.now.ls.same (zmp fun b o n e=>?_);have kb:KpV [sh,p,mp] H H':=X.kp (by simp) (by simp) (by simp);exact zeq (kb b o n (zdX _ _ e)) (zfQ e)
theorem LNow.set {kn:Nat}{v:Addr}{row:List Int}(h:LNow K CS mp a H d sh p t R qs as ps rows rl)(hv:H v=some (.tup (row.map V.int))):LNow K CS mp a (upd H R (.lst ((as.map V.ref).set kn (.ref v)))) d sh p t R qs (as.set kn v) ps rows (rl.set kn row):=by
 have nR:∀{b:Addr} {us:List V},H b=some (.tup us)→b≠R:=fun {b us} e z=>by rw[z,h.rows.at_]at e;cases e
 have tp:Tp H (upd H R (.lst ((as.map V.ref).set kn (.ref v)))):=fun b us e=>by rw[zag (nR e)];exact e
 refine ⟨h.now.same (zmp fun b o n e=>?_),⟨by rw[zab,ybY],zdP (tp _ _ hv) kn (zft tp h.rows.rows)⟩,tp _ _ h.tree⟩;rw[zag (fun z=>n (yag.mpr z))];exact e
theorem LNow.new {H0:Hp}{dx st t' rs:Addr}{bs:List Addr}(sd:LS K a d (dl [R] H0))(hT:zbc H0 mp zcy lamQ)(s:Same H0 H)(hsh:H0 sh=none)(hp:H0 p=none)(hqs:∀ q∈qs,H0 q=none)(S:zaF K CS H sh dx st p qs ps rows t' rs bs)(r:zia H0 R as rl)(ht:H0 t=some (.tup (zbI ps))):LNow K CS mp a H d sh p t R qs as ps rows rl:=by
 have hR:=s _ _ r.at_;have nf:∀{b:Addr},H0 b=none→b∉[R]:=fun {b} e z=>by rw[yag.mp z,r.at_]at e;cases e
 have no:zhn [R] H:=fun b hb us z=>by
  rw[yag.mp hb,hR]at z;cases z
 have S':zaF K CS (dl [R] H) sh dx st p qs ps rows t' rs bs:=S.dl no (nf hsh) (fun z=>by
  have:=S.own;rw[yag.mp z,hR]at this;cases this) (nf hp) fun q hq=>nf (hqs q hq)
 have hT':zbc (dl [R] H0) mp zcy lamQ:=by
  obtain ⟨tab,e,r1,r2⟩:=hT.ex;refine ⟨tab,zeq e (fun z=>by rw[yag.mp z,r.at_]at e;cases e),r1,?_⟩
  rcases r2 with z | ⟨c,z1,z2⟩
  ·exact .inl z
  ·refine .inr ⟨c,z1,?_⟩;exact zeq z2 (fun z=>by
    unfold ze0 at z2;rw[yag.mp z,r.at_]at z2;cases z2)
 exact ⟨SNow.new sd hT' (zmp (KpV.of s)) (by rw[zpP (nf hsh)];exact hsh) (by rw[zpP (nf hp)];exact hp) S',⟨hR,r.rows.ext s⟩,s _ _ ht⟩
end
def zhA (K:Frag)(mp:Addr):Sp:=fun vs H Q _=>∃(a:Addr) (ns:List Int),vs=[.ref a]∧SqL K H a (ns.map V.int)∧ns.length≤63∧H mp=some (.tbl #[])∧∀ H',Q (.bl true) H'
theorem zqK (T:Txt K mg){mp:Addr}{CS:Addr}(O:OwnC K mg CS)(D_law:DF K mg "law" zm2 zjv)(F_l_begin:FC P w K mg base 1 "_law_begin" zdu (zlb K))(F_l_take:FC P w K mg base 2 "_law_take" zce (zhz K))(F_l_key:FC P w K mg base 3 "_law_key" zfi (zqk K))(F_l_tree:FC P w K mg base 3 "_law_tree" zef (zok K))(F_l_filled:FC P w K mg base 3 "_law_filled" zcT (zjk K))(F_tree_of:FC P w K mg base 3 "tree_of" zdr (zjf K))(F_stand_of:FC P w K mg base 4 "stand_of" zcS (zgh K))(F_Shelf:FI P w K mg base CS 9 zbh (zk9 K CS))(F_full_rows:FC P w K mg base 8 "full_rows" zbS (zim K))(F_Shelf_full:FM P w K mg base CS 4 "full" zb5 (zla K CS))(F_Shelf_stand:FM P w K mg base CS 1 "stand" zbM (zk3 CS))(F_l_due:FC P w K mg base 1 "_law_due" zfj (zqn K))(F_l_said:FC P w K mg base 9 "_law_said" zeg (zol K CS mp))(F_Shelf_out:FM P w K mg base CS 8 "out" zcv (zjl K CS mp outR zqP)):FC P w K mg base 11 "law" zjv (zhA K mp):=by
 refine D_law.ok sc_law (fun vs H Q E h=>?_) (fun f cdv A outer s H vs Q E hr h=>?_)
 ·obtain ⟨a,ns,rfl,_⟩:=h;rfl
 obtain ⟨a,ns,rfl,hS,_,hmp,q⟩:=h;have hT0:zbc H mp zcy lamQ:=⟨#[],hmp,trivial,.inl rfl⟩;refine ⟨_,(zaG (zar (i:=1) sc_law.nd rfl (Or.inl rfl) (zax F_l_begin hr (zaa (pv 0) zad)))
   (zaG (zar (i:=2) sc_law.nd rfl (Or.inl rfl) (zax F_l_tree hr (zaa (pv 1) (zaa zai zad))))
   (zaG (zar (i:=3) sc_law.nd rfl (Or.inl rfl) (zax F_l_filled hr (zaa (pv 1) (zaa (pv 2) zad))))
   (zaG (zar (i:=4) sc_law.nd rfl (Or.inr rfl) (zrJ F_Shelf hr O.mgC (zaa (zax F_stand_of hr (zaa (zax F_tree_of hr (zaa (pv 2) zad)) (zaa (pv 3) zad))) zad)))
   (zaG (zcf PassesOwn.never rfl (zcg rfl T.m_range (zaa zai zad)) (zaz (i:=5) sc_law.nd rfl (Or.inl rfl)) (zaG (zar (i:=6) sc_law.nd rfl (Or.inl rfl) (zax F_l_take hr (zaa (pv 1) (zaa (zam zao rfl T.m_len boot_len (zaa (pv 2) zad)) zad))))
   (zaG (zar (i:=7) sc_law.nd rfl (Or.inr rfl) (zaR za1 (zbi (zaa (zax F_l_key hr (zaa (pv 1) zad)) (zaa (zav zcH (zav zch zai (zax F_l_take hr (zaa (pv 1) (zaa zai zad)))) zai) zad))) (zax F_l_take hr (zaa (pv 1) (zaa zai zad))) (fun _ _=>rfl)))
   (zeb (zaY (PW.pt (zjs (zat zg4 (zax F_l_take hr (zaa (pv 1) (zaa zai zad))) zai (zaH _)) (zgW (zat zdb (pv 7) (zaR za1 (pv 3) (pv 6) (fun _ _=>rfl)) (by with_unfolding_all rfl))))) (zaG (zhG (za7 zaV rfl T.m_tuple boot_tuple (zaa (zbZ (N:=["_law_other","_law_key_here"]) (own:=1) (cap:=[7]) rfl (zgm (zaR za1 (pv 3) (pv 6) (fun _ _=>rfl))) ⟨rfl,rfl,rfl,rfl,rfl,rfl⟩ (fun _ _ _ _ _=>(zaz (i:=0) (show List.Nodup (["_law_other","_law_key_here"]:List Str) by decide +kernel) rfl (Or.inl rfl))) (fun _ _ _ _ _=>(zeA (zat zka (pv 0) (pv 1) (zaH _)))) (fun _ _ _ _ _=>(pv 0))) zad)) (zhJ (pv 3) (pv 6) zd3))
   (zae (zby (zir F_Shelf_out O.cl hr (pv 4) (zaa (pv 6) (zaa (pv 7) zad)))))) (zaG (zar (i:=8) sc_law.nd rfl (Or.inl rfl) (zax F_l_due hr (zaa (pv 3) (zaa (pv 6) (zaa (pv 7) zad)))))
   (zeb (zaY (zat zka (zax F_l_said hr (zaa (pv 4) (zaa (pv 6) (zaa (pv 7) zad)))) (pv 8) (zaH _)) (zae (zas zf9)) zaw)
   (zae (zaY (zat zg4 (pv 8) zaQ (zaH _)) (zae (zhG (za7 zaV rfl T.m_tuple boot_tuple (zaa (zam (zgy Int) rfl T.m_sorted boot_sorted (zaa (zav zg5 (zaR za1 (pv 3) (pv 6) (fun _ _=>rfl)) (zbz (zaa (pv 7) zad))) zad)) zad)) (zhJ (pv 3) (pv 6) zd3))) zaw)))))
   (zeb (zaY (PW.pt (zqv (zat zka (zax F_l_said hr (zaa (pv 4) (zaa (zam zao rfl T.m_len boot_len (zaa (pv 2) zad)) (zaa (pv 7) zad)))) zaQ (zaH _)) (zov (zat zka (zax F_l_said hr (zaa (pv 4) (zaa (pv 6) (zaa zgn zad)))) zaQ (zaH _))))) (zae (zas zf9)) zaw)
   (zaG (zfw (i:=9) (N:=["_law_other","_law_shelf"]) (own:=1) (cap:=[4]) sc_law.nd rfl rfl rfl (zcg rfl T.m_range (zaa (zam zao rfl T.m_len boot_len (zaa (pv 2) zad)) zad)) ⟨rfl,rfl,rfl,rfl,rfl,rfl⟩ (fun _ _ _ _ _=>(zaz (i:=0) (show List.Nodup (["_law_other","_law_shelf"]:List Str) by decide +kernel) rfl (Or.inl rfl))) (fun _ _ _ _ _=>zcd) (fun _ _ _ _ _=>(zir F_Shelf_full O.cl hr (pv 1) (zaa (pv 0) zad))))
   (zeb (zaY (zat (zoB (Tup (Option Int)×Tup (Tup Int)) (huD hr)) (zoz F_Shelf_stand O.cl hr (pv 4)) (zbz (zaa (pv 2) (zaa (za7 zaV rfl T.m_tuple boot_tuple (zaa (pv 3) zad)) zad))) (zaH _)) (zae (zas zf9)) zaw)
   (zae (zaY (PW.pt (zjs (zat zg4 (zav zdI (pv 5) zai) zai (zaH _)) (zgW (zat (zoB (List (List (Int×Int))) (huD hr)) (pv 9) (zax F_full_rows hr (zaa (zoz F_Shelf_stand O.cl hr (pv 4)) zad)) (zaH _))))) (zae (zas zf9)) zaw)))))))))
   (zae (zas zf9))))))),?_⟩
 intro N1 n1;refine ⟨_,rfl,a,ns,rfl,hS,fun d H1 _ g1 s1=>n1 _ _ ?_⟩;intro N2 n2;refine ⟨_,rfl,d,a,9,rfl,by decide,s1,fun t ps H2 ht hT hl h2 k2 s2=>n2 _ _ ?_⟩;intro N3 n3;have el:=zau ps;refine ⟨_,rfl,_,rfl,d,a,t,ps,rfl,h2,by omega,s2,fun R as rows H3 hR0 hR hRA hlen hRO hkeys k3 s3=>n3 _ _ ?_⟩;intro N4 n4;have h3t:=znE s2 k3 _ _ h2;have hT3:zbc H3 mp zcy lamQ:=((hT0.ext g1.ext).ext (s1.ext k2)).ext (s2.ext k3);refine ⟨_,rfl,t,ps,rfl,h3t,hT,by omega,fun H4 s4=>?_⟩;refine ⟨_,rfl,t,R,ps,rows,as,rfl,s4 _ _ h3t,.inl (s4 _ _ hR),pImp (fun a row e=>⟨row,.inr (s4 _ _ e),List.Perm.refl _⟩) hRA,hlen,hT,hRO,by omega,by omega,fun st rs bs H5 hst s5 S5=>?_⟩;have s35:=s4.trans s5;intro sh dx hsh hdx hne;refine zkk S5 hsh hdx hne fun p qs H6 hp hqs s6 S6=>⟨rfl,n4 _ _ ?_⟩;have s36:=s35.trans s6;have hR6:=s36 _ _ hR;have sd:LS K a d (dl [R] H3):=ziD (s2.same fun b o e=>zeq e fun z=>by rw[yag.mp z,hR0]at e;cases e) k3 s3
 have fr:∀{b:Addr},H5 b=none→H3 b=none:=fun {b} e=>s35.free e;have M6:LNow K CS mp a H6 d sh p t R qs as ps rows rows:=LNow.new sd hT3 s36 (fr hsh) (fr hp) (fun q hq=>fr (hqs q hq)) S6 ⟨hR,hRA⟩ h3t;clear s36 s35 S6 S5;intro N5 n5;refine ⟨8,rfl,by decide,by decide,?_⟩;refine zbW (n:=8) (fun i σ HA=>∃(as:List Addr) (rows:List (List Int)) (qs:List Addr) (x5 x6 x7 x8 x9:Option V),σ=[some (.ref a),some (.ref d),some (.ref t),some (.ref R),some (.ref sh),x5,x6,x7,x8,x9]∧LNow K CS mp a HA d sh p t R qs as ps rows rows∧zbd rows≤300) ?_ ?_ ?_
 ·exact ⟨as,rows,qs,_,_,_,_,_,rfl,M6,hkeys⟩
 ·rintro i σ HA hi ⟨as,rows,qs,x5,x6,x7,x8,x9,rfl,NA,hkA⟩;refine zrR fun N B R' hN hB hR'=>?_;intro N1 n1;obtain ⟨dx,st1,t1,rs1,as1,SA⟩:=NA.real.shelf;have hlen:=SA.stand.len;have RA:=SA.stand.R;refine ⟨_,rfl,_,rfl,_,_,rfl,.inr (SqT.of NA.tree),?_⟩;rw[el];refine ⟨d,a,((ps.length+1:Nat):Int),rfl,⟨by omega,by omega⟩,NA.real.lsH,fun n HB n0 n1' kB sB=>n1 _ _ ?_⟩;obtain ⟨kn,rfl⟩:∃ kn:Nat,n=kn:=⟨n.toNat,by omega⟩;have hkn:kn < ps.length+1:=by omega
  have NB:=NA.take kB sB;clear NA SA;intro N2 n2;refine ⟨_,rfl,d,a,rfl,sB,fun x1 HC y0 y1 kC sC=>?_⟩;have NC:=NB.take kC sC;clear NB;refine ⟨_,rfl,d,a,300,rfl,by decide,sC,fun v HD v0 v1 kD sD=>?_⟩;have ND:=NC.take kD sD;clear NC;refine ⟨_,_,rfl,rfl,.inl (by decide),_,_,rfl,rfl,(by show 2≤sizeLine;decide),fun lk hlk=>?_⟩;have sl:=zaf hlk (.lst [.int x1,.int (3 * v - 400)]);have hll:upd HD lk (.lst [.int x1,.int (3 * v - 400)]) lk=some (.lst [.int x1,.int (3 * v - 400)]):=zab;have NE:=ND.same sl;generalize upd HD lk (.lst [.int x1,.int (3 * v - 400)])=HE at sl hll NE ⊢;clear ND;refine ⟨_,rfl,d,a,2,rfl,by decide,NE.real.lsH,fun wy HF w0 w1 kF sF=>?_⟩;have NF:=NE.take kF sF;obtain ⟨x,hx,hat⟩:∃ x:Int,zib x∧atI [V.int x1,.int (3 * v - 400)] wy=some (.int x):=by
   have:wy=0∨wy=1:=by omega
   rcases this with rfl | rfl
   ·exact ⟨x1,⟨y0,y1⟩,rfl⟩
   ·exact ⟨_,by constructor <;> omega,rfl⟩
  have hlF:HF lk=some (.lst [.int x1,.int (3 * v - 400)]):=kF _ _ (fun z=>by
   obtain ⟨_,_,_,e,_⟩:=NE.real.lsH.ex;rw[← z,hll]at e;cases e) hll
  refine ⟨_,_,_,_,rfl,rfl,SqL.of hlF,hat,n2 _ _ ?_⟩;clear NE;refine ⟨fun σ' HG=>∃(as':List Addr) (rows':List (List Int)) (qs':List Addr) (x8:Option V),σ'=[some (.ref a),some (.ref d),some (.ref t),some (.ref R),some (.ref sh),some (.int (0+(i:Int))),some (.int kn),some (.int x),x8,x9]∧LNow K CS mp a HG d sh p t R qs' as' ps rows' rows'∧zbd rows'≤300,?_,?_⟩
  ·intro N3 n3;refine ⟨_,rfl,d,a,4,rfl,by decide,NF.real.lsH,fun u HG _ _ kG sG=>⟨rfl,_,rfl,?_⟩⟩;have NG:=NF.take kG sG;clear NF;obtain ⟨ar,har,hrow⟩:=NG.rows.get (k:=kn) (by omega);obtain ⟨dx,st1,t1,rs1,as1,SG⟩:=NG.real.shelf;have hal:=NG.rows.rows.length;have hrl:(zak rows kn).length≤300:=yaA (zm4 kn) hkA;refine (fun els=>ite2 (fun c=>?_) (fun _=>iteF els)) ?_
   ·refine ⟨_,rfl,_,rfl,_,rfl,_,_,_,_,rfl,rfl,SqL.of NG.rows.at_,har,ar,_,rfl,.inr (SqT.of hrow),rfl,zhR _,_,rfl,?_⟩;rw[zfL];by_cases c2:x∈zak rows kn
    ·rw[yal c2];refine iteT ?_;clear els;intro N4 n4;refine ⟨_,rfl,_,rfl,_,_,_,_,rfl,rfl,SqL.of NG.rows.at_,har,ar,rfl,⟨_,SqT.of hrow⟩,fun D hD=>?_⟩;refine zdG (xs:=(zak rows kn).map V.int) (fun i σ H2=>∃ x0:Option V,σ=[x0,some (.int x)]∧H2 D=some (.lst ((((zak rows kn).take i).filter (fun y=>!decide (y=x))).map V.int))∧But D HG H2) ?_ ?_ ?_ ?_
     ·exact ⟨_,rfl,zab,fun b o n e=>by rw[zag n];exact e⟩
     ·rintro i σ H2 _ ⟨x0,rfl,_,k2⟩;exact SqT.of (k2 _ _ (zac hrow hD) hrow)
     ·rintro i m v σ H2 hv hm ⟨x0,rfl,h2,k2⟩;rw[yab]at hm;rw[yap]at hv;obtain ⟨y,hy,rfl⟩:=ybl.mp hv;obtain ⟨hi,rfl⟩:=yak.mp hy;have hfl:=ya6 (fun y=>!decide (y=x)) ((zak rows kn).take i);rw[yan]at hfl;rw[yaM hi,ybg];refine ⟨_,rfl,_,rfl,rfl,_,rfl,?_⟩;by_cases c:(zak rows kn)[i]=x
      ·refine zfJ (show V.int _=V.int _ by rw[c]) ?_;refine ⟨m - 1,by omega,by rw[yab];omega,_,rfl,?_,k2⟩;rw[ybW (by rw[yal c];decide),List.filter_nil,yay];exact h2
      ·refine zrL (fun z=>c (V.int.inj z)) ?_;refine ⟨_,rfl,_,h2,zaq (by rw[yab];omega),m - 1,by omega,by rw[yab];omega,_,rfl,?_,fun b o n e=>by rw[zag n];exact k2 b o n e⟩;rw[zab,ybv (by rw[yai c];rfl),List.filter_nil,yat];rfl
     ·rintro σ H2 ⟨x0,rfl,h2,k2⟩;rw[yab,yas (yaa _),zj8 (RA.at_up kn) c2]at h2;have s2:Same HG H2:=fun b o e=>k2 b o (zac e hD) e;refine ⟨D,_,rfl,.inl ⟨SqL.of h2,fun v5 hv5=>?_⟩⟩;have s15:Same HG _:=s2.trans (zaf hv5 (.tup ((outR (zak rows kn) x).map V.int)));have N5':=NG.same s15;refine ⟨_,rfl,_,rfl,R,_,_,kn,rfl,rfl,N5'.rows.at_,zfI (by rw[yab,hal];omega),n4 _ _ ?_⟩;have N6:=N5'.set (kn:=kn) (row:=outR (zak rows kn) x) (v:=v5) zab;clear N5';generalize upd (upd H2 v5 (.tup ((outR (zak rows kn) x).map V.int))) R (.lst ((as.map V.ref).set kn (.ref v5)))=H6 at N6 ⊢;obtain ⟨dx,st1,t1,rs1,as1,S6⟩:=N6.real.shelf;refine ⟨_,rfl,sh,dx,_,rfl,S6.ins,rfl,_,rfl,_,rfl,sh,dx,st1,p,kn,x,qs,ps,rows,t1,rs1,as1,rfl,S6,hkn,hx,c2,N6.real.tab,fun D us m qs' st' rs' as' H' h1 h2 h3 h4 h5 h6 h7 h8=>?_⟩;have X:zic K CS mp H6 H' sh dx p D us m qs qs' st' t1 rs' as' ps rows (rows.set kn (outR (zak rows kn) x)) kn:=⟨h1,h2,h3,h4,h5,h6,h7,h8⟩;have hks:=zdC (r:=outR (zak rows kn) x) (show kn < rows.length by omega);have hol:=(zeC (zak rows kn) x).length_le;exact n3 _ _ ⟨_,_,_,_,rfl,N6.deed X,by omega⟩
    ·rw[yai c2];exact iteF els
   ·intro N4 n4;refine ⟨_,rfl,_,rfl,_,rfl,R,kn,x,rows,as,rfl,NG.rows,by omega,by omega,fun HH sH=>n4 _ _ ?_⟩;have NH:=NG.same sH;have SH:=SG.same sH;clear NG SG hrow har;refine ⟨fun σ' HI=>∃(rowsS:List (List Int)) (qs':List Addr),σ'=[some (.ref a),some (.ref d),some (.ref t),some (.ref R),some (.ref sh),some (.int (0+(i:Int))),some (.int kn),some (.int x),some (.str (dueS rows kn x)),x9]∧LNow K CS mp a HI d sh p t R qs' as ps rowsS rows∧zbd rowsS≤300∧((dueS rows kn x ≠ "put"∧rowsS=rows)∨(x∉zak rows kn∧dueS rows kn x = "put"∧rowsS=rows.set kn (putR (zak rows kn) x))),?_,?_⟩
    ·intro N5 n5;refine ⟨_,rfl,_,rfl,_,rfl,sh,dx,st1,p,.int kn,.int x,qs,ps,rows,t1,rs1,as1,rfl,SH,NH.real.tab,?_⟩;by_cases c2:x∈zak rows kn
     ·have e:dueS rows kn x = "twice":=if_pos c2;refine .inl ⟨1,.twice kn x hkn hx c2,fun H' s'=>⟨_,rfl,rfl,_,rfl,?_⟩⟩;refine zfJ (show V.str (zlj 1)=V.str (dueS rows kn x) by rw[e];rfl) (n5 _ _ ⟨rows,qs,rfl,NH.same s',hkA,.inl ⟨by rw[e];decide,rfl⟩⟩)
     ·by_cases c3:300≤zbd rows
      ·have e:dueS rows kn x = "no room":=(if_neg c2).trans (if_pos c3);refine .inl ⟨0,.room kn x hkn hx c2 c3,fun H' s'=>⟨_,rfl,rfl,_,rfl,?_⟩⟩;refine zfJ (show V.str (zlj 0)=V.str (dueS rows kn x) by rw[e];rfl) (n5 _ _ ⟨rows,qs,rfl,NH.same s',hkA,.inl ⟨by rw[e];decide,rfl⟩⟩)
      ·have e:dueS rows kn x = "put":=(if_neg c2).trans (if_neg c3);refine .inr ⟨kn,x,rfl,rfl,hkn,hx,⟨c2,by omega⟩,fun D us m qs' st' rs' as' H' X=>⟨_,rfl,rfl,_,rfl,?_⟩⟩;have hks:=zdC (r:=putR (zak rows kn) x) (show kn < rows.length by omega);have hpl:=zlm (row:=zak rows kn) (x:=x);refine zfJ (show V.str "put" = V.str (dueS rows kn x) by rw[e]) (n5 _ _ ⟨_,qs',rfl,NH.deed X,by omega,.inr ⟨c2,e,rfl⟩⟩)
    rintro _ HI ⟨rowsS,qs',rfl,NI,hkI,hcase⟩;clear NH SH;refine ⟨_,rfl,rfl,_,rfl,?_⟩;rcases hcase with ⟨e,rfl⟩ | ⟨c2,e,rfl⟩
    ·rw[yai (fun z=>e (V.str.inj z))];refine iteF ?_;exact n3 _ _ ⟨_,_,_,_,rfl,NI,hkI⟩
    ·rw[yal (show V.str (dueS rows kn x)=V.str "put" by rw[e])];refine iteT ?_;obtain ⟨ar,har,hrow⟩:=NI.rows.get (k:=kn) (by omega);refine ⟨_,rfl,_,rfl,_,_,_,_,rfl,rfl,SqL.of NI.rows.at_,har,_,rfl,(by show 1≤sizeLine;decide),fun u hu=>?_⟩;have s2:=zaf hu (.tup [.int x]);have h2:upd HI u (.tup [.int x]) u=some (.tup [.int x]):=zab;generalize upd HI u (.tup [.int x])=H2 at s2 h2 ⊢;refine zjP (s2 _ _ hrow) h2 (fun z=>nomatch z) (ya1 (zaq (by rw[yab];show _+1≤1000;omega))) fun v3 H3 s3 h3=>?_;rw[show (zak rows kn).map V.int++[V.int x]=(zak rows kn++[x]).map V.int by rw[yat];rfl]at h3;refine ⟨v3,_,zak rows kn++[x],rfl,SqT.of h3,zal.ints,fun l4 ws hl4 hw=>?_⟩;rw[hw.toInts,zm5 (RA.at_up kn) c2];have s4:=zaf hl4 (.lst ((putR (zak rows kn) x).map V.int));refine ⟨l4,_,rfl,.inl ⟨SqL.of zab,fun v5 hv5=>?_⟩⟩;have s5:=zaf hv5 (.tup ((putR (zak rows kn) x).map V.int));have N5':=NI.same (s2.trans (s3.trans (s4.trans s5)));refine ⟨_,rfl,_,rfl,R,_,_,kn,rfl,rfl,N5'.rows.at_,zfI (by rw[yab,hal];omega),?_⟩;have N6:=N5'.set (kn:=kn) (row:=putR (zak rows kn) x) (v:=v5) zab;exact n3 _ _ ⟨_,_,_,_,rfl,N6,hkI⟩
  ·clear NF hlF hlen RA hkA;rintro _ HG ⟨as,rows,qs,x8,rfl,NG,hkG⟩;obtain ⟨dx,st1,t1,rs1,as1,SG⟩:=NG.real.shelf;refine ⟨fun σ' H'=>σ'=[some (.ref a),some (.ref d),some (.ref t),some (.ref R),some (.ref sh),some (.int (0+(i:Int))),some (.int kn),some (.int x),x8,x9]∧Same HG H',?_,?_⟩
   ·intro N3 n3;refine ⟨_,rfl,_,rfl,_,_,rfl,.inr (SqT.of NG.tree),_,rfl,?_⟩;rw[el];refine ⟨sh,dx,st1,p,.int ((ps.length+1:Nat):Int),.int x,qs,ps,rows,t1,rs1,as1,rfl,SG,NG.real.tab,.inl ⟨2,.knot _ _ (.int _) ?_,fun H1 s1=>⟨rfl,_,rfl,?_⟩⟩⟩
    ·show (decide (0≤((ps.length+1:Nat):Int)) && decide (((ps.length+1:Nat):Int) < ((ps.length+1:Nat):Int)))=false;rw[yai (Int.lt_irrefl _),yb5]
    refine zfJ rfl ?_;refine ⟨_,rfl,_,rfl,sh,dx,st1,p,.int kn,.non,qs,ps,rows,t1,rs1,as1,rfl,SG.same s1,(NG.same s1).real.tab,.inl ⟨3,.key kn _ hkn (.oth _ _ .non zq6 zq5),fun H2 s2=>⟨rfl,_,rfl,?_⟩⟩⟩;exact zfJ rfl (n3 _ _ ⟨rfl,s1.trans s2⟩)
   rintro _ HH ⟨rfl,sH⟩;have NH:=NG.same sH;have SH:=SG.same sH;clear NG SG;intro N4 n4;refine ⟨_,rfl,_,_,rfl,.inr (SqT.of NH.tree),_,rfl,by omega,by omega,fun pa hpa=>?_⟩;rw[el,ybk];refine zeJ (n:=ps.length+1) (fun i σ H2=>∃(x0:Option V) (qa:List Addr),σ=[x0,some (.ref sh)]∧FA K H2 pa qa i (zan ps rows)∧But pa HH H2) ?_ ?_ ?_
   ·exact ⟨_,[],rfl,⟨zab,rfl,ybq,(fun z=>nomatch z),fun j q e=>by simp at e⟩,fun b o n e=>by rw[zag n];exact e⟩
   ·rintro i2 m σ H2 hm hi2 ⟨x0,qa,rfl,F2,k2⟩;rw[ybX];have s2:Same HH H2:=fun b o e=>k2 b o (zac e hpa) e;have S2:=SH.same s2;have hql:=F2.len;refine zcJ ?_;refine ⟨_,rfl,sh,dx,_,rfl,S2.ins,rfl,_,rfl,sh,dx,st1,p,i2,qs,ps,rows,t1,rs1,as1,rfl,S2,hi2,fun B0 ws hB0 hw=>?_⟩;have nB:B0≠pa:=fun z=>by rw[z,F2.at_]at hB0;cases hB0
    exact ⟨_,by rw[zag (Ne.symm nB)];exact F2.at_,zaq (by rw[yab];omega),m - 1,by omega,by omega,_,_,rfl,F2.snoc hB0 hw,fun b o n e=>by rw[zag n];exact zaf hB0 _ _ _ (k2 b o n e)⟩
   rintro σ HI ⟨x0,qa,rfl,FI0,kI⟩;refine n4 _ _ ?_;have sI:Same HH HI:=fun b o e=>kI b o (zac e hpa) e;have NI:=NH.same sI;have SI:=SH.same sI;clear NH SH;refine ⟨fun σ' H'=>σ'=[some (.ref a),some (.ref d),some (.ref t),some (.ref R),some (.ref sh),some (.int (0+(i:Int))),some (.int kn),some (.int x),x8,some (.ref pa)]∧Same HI H',?_,?_⟩
   ·intro N5 n5;refine ⟨_,rfl,sh,dx,_,rfl,SI.ins,rfl,sh,dx,st1,p,rfl,SI.ins,_,rfl,_,rfl,R,_,rfl,.inl ⟨SqL.of NI.rows.at_,fun rt hrt=>?_⟩⟩;have su:=zaf hrt (.tup (as.map V.ref));have hr1:upd HI rt (.tup (as.map V.ref)) rt=some (.tup (as.map V.ref)):=zab;generalize upd HI rt (.tup (as.map V.ref))=HI1 at su hr1 ⊢;refine ⟨(by show 2≤sizeLine;decide),fun u hu=>?_⟩;have su2:=zaf hu (.tup [.ref t,.ref rt]);have sI2:=su.trans su2;refine ⟨zk1 ps rows,zk1 ps rows,zk0 (SI.stand.same sI2),⟨u,_,_,rfl,zab,⟨_,_,rfl,SqT.of (sI2 _ _ NI.tree),zi9 ps⟩,⟨_,_,rfl,SqT.of (su2 _ _ hr1),zgT (NI.rows.rows.ext sI2)⟩⟩,_,rfl,?_⟩;exact zfJ rfl (n5 _ _ ⟨rfl,sI2⟩)
   rintro _ HJ ⟨rfl,sJ⟩;have NJ:=NI.same sJ;have SJ:=SI.same sJ;refine ⟨_,rfl,_,_,rfl,rfl,(by show (0:Int) < 4;decide),rfl,_,rfl,?_⟩;refine ite2 (fun _=>?_) (fun _=>iteF ?_)
   ·refine ⟨_,rfl,_,rfl,sh,dx,_,rfl,SJ.ins,rfl,sh,dx,st1,p,rfl,SJ.ins,st1,ps,rows,t1,rs1,as1,rfl,SJ.stand,fun pf qf HK hpf sK g2 nd hq np F=>?_⟩;have FD:=F.fa g2 nd np;have sIK:=sJ.trans sK;refine ⟨zoH ps rows,zoH ps rows,⟨pa,_,rfl,SqL.of (sIK _ _ FI0.at_),FI0.has.mono sIK.ext⟩,⟨pf,_,rfl,SqL.of FD.at_,FD.has⟩,_,rfl,?_⟩;exact zfJ rfl (hN _ _ ⟨_,_,_,_,_,_,_,_,rfl,NJ.same sK,hkG⟩)
   ·exact hN _ _ ⟨_,_,_,_,_,_,_,_,rfl,NJ,hkG⟩
 ·rintro σ HA ⟨as,rows,qs,x5,x6,x7,x8,x9,rfl,NA,hkA⟩;exact n5 _ _ (q _)
abbrev lawRoom:Nat:=11
theorem all_ok (T:Txt K mg){C_BridgeError C_NoTree C_NoWay C_NoStand C_Twice C_Missing C_NoRoom C_NoKnot C_NoKey C_NoOrder C_NoRow C_NoText C_Shelf:Addr}(CL:Cls K mg C_BridgeError C_NoTree C_NoWay C_NoStand C_Twice C_Missing C_NoRoom C_NoKnot C_NoKey C_NoOrder C_NoRow C_NoText C_Shelf){CS:Addr}(O:OwnC K mg CS){mc mp:Addr}(hBM:BMAt mg base)(D_is_whole:DF K mg "is_whole" zdn zbK)(D_is_key:DF K mg "is_key" zfd zcG)(D_need_key:DF K mg "need_key" zcE zbq)(D_code:DF K mg "code" zjo zgX)(D_how_many_below:DF K mg "how_many_below" zbl zbg)(D_place:DFT K mg "place" zez zds mc mp)(D_joined_up:DF K mg "joined_up" zcP zbR)(D_lowest_unlike:DF K mg "lowest_unlike" zbv zbo)(D_turned:DF K mg "turned" ze7 zec)(D_labels:DF K mg "labels" ze9 zee)(D_neighbours:DF K mg "neighbours" zcr zbx)(D_least_free:DF K mg "least_free" zcs zb4)(D_colours:DF K mg "colours" zd8 zdv)(D_marks:DF K mg "marks" zgQ zfh)(D_handed:DF K mg "handed" zfe zc7)(D_is_one_of_first:DF K mg "is_one_of_first" za0 zaB)(D_tree_of:DF K mg "tree_of" zd5 zdr)(D_need_knot:DF K mg "need_knot" zcb za2)(D_children:DF K mg "children" zdo zcU)(D_beneath:DF K mg "beneath" zd9 zdw)(D_row_of:DF K mg "row_of" ze8 zed)(D_long_together:DF K mg "long_together" zbw zaP)(D_stand_of:DF K mg "stand_of" zdl zcS)(D_with_row:DF K mg "with_row" zdk zbJ)(D_own_entries:DF K mg "own_entries" zb2 zbL)(D_full_rows_beneath:DF K mg "full_rows_beneath" za3 zaZ)(D_full_rows:DF K mg "full_rows" zcQ zbS)(D_without:DF K mg "without" zd4 zdq)(D_l_begin:DF K mg "_law_begin" zd7 zdu)(D_l_mixed:DF K mg "_law_mixed" zd6 zdt)(D_l_take:DF K mg "_law_take" zfb zce)(D_l_key:DF K mg "_law_key" zgR zfi)(D_l_tree:DF K mg "_law_tree" zfa zef)(D_l_filled:DF K mg "_law_filled" zdm zcT)(D_l_said:DF K mg "_law_said" zfc zeg)(D_l_due:DF K mg "_law_due" zgS zfj)(D_law:DF K mg "law" zm2 zjv)(D_Shelf___init__:DI K CS "Shelf.__init__" zbn zbh)(D_Shelf_row_for:DM K CS "row_for" "Shelf.row_for" zbe zaE)(D_Shelf_carry_up:DM K CS "carry_up" "Shelf.carry_up" zbm zaO)(D_Shelf_put:DM K CS "put" "Shelf.put" zcc zbu)(D_Shelf_out:DM K CS "out" "Shelf.out" zcR zcv)(D_Shelf_stand:DM K CS "stand" "Shelf.stand" zb3 zbM)(D_Shelf_full:DM K CS "full" "Shelf.full" zct zb5):FC P w K mg base 11 "law" zjv (zhA K mp):=
 have m:=znn (P:=P) (w:=w) (base:=base) T D_l_mixed;have t:=zpk T D_l_take m;have c:=zpr (P:=P) (w:=w) (base:=base) T D_code;have nb:=zg6 (P:=P) (w:=w) (base:=base) T D_neighbours;have mk:=zno T D_marks (zlE T D_labels c (zlA T D_turned (zqJ T D_lowest_unlike))) (zkc T D_colours nb (zg7 T D_least_free)) nb;have hd:=zlG T D_handed mk;have ch:=ziw (P:=P) (w:=w) (base:=base) T D_children;have jo:=zlF (P:=P) (w:=w) (base:=base) T D_joined_up;have fr:=zqN T D_full_rows_beneath (zkd T D_beneath) ch hd (zqH T D_own_entries) jo;have wh:=znj (P:=P) (w:=w) (base:=base) T D_is_whole;have lg:=zpo (P:=P) (w:=w) (base:=base) T D_long_together;have ik:=zns T D_is_key wh;have so:=ziv T D_stand_of (zlC T D_row_of ik) lg;have fi:=znv T D_is_one_of_first wh;have ky:=zqL T D_l_key t;have kn:=znr T D_need_knot fi;have nk:=znm T D_need_key ik;have rf:=zlD T O D_Shelf_row_for kn nk;have pl:=znl (P:=P) (w:=w) (base:=base) T D_place hBM (fun b=>zqM (base:=b) T D_how_many_below);have wr:=zpj (P:=P) (w:=w) (base:=base) T D_with_row;have cu:=znw T O D_Shelf_carry_up hd jo (zkb T D_without);have pu:=zqG T O D_Shelf_put rf lg pl wr cu;have ou:=zqI T O D_Shelf_out rf pl wr cu;have fl:=znt T D_full_rows fr;have kb:=kn.fx.or (znq T CL D_need_knot (zlH T D_is_one_of_first wh));have yb:=nk.fx.or (zpp T CL D_need_key ik);have rb:=rf.fx.or (zpm T CL O D_Shelf_row_for kb yb);have pb:=pu.fx.or (zpn T CL O D_Shelf_put rb lg pl wr cu)
 zqK T O D_law (znx T D_l_begin) t ky (znp T D_l_tree t) (zlI T D_l_filled t) (zlB T D_tree_of fi) so (zpq T O D_Shelf___init__ fl) fl (znu T O D_Shelf_full kn) (znk O D_Shelf_stand) (zqO T D_l_due) (zpl T CL O D_l_said pb) ou
end
theorem u1 {P:List Value→Prop}(h:∀ a,P [a])(us:List Value)(hl:us.length=1):P us:=by
 rcases us with _ | ⟨a,_ | ⟨z,us⟩⟩
 ·cases hl
 ·exact h a
 ·exact absurd hl (by simp)
theorem u2 {P:List Value→Prop}(h:∀ a b,P [a,b])(us:List Value)(hl:us.length=2):P us:=by
 rcases us with _ | ⟨a,_ | ⟨b,_ | ⟨z,us⟩⟩⟩
 ·cases hl
 ·cases hl
 ·exact h a b
 ·exact absurd hl (by simp)
theorem u3 {P:List Value→Prop}(h:∀ a b c,P [a,b,c])(us:List Value)(hl:us.length=3):P us:=by
 rcases us with _ | ⟨a,_ | ⟨b,_ | ⟨c,_ | ⟨z,us⟩⟩⟩⟩
 ·cases hl
 ·cases hl
 ·cases hl
 ·exact h a b c
 ·exact absurd hl (by simp)
theorem u4 {P:List Value→Prop}(h:∀ a b c d,P [a,b,c,d])(us:List Value)(hl:us.length=4):P us:=by
 rcases us with _ | ⟨a,_ | ⟨b,_ | ⟨c,_ | ⟨d,_ | ⟨z,us⟩⟩⟩⟩⟩
 ·cases hl
 ·cases hl
 ·cases hl
 ·cases hl
 ·exact h a b c d
 ·exact absurd hl (by simp)
structure AD (K:Frag)(x:Str)(st:Stmt):Prop where
 ex:∃(f:Addr) (oc:Value) (od:Option Addr) (kV dc pm:Value) (an:Option Addr) (cd ct:Value) (sl:Array (Option Value)),nsIn K mainGlobals x=some (some (.ref f))∧K.lookup f=some ⟨oc,od,.func (fnOf x x (zbD st) (zaW st) (zah st) .none kV dc pm an cd ct),sl⟩∧codeIn K cd x=true∧keepIn K (.ref f)=true
theorem AD.of {K:Frag}{x:Str}{st:Stmt}{f:Addr}{oc:Value}{od:Option Addr}{kV dc pm:Value}{an:Option Addr}{cd ct:Value}{sl:Array (Option Value)}(a:nsIn K mainGlobals x=some (some (.ref f)))(l:K.lookup f=some ⟨oc,od,.func (fnOf x x (zbD st) (zaW st) (zah st) .none kV dc pm an cd ct),sl⟩)(c:codeIn K cd x=true)(k:keepIn K (.ref f)=true):AD K x st:=⟨f,oc,od,kV,dc,pm,an,cd,ct,sl,a,l,c,k⟩
theorem AD.df {K:Frag}{h:Heap}{mg:Str→Option Value}{x:Str}{st:Stmt}{ps:List Str}(a:AD K x st)(X:K.In h)(G:h.Ns mainGlobals mg)
  (hb:∀(kV doc pm:Value) (an:Option Addr) (cdv ct:Value) (us:List Value),us.length=ps.length→bindArgs (fnOf x x (zbD st) (zaW st) (zah st) .none kV doc pm an cdv ct) ⟨us,[]⟩=pure (ps.zip us):=by
   first | exact fun _ _ _ _ _ _=>u1 fun _=>rfl | exact fun _ _ _ _ _ _=>u2 fun _ _=>rfl | exact fun _ _ _ _ _ _=>u3 fun _ _ _=>rfl | exact fun _ _ _ _ _ _=>u4 fun _ _ _ _=>rfl | exact fun _ _ _ _ _ _=>u5 fun _ _ _ _ _=>rfl | exact fun _ _ _ _ _ _=>u6 fun _ _ _ _ _ _=>rfl):DF K mg x st ps:=by
 obtain ⟨f,oc,od,kV,dc,pm,an,cd,ct,sl,a,l,c,k⟩:=a.ex;exact ⟨_,_,zfM l c k,(zfM l c k).binds hb,mg_of X G a⟩
theorem AD.dft {K:Frag}{h:Heap}{mg:Str→Option Value}{x:Str}{st:Stmt}{ps:List Str}{mc mp:Addr}(a:AD K x st)(X:K.In h)(G:h.Ns mainGlobals mg)(t:tabIn K x=some (mc,mp))(hh:codeHdIn K mc mp=true)
  (hb:∀(kV doc pm:Value) (an:Option Addr) (cdv ct:Value) (us:List Value),us.length=ps.length→bindArgs (fnOf x x (zbD st) (zaW st) (zah st) .none kV doc pm an cdv ct) ⟨us,[]⟩=pure (ps.zip us):=by
   first | exact fun _ _ _ _ _ _=>u1 fun _=>rfl | exact fun _ _ _ _ _ _=>u2 fun _ _=>rfl | exact fun _ _ _ _ _ _=>u3 fun _ _ _=>rfl | exact fun _ _ _ _ _ _=>u4 fun _ _ _ _=>rfl | exact fun _ _ _ _ _ _=>u5 fun _ _ _ _ _=>rfl | exact fun _ _ _ _ _ _=>u6 fun _ _ _ _ _ _=>rfl):DFT K mg x st ps mc mp:=by
 obtain ⟨f,oc,od,kV,dc,pm,an,cd,ct,sl,a,l,c,k⟩:=a.ex;have e:cd=.ref mc:=L2.zmW a l t;subst e;exact ⟨⟨_,_,_,_,_,_,_,_,_,l,c,k,mg_of X G a,(zfM l c k).binds hb⟩,hh⟩
structure AM (K:Frag)(C:Addr)(m q:Str)(st:Stmt):Prop where
 ex:∃(f:Addr) (oc:Value) (od:Option Addr) (kV dc pm:Value) (an:Option Addr) (cd ct:Value) (sl:Array (Option Value)),findIn K (.ref C) m=some (some (.ref f))∧PySem.W.isFn K (.ref f)=true∧K.lookup f=some ⟨oc,od,.func (fnOf m q (zbD st) (zaW st) (zah st) .none kV dc pm an cd ct),sl⟩∧codeIn K cd q=true∧keepIn K (.ref f)=true
theorem AM.of {K:Frag}{C:Addr}{m q:Str}{st:Stmt}{f:Addr}{oc:Value}{od:Option Addr}{kV dc pm:Value}{an:Option Addr}{cd ct:Value}{sl:Array (Option Value)}(a:findIn K (.ref C) m=some (some (.ref f)))(i:PySem.W.isFn K (.ref f)=true)(l:K.lookup f=some ⟨oc,od,.func (fnOf m q (zbD st) (zaW st) (zah st) .none kV dc pm an cd ct),sl⟩)(c:codeIn K cd q=true)(k:keepIn K (.ref f)=true):AM K C m q st:=⟨f,oc,od,kV,dc,pm,an,cd,ct,sl,a,i,l,c,k⟩
theorem AM.dm {K:Frag}{C:Addr}{m q:Str}{st:Stmt}{ps:List Str}(a:AM K C m q st)
  (hb:∀(kV doc pm:Value) (an:Option Addr) (cdv ct:Value) (us:List Value),us.length=ps.length→bindArgs (fnOf m q (zbD st) (zaW st) (zah st) .none kV doc pm an cdv ct) ⟨us,[]⟩=pure (ps.zip us):=by
   first | exact fun _ _ _ _ _ _=>u1 fun _=>rfl | exact fun _ _ _ _ _ _=>u2 fun _ _=>rfl | exact fun _ _ _ _ _ _=>u3 fun _ _ _=>rfl | exact fun _ _ _ _ _ _=>u4 fun _ _ _ _=>rfl | exact fun _ _ _ _ _ _=>u5 fun _ _ _ _ _=>rfl | exact fun _ _ _ _ _ _=>u6 fun _ _ _ _ _ _=>rfl):DM K C m q st ps:=by
 obtain ⟨f,oc,od,kV,dc,pm,an,cd,ct,sl,a,i,l,c,k⟩:=a.ex;exact ⟨_,_,zfM l c k,(zfM l c k).binds hb,⟨a,i,k⟩⟩
theorem AM.di {K:Frag}{C:Addr}{q:Str}{st:Stmt}{ps:List Str}(a:AM K C "__init__" q st)(mk:PySem.W.makesIn K C=true)(kc:keepIn K (.ref C)=true)
  (hb:∀(kV doc pm:Value) (an:Option Addr) (cdv ct:Value) (us:List Value),us.length=ps.length→bindArgs (fnOf "__init__" q (zbD st) (zaW st) (zah st) .none kV doc pm an cdv ct) ⟨us,[]⟩=pure (ps.zip us):=by
   first | exact fun _ _ _ _ _ _=>u1 fun _=>rfl | exact fun _ _ _ _ _ _=>u2 fun _ _=>rfl | exact fun _ _ _ _ _ _=>u3 fun _ _ _=>rfl | exact fun _ _ _ _ _ _=>u4 fun _ _ _ _=>rfl | exact fun _ _ _ _ _ _=>u5 fun _ _ _ _ _=>rfl | exact fun _ _ _ _ _ _=>u6 fun _ _ _ _ _ _=>rfl):DI K C q st ps:=by
 obtain ⟨f,oc,od,kV,dc,pm,an,cd,ct,sl,a,i,l,c,k⟩:=a.ex;exact ⟨_,_,zfM l c k,(zfM l c k).binds hb,⟨mk,a,i,kc⟩⟩
theorem zrq {l:OpenLaw}{w:World}{K:Frag}{h:Heap}{mg:Str→Option Value}{fa mc6 mp6 C_BridgeError C_NoTree C_NoWay C_NoStand C_Twice C_Missing C_NoRoom C_NoKnot C_NoKey C_NoOrder C_NoRow C_NoText C_Shelf CS:Addr}(X:K.In h)(G:h.Ns mainGlobals mg)(hfa:mg "law" = some (.ref fa)){t_KNOT_NUMBERS:Tok}{t_TURNS:Tok}{t_MOST_KNOTS:Tok}{t_MOST_KEYS:Tok}(a1:AD K "is_whole" zdn)(a2:AD K "is_key" zfd)(a3:AD K "need_key" zcE)(a4:AD K "code" zjo)(a5:AD K "how_many_below" zbl)(a6:AD K "place" zez)(a7:AD K "joined_up" zcP)(a8:AD K "lowest_unlike" zbv)(a9:AD K "turned" ze7)(a10:AD K "labels" ze9)(a11:AD K "neighbours" zcr)(a12:AD K "least_free" zcs)(a13:AD K "colours" zd8)(a14:AD K "marks" zgQ)(a15:AD K "handed" zfe)(a16:AD K "is_one_of_first" za0)(a17:AD K "tree_of" zd5)(a18:AD K "need_knot" zcb)(a19:AD K "children" zdo)(a20:AD K "beneath" zd9)(a21:AD K "row_of" ze8)(a22:AD K "long_together" zbw)(a23:AD K "stand_of" zdl)(a24:AD K "with_row" zdk)(a25:AD K "own_entries" zb2)(a26:AD K "full_rows_beneath" za3)(a27:AD K "full_rows" zcQ)(a28:AD K "without" zd4)(a29:AD K "_law_begin" zd7)(a30:AD K "_law_mixed" zd6)(a31:AD K "_law_take" zfb)(a32:AD K "_law_key" zgR)(a33:AD K "_law_tree" zfa)(a34:AD K "_law_filled" zdm)(a35:AD K "_law_said" zfc)(a36:AD K "_law_due" zgS)(a37:AD K "law" zm2)(t6:tabIn K "place" = some (mc6,mp6))(h6:codeHdIn K mc6 mp6=true)(o_C:nsIn K mainGlobals "Shelf" = some (some (.ref CS)))(o_g:PySem.W.plainGet K CS Str.empty=true)(o_h:PySem.W.hasDictIn K CS=true)(o_p:PySem.W.plainOver K CS=true)(o_s:findIn K (.ref CS) "__setattr__" = some (some (.builtin "object.__setattr__")))(o_m:PySem.W.makesIn K CS=true)(o_k:keepIn K (.ref CS)=true)(o_nkept:findIn K (.ref CS) "kept" = some none)(o_nfulls:findIn K (.ref CS) "fulls" = some none)(o_Shelf___init__:AM K CS "__init__" "Shelf.__init__" zbn)(o_Shelf_row_for:AM K CS "row_for" "Shelf.row_for" zbe)(o_Shelf_carry_up:AM K CS "carry_up" "Shelf.carry_up" zbm)(o_Shelf_put:AM K CS "put" "Shelf.put" zcc)(o_Shelf_out:AM K CS "out" "Shelf.out" zcR)(o_Shelf_stand:AM K CS "stand" "Shelf.stand" zb3)(o_Shelf_full:AM K CS "full" "Shelf.full" zct)(u_BridgeError:nsIn K mainGlobals "BridgeError" = some (some (.ref C_BridgeError)))(u_NoTree:nsIn K mainGlobals "NoTree" = some (some (.ref C_NoTree)))(u_NoWay:nsIn K mainGlobals "NoWay" = some (some (.ref C_NoWay)))(u_NoStand:nsIn K mainGlobals "NoStand" = some (some (.ref C_NoStand)))(u_Twice:nsIn K mainGlobals "Twice" = some (some (.ref C_Twice)))(u_Missing:nsIn K mainGlobals "Missing" = some (some (.ref C_Missing)))(u_NoRoom:nsIn K mainGlobals "NoRoom" = some (some (.ref C_NoRoom)))(u_NoKnot:nsIn K mainGlobals "NoKnot" = some (some (.ref C_NoKnot)))(u_NoKey:nsIn K mainGlobals "NoKey" = some (some (.ref C_NoKey)))(u_NoOrder:nsIn K mainGlobals "NoOrder" = some (some (.ref C_NoOrder)))(u_NoRow:nsIn K mainGlobals "NoRow" = some (some (.ref C_NoRow)))(u_NoText:nsIn K mainGlobals "NoText" = some (some (.ref C_NoText)))(u_Shelf:nsIn K mainGlobals "Shelf" = some (some (.ref C_Shelf)))(ue_NoKnot:PySem.W.excIn K C_NoKnot zkK "ValueError.__new__" = true)(ux0_NoKnot:findIn K (.ref C_NoKnot) "__getattribute__" = some (some (.builtin "BaseException.__getattribute__")))(ux1_NoKnot:findIn K (.ref C_NoKnot) "__getattr__" = some none)(ux2_NoKnot:findIn K (.ref C_NoKnot) "__class__" = some (some (.builtin "object.__class__")))(ux3_NoKnot:mroIn K C_NoKnot (.type "object")=some true)(ux4_NoKnot:mroIn K C_NoKnot (.type "BaseException")=some true)(ux5_NoKnot:(PySem.W.clsIn K C_NoKnot).isSome=true)(ux6_NoKnot:mroIn K C_NoKnot (.ref C_BridgeError)=some true)(ux7_NoKnot:kitOne K (.ref C_NoKnot) (.type "ValueError")=some true)(uk_NoKnot_BridgeError:kitOne K (.ref C_NoKnot) (.ref C_BridgeError)=some true)(uk_NoKnot_NoTree:kitOne K (.ref C_NoKnot) (.ref C_NoTree)=some false)(uk_NoKnot_NoWay:kitOne K (.ref C_NoKnot) (.ref C_NoWay)=some false)(uk_NoKnot_NoStand:kitOne K (.ref C_NoKnot) (.ref C_NoStand)=some false)(uk_NoKnot_Twice:kitOne K (.ref C_NoKnot) (.ref C_Twice)=some false)(uk_NoKnot_Missing:kitOne K (.ref C_NoKnot) (.ref C_Missing)=some false)(uk_NoKnot_NoRoom:kitOne K (.ref C_NoKnot) (.ref C_NoRoom)=some false)(uk_NoKnot_NoKnot:kitOne K (.ref C_NoKnot) (.ref C_NoKnot)=some true)(uk_NoKnot_NoKey:kitOne K (.ref C_NoKnot) (.ref C_NoKey)=some false)(uk_NoKnot_NoOrder:kitOne K (.ref C_NoKnot) (.ref C_NoOrder)=some false)(uk_NoKnot_NoRow:kitOne K (.ref C_NoKnot) (.ref C_NoRow)=some false)(uk_NoKnot_NoText:kitOne K (.ref C_NoKnot) (.ref C_NoText)=some false)(uk_NoKnot_Shelf:kitOne K (.ref C_NoKnot) (.ref C_Shelf)=some false)(ue_NoKey:PySem.W.excIn K C_NoKey zkK "ValueError.__new__" = true)(ux0_NoKey:findIn K (.ref C_NoKey) "__getattribute__" = some (some (.builtin "BaseException.__getattribute__")))(ux1_NoKey:findIn K (.ref C_NoKey) "__getattr__" = some none)(ux2_NoKey:findIn K (.ref C_NoKey) "__class__" = some (some (.builtin "object.__class__")))(ux3_NoKey:mroIn K C_NoKey (.type "object")=some true)(ux4_NoKey:mroIn K C_NoKey (.type "BaseException")=some true)(ux5_NoKey:(PySem.W.clsIn K C_NoKey).isSome=true)(ux6_NoKey:mroIn K C_NoKey (.ref C_BridgeError)=some true)(ux7_NoKey:kitOne K (.ref C_NoKey) (.type "ValueError")=some true)(uk_NoKey_BridgeError:kitOne K (.ref C_NoKey) (.ref C_BridgeError)=some true)(uk_NoKey_NoTree:kitOne K (.ref C_NoKey) (.ref C_NoTree)=some false)(uk_NoKey_NoWay:kitOne K (.ref C_NoKey) (.ref C_NoWay)=some false)(uk_NoKey_NoStand:kitOne K (.ref C_NoKey) (.ref C_NoStand)=some false)(uk_NoKey_Twice:kitOne K (.ref C_NoKey) (.ref C_Twice)=some false)(uk_NoKey_Missing:kitOne K (.ref C_NoKey) (.ref C_Missing)=some false)(uk_NoKey_NoRoom:kitOne K (.ref C_NoKey) (.ref C_NoRoom)=some false)(uk_NoKey_NoKnot:kitOne K (.ref C_NoKey) (.ref C_NoKnot)=some false)(uk_NoKey_NoKey:kitOne K (.ref C_NoKey) (.ref C_NoKey)=some true)(uk_NoKey_NoOrder:kitOne K (.ref C_NoKey) (.ref C_NoOrder)=some false)(uk_NoKey_NoRow:kitOne K (.ref C_NoKey) (.ref C_NoRow)=some false)(uk_NoKey_NoText:kitOne K (.ref C_NoKey) (.ref C_NoText)=some false)(uk_NoKey_Shelf:kitOne K (.ref C_NoKey) (.ref C_Shelf)=some false)(ue_Twice:PySem.W.excIn K C_Twice zkK "ValueError.__new__" = true)(ux0_Twice:findIn K (.ref C_Twice) "__getattribute__" = some (some (.builtin "BaseException.__getattribute__")))(ux1_Twice:findIn K (.ref C_Twice) "__getattr__" = some none)(ux2_Twice:findIn K (.ref C_Twice) "__class__" = some (some (.builtin "object.__class__")))(ux3_Twice:mroIn K C_Twice (.type "object")=some true)(ux4_Twice:mroIn K C_Twice (.type "BaseException")=some true)(ux5_Twice:(PySem.W.clsIn K C_Twice).isSome=true)(ux6_Twice:mroIn K C_Twice (.ref C_BridgeError)=some true)(ux7_Twice:kitOne K (.ref C_Twice) (.type "ValueError")=some true)(uk_Twice_BridgeError:kitOne K (.ref C_Twice) (.ref C_BridgeError)=some true)(uk_Twice_NoTree:kitOne K (.ref C_Twice) (.ref C_NoTree)=some false)(uk_Twice_NoWay:kitOne K (.ref C_Twice) (.ref C_NoWay)=some false)(uk_Twice_NoStand:kitOne K (.ref C_Twice) (.ref C_NoStand)=some false)(uk_Twice_Twice:kitOne K (.ref C_Twice) (.ref C_Twice)=some true)(uk_Twice_Missing:kitOne K (.ref C_Twice) (.ref C_Missing)=some false)(uk_Twice_NoRoom:kitOne K (.ref C_Twice) (.ref C_NoRoom)=some false)(uk_Twice_NoKnot:kitOne K (.ref C_Twice) (.ref C_NoKnot)=some false)(uk_Twice_NoKey:kitOne K (.ref C_Twice) (.ref C_NoKey)=some false)(uk_Twice_NoOrder:kitOne K (.ref C_Twice) (.ref C_NoOrder)=some false)(uk_Twice_NoRow:kitOne K (.ref C_Twice) (.ref C_NoRow)=some false)(uk_Twice_NoText:kitOne K (.ref C_Twice) (.ref C_NoText)=some false)(uk_Twice_Shelf:kitOne K (.ref C_Twice) (.ref C_Shelf)=some false)(ue_NoRoom:PySem.W.excIn K C_NoRoom zkK "ValueError.__new__" = true)(ux0_NoRoom:findIn K (.ref C_NoRoom) "__getattribute__" = some (some (.builtin "BaseException.__getattribute__")))(ux1_NoRoom:findIn K (.ref C_NoRoom) "__getattr__" = some none)(ux2_NoRoom:findIn K (.ref C_NoRoom) "__class__" = some (some (.builtin "object.__class__")))(ux3_NoRoom:mroIn K C_NoRoom (.type "object")=some true)(ux4_NoRoom:mroIn K C_NoRoom (.type "BaseException")=some true)(ux5_NoRoom:(PySem.W.clsIn K C_NoRoom).isSome=true)(ux6_NoRoom:mroIn K C_NoRoom (.ref C_BridgeError)=some true)(ux7_NoRoom:kitOne K (.ref C_NoRoom) (.type "ValueError")=some true)(uk_NoRoom_BridgeError:kitOne K (.ref C_NoRoom) (.ref C_BridgeError)=some true)(uk_NoRoom_NoTree:kitOne K (.ref C_NoRoom) (.ref C_NoTree)=some false)(uk_NoRoom_NoWay:kitOne K (.ref C_NoRoom) (.ref C_NoWay)=some false)(uk_NoRoom_NoStand:kitOne K (.ref C_NoRoom) (.ref C_NoStand)=some false)(uk_NoRoom_Twice:kitOne K (.ref C_NoRoom) (.ref C_Twice)=some false)(uk_NoRoom_Missing:kitOne K (.ref C_NoRoom) (.ref C_Missing)=some false)(uk_NoRoom_NoRoom:kitOne K (.ref C_NoRoom) (.ref C_NoRoom)=some true)(uk_NoRoom_NoKnot:kitOne K (.ref C_NoRoom) (.ref C_NoKnot)=some false)(uk_NoRoom_NoKey:kitOne K (.ref C_NoRoom) (.ref C_NoKey)=some false)(uk_NoRoom_NoOrder:kitOne K (.ref C_NoRoom) (.ref C_NoOrder)=some false)(uk_NoRoom_NoRow:kitOne K (.ref C_NoRoom) (.ref C_NoRow)=some false)(uk_NoRoom_NoText:kitOne K (.ref C_NoRoom) (.ref C_NoText)=some false)(uk_NoRoom_Shelf:kitOne K (.ref C_NoRoom) (.ref C_Shelf)=some false)(ug1:PySem.W.specialIn K (.builtin "object.__class__") "__get__" = some (some (.builtin "getset_descriptor.__get__")))(ug2:PySem.W.takesIn K (.builtin "object.__class__")=some true)(ub1:(PySem.W.clsIn K C_BridgeError).isSome=true)(ub2:PySem.W.typeIn K (.ref C_BridgeError)=some (.type "type"))(ub3:mroIn K C_BridgeError (.type "BaseException")=some true)(z_ValueError:nsIn K mainGlobals "ValueError" = some none)(z_abs:nsIn K mainGlobals "abs" = some none)(z_bool:nsIn K mainGlobals "bool" = some none)(z_enumerate:nsIn K mainGlobals "enumerate" = some none)(z_int:nsIn K mainGlobals "int" = some none)(z_isinstance:nsIn K mainGlobals "isinstance" = some none)(z_len:nsIn K mainGlobals "len" = some none)(z_list:nsIn K mainGlobals "list" = some none)(z_max:nsIn K mainGlobals "max" = some none)(z_min:nsIn K mainGlobals "min" = some none)(z_range:nsIn K mainGlobals "range" = some none)(z_reversed:nsIn K mainGlobals "reversed" = some none)(z_set:nsIn K mainGlobals "set" = some none)(z_sorted:nsIn K mainGlobals "sorted" = some none)(z_sum:nsIn K mainGlobals "sum" = some none)(z_tuple:nsIn K mainGlobals "tuple" = some none)(z_zip:nsIn K mainGlobals "zip" = some none)(y_KNOT_NUMBERS:nsIn K mainGlobals "KNOT_NUMBERS" = some (some (.int 64 t_KNOT_NUMBERS)))(y_TURNS:nsIn K mainGlobals "TURNS" = some (some (.int 5 t_TURNS)))(y_MOST_KNOTS:nsIn K mainGlobals "MOST_KNOTS" = some (some (.int 40 t_MOST_KNOTS)))(y_MOST_KEYS:nsIn K mainGlobals "MOST_KEYS" = some (some (.int 300 t_MOST_KEYS))) :
  ∃ fd:FuncData,(∀(s:Shared) (v:Value),BindsTo s fd ⟨[v],[]⟩ [("_law_script",v)])∧∀ base:Heap,K.In base→base.Ns mainGlobals mg→L2.BMAt mg base→FnOk l.prog w K mg base CX0 lawRoom fa fd ["_law_script"] (zhA K mp6):=by
 obtain ⟨f,oc,od,kV,dc,pm,an,cd,ct,sl,a,l,c,k⟩:=a37.ex;have e:=hfa.symm.trans (mg_of X G a);cases e
 have T:Txt K mg:=⟨mg_none_of X G z_ValueError,mg_none_of X G z_abs,mg_none_of X G z_bool,mg_none_of X G z_enumerate,mg_none_of X G z_int,mg_none_of X G z_isinstance,mg_none_of X G z_len,mg_none_of X G z_list,mg_none_of X G z_max,mg_none_of X G z_min,mg_none_of X G z_range,mg_none_of X G z_reversed,mg_none_of X G z_set,mg_none_of X G z_sorted,mg_none_of X G z_sum,mg_none_of X G z_tuple,mg_none_of X G z_zip,⟨_,mg_of X G y_KNOT_NUMBERS⟩,⟨_,mg_of X G y_TURNS⟩,⟨_,mg_of X G y_MOST_KNOTS⟩,⟨_,mg_of X G y_MOST_KEYS⟩⟩;have CL:Cls K mg C_BridgeError C_NoTree C_NoWay C_NoStand C_Twice C_Missing C_NoRoom C_NoKnot C_NoKey C_NoOrder C_NoRow C_NoText C_Shelf:=⟨mg_of X G u_BridgeError,mg_of X G u_NoTree,mg_of X G u_NoWay,mg_of X G u_NoStand,mg_of X G u_Twice,mg_of X G u_Missing,mg_of X G u_NoRoom,mg_of X G u_NoKnot,mg_of X G u_NoKey,mg_of X G u_NoOrder,mg_of X G u_NoRow,mg_of X G u_NoText,mg_of X G u_Shelf,⟨mg_of X G u_NoKnot,ue_NoKnot⟩,⟨ux0_NoKnot,ux1_NoKnot,ux2_NoKnot,ug1,ug2,ux3_NoKnot,ux4_NoKnot,ux5_NoKnot⟩,⟨ux6_NoKnot,ub1,ub2,ub3⟩,ux7_NoKnot,uk_NoKnot_BridgeError,uk_NoKnot_NoTree,uk_NoKnot_NoWay,uk_NoKnot_NoStand,uk_NoKnot_Twice,uk_NoKnot_Missing,uk_NoKnot_NoRoom,uk_NoKnot_NoKnot,uk_NoKnot_NoKey,uk_NoKnot_NoOrder,uk_NoKnot_NoRow,uk_NoKnot_NoText,uk_NoKnot_Shelf,⟨mg_of X G u_NoKey,ue_NoKey⟩,⟨ux0_NoKey,ux1_NoKey,ux2_NoKey,ug1,ug2,ux3_NoKey,ux4_NoKey,ux5_NoKey⟩,⟨ux6_NoKey,ub1,ub2,ub3⟩,ux7_NoKey,uk_NoKey_BridgeError,uk_NoKey_NoTree,uk_NoKey_NoWay,uk_NoKey_NoStand,uk_NoKey_Twice,uk_NoKey_Missing,uk_NoKey_NoRoom,uk_NoKey_NoKnot,uk_NoKey_NoKey,uk_NoKey_NoOrder,uk_NoKey_NoRow,uk_NoKey_NoText,uk_NoKey_Shelf,⟨mg_of X G u_Twice,ue_Twice⟩,⟨ux0_Twice,ux1_Twice,ux2_Twice,ug1,ug2,ux3_Twice,ux4_Twice,ux5_Twice⟩,⟨ux6_Twice,ub1,ub2,ub3⟩,ux7_Twice,uk_Twice_BridgeError,uk_Twice_NoTree,uk_Twice_NoWay,uk_Twice_NoStand,uk_Twice_Twice,uk_Twice_Missing,uk_Twice_NoRoom,uk_Twice_NoKnot,uk_Twice_NoKey,uk_Twice_NoOrder,uk_Twice_NoRow,uk_Twice_NoText,uk_Twice_Shelf,⟨mg_of X G u_NoRoom,ue_NoRoom⟩,⟨ux0_NoRoom,ux1_NoRoom,ux2_NoRoom,ug1,ug2,ux3_NoRoom,ux4_NoRoom,ux5_NoRoom⟩,⟨ux6_NoRoom,ub1,ub2,ub3⟩,ux7_NoRoom,uk_NoRoom_BridgeError,uk_NoRoom_NoTree,uk_NoRoom_NoWay,uk_NoRoom_NoStand,uk_NoRoom_Twice,uk_NoRoom_Missing,uk_NoRoom_NoRoom,uk_NoRoom_NoKnot,uk_NoRoom_NoKey,uk_NoRoom_NoOrder,uk_NoRoom_NoRow,uk_NoRoom_NoText,uk_NoRoom_Shelf⟩;have O:OwnC K mg CS:=⟨⟨o_g,o_h,o_p,o_s⟩,mg_of X G o_C,o_nkept,o_nfulls⟩;exact ⟨_,fun s v=>.of_eq rfl,fun base _ _ hBM=>(all_ok (P:=_) (w:=w) (base:=base) T CL O hBM (a1.df X G) (a2.df X G) (a3.df X G) (a4.df X G) (a5.df X G) (a6.dft X G t6 h6) (a7.df X G) (a8.df X G) (a9.df X G) (a10.df X G) (a11.df X G) (a12.df X G) (a13.df X G) (a14.df X G) (a15.df X G) (a16.df X G) (a17.df X G) (a18.df X G) (a19.df X G) (a20.df X G) (a21.df X G) (a22.df X G) (a23.df X G) (a24.df X G) (a25.df X G) (a26.df X G) (a27.df X G) (a28.df X G) (a29.df X G) (a30.df X G) (a31.df X G) (a32.df X G) (a33.df X G) (a34.df X G) (a35.df X G) (a36.df X G) (a37.df X G) (o_Shelf___init__.di o_m o_k) (o_Shelf_row_for.dm) (o_Shelf_carry_up.dm) (o_Shelf_put.dm) (o_Shelf_out.dm) (o_Shelf_stand.dm) (o_Shelf_full.dm)).at (mg_of X G a) l⟩
theorem walk {l:OpenLaw}{q:Program}{loose:List Str}{XP:(Str→Option Value)→Heap→Prop}{YP:World→Heap→Prop}{d:DefRec}{K:Params→Frag}{mc mp:Addr}(hn:l.most=some 63)(hdf:d.params.defaults=[])
  (hY:∀(w:World) (h:Heap),YP w h→(K w.params).In h) (hYT:∀(w:World) (h:Heap),YP w h→h.get? mp=some (PySem.W.tabObj #[])) (hC:∀(w:World),codeHdIn (K w.params) mc mp=true) (hC2:∀(w:World),(K w.params).lookup mp=none)
  (F:∀(w:World) (mg:Str→Option Value) (fa:Addr) (h:Heap),(K w.params).In h→h.Ns mainGlobals mg→mg d.name=some (.ref fa)→
   ∃ fd:FuncData,(∀(s:Shared) (u:Value),BindsTo s fd ⟨[u],[]⟩ [("_law_script",u)])∧∀ base:Heap,(K w.params).In base→base.Ns mainGlobals mg→L2.BMAt mg base→FnOk l.prog w (K w.params) mg base CX0 lawRoom fa fd ["_law_script"] (zhA (K w.params) mp)) :
  PySem.W.WalkO q loose XP YP l.row.toRowW d [] (fun f vs=>PySem.call f vs):=
 L2.zmR (n:=63) (k:=lawRoom) (x := "_law_script") (tabs:=[(mc,mp)]) (sp:=fun w=>zhA (K w.params) mp) hn (by decide) hdf ⟨rfl,by decide,by decide,rfl⟩ hY (fun w h Y q hq=>by rw[yag.mp hq];exact hYT w h Y) (fun w q hq=>by rw[yag.mp hq];exact ⟨hC w,hC2 w⟩) F (fun _ _ a ns hl hT hS=>⟨a,ns,rfl,hS,hl,hT (mc,mp) (yag.mpr rfl),fun _=>rfl⟩)
end My
open PySem PySem.W PyProof.Rows
namespace PySem.W.Fast
def tw5482790480120934573:=0
def tw9425120952907463679:=0
def tw10678338851811552626:=0
def tw7739130918619260025:=0
def tw4570974512090414426:=0
def tw3698288015002220867:=0
def tw13852784895632783100:=0
def tw240132819101232355:=0
def tw14531836766522189038:=0
def tw10906558221395767850:=0
def tw8795074329484590426:=0
def tw899224023452581695:=0
def tw16257887797264125027:=0
def tw4279937011753904467:=0
def tw15388974617880667979:=0
def tw975120600338788110:=0
def tw977682644461873906:=0
def tw10941060860339553713:=0
def tw8977974159633958389:=0
def tw16580001622433127423:=0
def tw920771302415665898:=0
def tw99283348899816984:=0
def tw5117741911918565902:=0
def tw11544626554586299178:=0
def tw16328728556964683096:=0
def tw16495759367460116705:=0
def tw14373689179163197727:=0
def tw13115295060017511183:=0
def tw4698950095573198593:=0
def tw15878342785168099830:=0
def tw14399180221219728404:=0
def tw7713717763929398266:=0
def tw13995264003236434804:=0
def tw15422392349284413533:=0
def tw14703099714600380381:=0
def tw3626800856393034427:=0
def tw9844873561778057733:=0
def tw3176899885003692158:=0
def tw7124466778806255173:=0
def tw6441485141512436725:=0
def tw1379414341469466021:=0
def tw4722826735974530066:=0
def tw14495942368137772055:=0
def tw17877316513731274066:=0
def tw9469101475220709666:=0
def tw3191129615460411109:=0
def tw350545076983312840:=0
def tw245372088181700327:=0
def tw11767535154498650889:=0
def tw8343384450843150658:=0
def tw9118328728101249833:=0
def tw1514465401858004480:=0
def tw17720995935930246775:=0
def tw13541742874108928017:=0
def tw2065272841707845015:=0
def tw15971962702632405737:=0
def tw15160454017357568883:=0
def tw13271079045736734670:=0
def tw8986857175747805805:=0
def tw2988677382079284539:=0
def tw270911769898777906:=0
def tw7243184709066625899:=0
def tw16307302524785934974:=0
def tw17811372397966710599:=0
def tw12297263974428920505:=0
def tw3969438340681333832:=0
def tw13108811128828927137:=0
def tw18296109347866700876:=0
def tw13903494434105941014:=0
def tw4580452627599066136:=0
def tw6894225435079551614:=0
def tw14825958118515098364:=0
def tw11089744363544280209:=0
def tw13374122022327655148:=0
def tw16576014903531291754:=0
def tw15264815828523215:=0
def tw18003099470814052958:=0
def tw15869938074997627283:=0
def tw14692941403377939268:=0
def tw8704091360197033181:=0
def tw9724470455828916034:=0
def tw2838649983934094573:=0
def tw3001366624372171751:=0
def tw14399786428074933098:=0
def tw13371564819500994771:=0
def tw2626790556087687617:=0
def tw1277821190177922687:=0
def tw572494437764250091:=0
def tw297769817421471111:=0
def tw5378849357432556558:=0
def tw14687485742830950138:=0
def tw5465393587286171427:=0
def tw8548618937916300479:=0
def tw10779898949055541599:=0
def tw6684981386024572938:=0
def tw9672569913675087882:=0
def tw17740054895877565672:=0
def tw10446103726588198259:=0
def tw14571500184924609151:=0
def tw195803913282402008:=0
def tw13659452770623700836:=0
def tw16593860981828899476:=0
def tw4304582611407134284:=0
def tw11905027368393105748:=0
def tw4791774877310057328:=0
def tw16110839495131570427:=0
def tw14469981310211079147:=0
def tw13111039980314621423:=0
def tw5829391867101805674:=0
def tw2538865100375435366:=0
def tw12098423012458899364:=0
def tw16610239829730681509:=0
def tw6301952756527620853:=0
def tw8417782965358810979:=0
def tw1920375396541481733:=0
def tw1917896657211698670:=0
def tw16124544275100328920:=0
def tw10460598255567489541:=0
def tw971171978968172534:=0
def tw10243854745925239043:=0
def tw5604319967190575300:=0
def tw8271683808002414067:=0
def tw9051506485156790307:=0
def tw5873100456196563263:=0
def tw6959658484340966973:=0
def tw154865967472380803:=0
def tw9256960030280144778:=0
def tw14825962605082830229:=0
def tw1019603331343974061:=0
def tw582871701859872623:=0
def tw10342429978154655224:=0
def tw7231980944175276359:=0
def tw6377807420178373119:=0
def tw17180218791169821118:=0
def tw1084555547792359016:=0
def tw234671439769180798:=0
def tw5826727631870745530:=0
def tw1001271803484094292:=0
def tw959668083761888050:=0
def tw638867847554016145:=0
def tw4540664320667859508:=0
def tw14339688569673044539:=0
def tw11924055986545750687:=0
def tw11080479238827497418:=0
def tw10836602209864198351:=0
def tw5080647732651729166:=0
def tw6165872759517805466:=0
def tw13568578353281882458:=0
def tw18376673730417369802:=0
def tw11058549194603780874:=0
def tw11535092212700128463:=0
def tw9822650578666404901:=0
def tw3775663102064063772:=0
def tw10624156263516722940:=0
def tw6991027590011697836:=0
def tw9507265458053257938:=0
def tw7317321849053226622:=0
def tw6969025874567662204:=0
def tw6877341807940943932:=0
def tw3445579357036852135:=0
def tw3241004845102414114:=0
def tw11026022380482558772:=0
def tw10754002987659725470:=0
def tw10391473950270639313:=0
def tw10204651571983888998:=0
def tw11678779420975073667:=0
def tw525160054043730105:=0
def tw5821147144636792395:=0
def tw12309764796996600866:=0
def tw1344684270094447313:=0
def tw14241623074702581351:=0
def tw11410710736566292876:=0
def tw6062112659190876202:=0
def tw358818102557306173:=0
def tw11684899686957293363:=0
def tw17202778726031717459:=0
def tw2371736220417756576:=0
def tw97046146763337325:=0
def tw14185121069006911600:=0
def tw8830655171238255449:=0
def tw16999763155956123532:=0
def tw18169357674779298781:=0
def tw16166287040434639771:=0
def tw12262330872060649139:=0
def tw3774708853821693433:=0
def tw17865033084734071962:=0
def tw7522226063743602752:=0
def tw15035957767623126212:=0
def tw11489302864416863650:=0
def tw12433953107613627262:=0
def tw5876075661791194409:=0
def tw15472314472677995803:=0
def tw16839653424956206292:=0
def tw1651248848754750180:=0
def tw16095720133239730911:=0
def tw9800827197113716714:=0
def tw984441734004590415:=0
def tw14859201593152511199:=0
def tw3509458328465429125:=0
def tw514532665819345542:=0
def tw5109371146750569797:=0
def tw15724606675512206586:=0
def tw15024523741444770975:=0
def tw387614284300497066:=0
def tw16107030851146504419:=0
def tw1605003873168523680:=0
def tw3667659073591553731:=0
def tw1878447696082500809:=0
def tw9794656651837608674:=0
def tw6489815134016032563:=0
def tw3323908851305387734:=0
def tw10561658481957709324:=0
def tw17173321302116053866:=0
def tw13136359859781128243:=0
def tw17917499315078550242:=0
def tw7939528005410545498:=0
def tw7094908685547531070:=0
def tw5890988276423984697:=0
def tw5447063033719708033:=0
def tw73461601387692089:=0
def tw12046544071094352460:=0
def tw7714078860503679773:=0
def tw18221108172806204604:=0
def tw12606768960115371557:=0
def tw12320288658031724386:=0
def tw6683250261171753347:=0
def tw7032389020701427907:=0
def tw18084624304651172983:=0
def tw10468955661392262278:=0
def tw5685274842059138319:=0
def tw15386508594250545930:=0
def tw13987136008768259081:=0
def tw12085670498311340683:=0
def tw12253532307211305317:=0
def tw1532668747972696762:=0
def tw14023796829765009381:=0
def tw6742684436510524525:=0
def tw5237716008378904347:=0
def tw17007454711596929604:=0
def tw4198369843393956185:=0
def tw4787749439898487376:=0
def tw10025127212695675480:=0
def tw10071853778901088382:=0
def tw6424481553544191239:=0
def tw7925707731451666008:=0
def tw14686536996331881528:=0
def tw1727280248217394283:=0
def tw14802938560262363044:=0
def tw14501038255721587215:=0
def tw14363079409704125149:=0
def tw11229340911528066721:=0
def tw1005011926766725724:=0
def tw976741040812723444:=0
def tw7699918806418345159:=0
def tw17275844213169371576:=0
def tw9615134069857251646:=0
def tw7226151122881355581:=0
def tw2043963062408056674:=0
def tw14096263129451117202:=0
def tw18036315321805769709:=0
def tw7607133709505298535:=0
def tw18177927029129134047:=0
end PySem.W.Fast
set_option maxRecDepth 100000 in
set_option maxHeartbeats 0 in
theorem PySem.Challenge.cw_bridgefind_k51_full_shelves_holds : PySem.Challenge.rw_bridgefind_k51_full_shelves.Holds := by
 w_on; o_law; k_head; (case hw=>w_witness2)
 k_fill
 refine My.walk (l:=PySem.Challenge.rw_bridgefind_k51_full_shelves) (mc:=214) (mp:=210) rfl rfl (fun w h Y=>PySem.W.km_in_of Y) (fun w h Y=>PySem.W.km_tabs_of Y 210 yaF) (fun w=>by kernel_rfl) (fun w=>by kernel_rfl) ?F
 case F=>
  intro w mg fa h KX G hmg
  refine' My.zrq (mc6:=214) (mp6:=210) KX G hmg ?_ ?_ ?_ ?_ ?_ ?_ ?_ ?_ ?_ ?_ ?_ ?_ ?_ ?_ ?_ ?_ ?_ ?_ ?_ ?_ ?_ ?_ ?_ ?_ ?_ ?_ ?_ ?_ ?_ ?_ ?_ ?_ ?_ ?_ ?_ ?_ ?_ ?_ ?_ ?_ ?_ ?_ ?_ ?_ ?_ ?_ ?_ ?_ ?_ ?_ ?_ ?_ ?_ ?_ ?_ ?_ ?_ ?_ ?_ ?_ ?_ ?_ ?_ ?_ ?_ ?_ ?_ ?_ ?_ ?_ ?_ ?_ ?_ ?_ ?_ ?_ ?_ ?_ ?_ ?_ ?_ ?_ ?_ ?_ ?_ ?_ ?_ ?_ ?_ ?_ ?_ ?_ ?_ ?_ ?_ ?_ ?_ ?_ ?_ ?_ ?_ ?_ ?_ ?_ ?_ ?_ ?_ ?_ ?_ ?_ ?_ ?_ ?_ ?_ ?_ ?_ ?_ ?_ ?_ ?_ ?_ ?_ ?_ ?_ ?_ ?_ ?_ ?_ ?_ ?_ ?_ ?_ ?_ ?_ ?_ ?_ ?_ ?_ ?_ ?_ ?_ ?_ ?_ ?_ ?_ ?_ ?_ ?_ ?_ ?_ ?_ ?_ ?_ ?_ ?_ ?_ ?_ ?_ ?_ ?_ ?_ ?_ ?_ ?_ ?_ ?_ ?_ ?_ ?_ ?_ ?_ ?_ ?_ ?_ ?_ ?_ ?_ ?_ ?_ ?_ ?_ ?_
  any_goals k_is
  all_goals first | refine' My.AD.of ?_ ?_ ?_ ?_ | refine' My.AM.of ?_ ?_ ?_ ?_ ?_ | skip
  any_goals k_is
  all_goals kernel_rfl

