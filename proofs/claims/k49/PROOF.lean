import PyProof.Rows.All
import Wide.All
import OpenK.AllK
import Wide.FinOn
import PyProof.EqAt
import PyProof.EqKinds
import PyProof.TupleCall
import PyProof.NeKinds
import Lean
import PyProof.ReprRoads
import PyProof.CallStr
import PyProof.Rows.SeqMore2
import PySem.Challenge.RW_bridgefind_k49_whole_as_made_anew
set_option Elab.async false
set_option linter.all false
set_option maxRecDepth 100000
local macro_rules | `(tactic| omega)=>`(tactic| lia)
open PySem.W (Frag nsIn codeIn keepIn tabIn codeHdIn mg_of mg_none_of fnOf OpenLaw kitOne mroIn findIn)
abbrev yaa:=@Nat.le_refl
abbrev yab:=@List.length_map
abbrev yac:=@List.getElem?_eq_getElem
abbrev yad:=@Option.some.inj
abbrev yae:=@decide_eq_true
abbrev yaf:=@List.getD_eq_getElem?_getD
abbrev yag:=@PySem.Heap.lt_size
abbrev yah:=@decide_eq_false
abbrev yai:=@List.mem_append
abbrev yaj:=@List.mem_singleton
abbrev yak:=@List.mem_cons
abbrev yal:=@PySem.Heap.get?_push_of_some
abbrev yam:=@List.getElem?_eq_some_iff
abbrev yan:=@List.length_take
abbrev yao:=@List.take_of_length_le
abbrev yap:=@List.length_append
abbrev yaq:=@List.size_toArray
abbrev yar:=@List.map_cons
abbrev yas:=@Nat.ne_of_lt
abbrev yat:=@List.getElem?_map
abbrev yau:=@Array.length_toList
abbrev yav:=@List.map_append
abbrev yaw:=@Nat.le_trans
abbrev yax:=@Nat.lt_of_lt_of_le
abbrev yay:=@Bool.false_ne_true
abbrev yaz:=@List.getElem_of_mem
abbrev yaA:=@List.mem_cons_of_mem
abbrev yaB:=@PySem.Heap.get?_push_size
abbrev yaC:=@List.mem_append_right
abbrev yaD:=@List.mem_of_getElem?
abbrev yaE:=@List.mem_map
abbrev yaF:=@Nat.zero_le
abbrev yaG:=@List.pairwise_append
abbrev yaH:=@List.sum_cons
abbrev yaI:=@List.length_cons
abbrev yaJ:=@List.append_nil
abbrev yaK:=@List.take_succ_eq_append_getElem
abbrev yaL:=@List.mem_cons_self
abbrev yaM:=@List.length_drop
abbrev yaN:=@List.getElem_mem
abbrev yaO:=@List.nodup_cons
abbrev yaP:=@List.take_append_drop
abbrev yaQ:=@List.append_assoc
abbrev yaR:=@Array.toList_append
abbrev yaS:=@List.not_mem_nil
abbrev yaT:=@of_decide_eq_true
abbrev yaU:=@Nat.lt_of_le_of_lt
abbrev yaV:=@List.pairwise_iff_getElem
abbrev yaW:=@Bool.false_eq_true
abbrev yaX:=@List.drop_eq_nil_of_le
abbrev yaY:=@List.getElem?_eq_none
abbrev yaZ:=@List.mem_append_left
abbrev ya0:=@Array.getElem?_toList
abbrev ya1:=@List.all_eq_true
abbrev ya2:=@List.length_filter_le
abbrev ya3:=@Array.getElem?_eq_getElem
abbrev ya4:=@List.lookup_cons
abbrev ya5:=@List.mem_filter
abbrev ya6:=@Nat.add_le_add_right
abbrev ya7:=@List.nodup_append
abbrev ya8:=@Nat.le_of_lt
abbrev ya9:=@Int.toNat_natCast
abbrev yba:=@List.any_cons
abbrev ybb:=@List.ext_getElem?
abbrev ybc:=@List.mem_range
abbrev ybd:=@Nat.le_succ
abbrev ybe:=@List.getElem?_append_right
abbrev ybf:=@List.length_singleton
abbrev ybg:=@List.nodup_nil
abbrev ybh:=@Nat.min_eq_left
abbrev ybi:=@List.length_range
abbrev ybj:=@Nat.lt_irrefl
abbrev ybk:=@Nat.ne_of_gt
abbrev ybl:=@List.getElem?_append_left
abbrev ybm:=@List.length_replicate
abbrev ybn:=@List.getElem_take
abbrev ybo:=@List.map_map
abbrev ybp:=@List.filter_append
abbrev ybq:=@List.filter_cons_of_pos
abbrev ybr:=@Int.natCast_nonneg
abbrev ybs:=@Bool.and_eq_true
abbrev ybt:=@PySem.Heap.get?_update_other
abbrev ybu:=@List.length_nil
abbrev ybv:=@List.mem_of_mem_take
abbrev ybw:=@Nat.add_zero
abbrev ybx:=@List.mem_reverse
abbrev yby:=@Nat.not_lt_zero
abbrev ybz:=@List.filter_eq_nil_iff
abbrev ybA:=@List.length_reverse
abbrev ybB:=@List.mem_or_eq_of_mem_set
abbrev ybC:=@List.find?_cons
abbrev ybD:=@Option.map_eq_some_iff
abbrev ybE:=@List.drop_drop
abbrev ybF:=@List.mem_of_mem_drop
abbrev ybG:=@List.take_zero
abbrev ybH:=@Nat.lt_or_ge
abbrev ybI:=@List.getElem?_cons_succ
abbrev ybJ:=@List.pairwise_map
abbrev ybK:=@Nat.min_eq_right
abbrev ybL:=@List.reverse_cons
abbrev ybM:=@Nat.testBit_succ
abbrev ybN:=@List.getElem?_set
abbrev ybO:=@List.filter_cons_of_neg
abbrev ybP:=@Int.zero_add
abbrev ybQ:=@List.flatten_cons
abbrev ybR:=@List.filterMap_cons
abbrev ybS:=@Bool.eq_iff_iff
abbrev ybT:=@List.of_mem_zip
abbrev ybU:=@List.length_set
abbrev ybV:=@List.all_cons
abbrev ybW:=@List.map_nil
abbrev ybX:=@Array.toList_push
abbrev ybY:=@Bool.not_eq_true'
abbrev ybZ:=@Array.toList_reverse
abbrev yb0:=@List.getElem?_take
abbrev yb1:=@Bool.eq_false_iff
abbrev yb2:=@Nat.pow_succ
abbrev yb3:=@PySem.Heap.size_push
abbrev yb4:=@Nat.lt_succ_self
abbrev yb5:=@List.drop_sublist
abbrev yb6:=@List.drop_eq_getElem_cons
abbrev yb7:=@List.pairwise_cons
abbrev yb8:=@List.perm_append_comm
abbrev yb9:=@Array.toList_extract
abbrev yca:=@List.extract_eq_take_drop
abbrev ycb:=@List.drop_take
abbrev ycc:=@List.reverse_append
abbrev ycd:=@List.drop_zero
abbrev yce:=@List.getElem?_drop
abbrev ycf:=@Bool.not_true
abbrev ycg:=@Int.emod_nonneg
abbrev ych:=@Int.emod_lt_of_pos
abbrev yci:=@Bool.and_true
abbrev ycj:=@List.getElem?_range
abbrev yck:=@List.length_zip
abbrev ycl:=@List.range_succ
abbrev ycm:=@List.filter_eq_self
abbrev ycn:=@List.perm_ext_iff_of_nodup
abbrev yco:=@List.mem_flatten
abbrev ycp:=@List.map_congr_left
abbrev ycq:=@List.flatten_append
abbrev ycr:=@List.pairwise_singleton
abbrev ycs:=@List.map_take
abbrev yct:=@List.getElem?_replicate
abbrev ycu:=@Nat.add_le_add_left
abbrev ycv:=@Array.perm_iff_toList_perm
abbrev ycw:=@Bool.not_eq_false'
abbrev ycx:=@List.reverse_reverse
abbrev ycy:=@List.zip_cons_cons
abbrev ycz:=@List.getElem?_reverse
abbrev ycA:=@List.eq_nil_of_length_eq_zero
abbrev ycB:=@List.length_eq_zero_iff
namespace L2
open PySem PySem.Spec PyProof.Rows
abbrev Key:=Sum Int Str
def zi0:Key→Value→Bool
  | .inl k,v=>Value.isInt k v
  | .inr x,v=>Value.isStrOf x v
def keyH (w:World):Key→Int
  | .inl k=>hashInt k
  | .inr x=>hashStr w x
theorem zaU:∀{k:Key} {v:Value},zi0 k v=true→(∃ i t,k=Sum.inl i∧v=Value.int i t)∨(∃ x t,k=Sum.inr x∧v=Value.str x t)
  | .inl i,v,h=>by
    obtain ⟨t,e⟩:=Value.isInt_shape (k:=i) (v:=v) h;exact .inl ⟨i,t,rfl,e⟩
  | .inr x,v,h=>by
    obtain ⟨t,e⟩:=Value.isStrOf_shape (x:=x) (v:=v) h;exact .inr ⟨x,t,rfl,e⟩
theorem zmv (i:Int)(t:Tok):zi0 (.inl i) (.int i t)=true:=by simp[zi0,Value.isInt]
theorem zmu (x:Str)(t:Tok):zi0 (.inr x) (.str x t)=true:=by simp[zi0,Value.isStrOf]
theorem zrB (a b:Int):decide ((Sum.inl a:Key)=Sum.inl b)=(a == b):=by
  by_cases e:a=b
  · subst e;simp
  · have h:¬ (Sum.inl a:Key)=Sum.inl b:=fun q=>e (Sum.inl.inj q)
    rw[yah h];exact (beq_eq_false_iff_ne.mpr e).symm
theorem zry (a b:Str):decide ((Sum.inr a:Key)=Sum.inr b)=decide (a=b):=by
  by_cases e:a=b
  · subst e;simp
  · have h:¬ (Sum.inr a:Key)=Sum.inr b:=fun q=>e (Sum.inr.inj q)
    rw[yah h,yah e]
theorem zrA (a:Int)(b:Str):decide ((Sum.inl a:Key)=Sum.inr b)=false:=yah (fun q=>nomatch q)
theorem zrz (a:Str)(b:Int):decide ((Sum.inr a:Key)=Sum.inl b)=false:=yah (fun q=>nomatch q)
def za6 (prog:Program)(w:World):PySem.KeyKind prog w Key where
  is:=zi0
  hash:=keyH w
  inj:=fun v a b ha hb=>by
    rcases zaU ha with ⟨i,t,rfl,rfl⟩ | ⟨x,t,rfl,rfl⟩
    · rcases zaU hb with ⟨j,u,rfl,e⟩ | ⟨y,u,rfl,e⟩
      · injection e with e1 _;rw[e1]
      · exact nomatch e
    · rcases zaU hb with ⟨j,u,rfl,e⟩ | ⟨y,u,rfl,e⟩
      · exact nomatch e
      · injection e with e1 _;rw[e1]
  byValue:=fun k v h=>by
    rcases zaU h with ⟨i,t,rfl,rfl⟩ | ⟨x,t,rfl,rfl⟩ <;> rfl
  pyHash:=fun hv h=>by
    rcases zaU hv with ⟨i,t,rfl,rfl⟩ | ⟨x,t,rfl,rfl⟩
    · exact wpAny_pyHash_int h
    · exact wpAny_pyHash_str h
  eqBool:=fun hu hv h=>by
    rcases zaU hu with ⟨i,t,rfl,rfl⟩ | ⟨x,t,rfl,rfl⟩
    · rcases zaU hv with ⟨j,u,rfl,rfl⟩ | ⟨y,u,rfl,rfl⟩
      · rw[zrB]at h;exact wpAny_eqBool_int h
      · rw[zrA]at h;exact SeqAt.EqAt.int_str i t y u _ _ _ _ h
    · rcases zaU hv with ⟨j,u,rfl,rfl⟩ | ⟨y,u,rfl,rfl⟩
      · rw[zrz]at h;exact SeqAt.EqAt.str_int x t j u _ _ _ _ h
      · rw[zry]at h;exact wpAny_eqBool_str h
  «strs»:=fun k x t v h=>by
    rcases zaU h with ⟨i,u,rfl,e⟩ | ⟨y,u,rfl,e⟩
    · exact nomatch e
    · injection e with e1 _
      subst e1;cases v <;> rfl
theorem zkA (prog:Program)(w:World)(k:Key)(v:Value):(za6 prog w).is k v=zi0 k v:=rfl
theorem ziT (prog:Program)(w:World)(i:Int)(t:Tok):(za6 prog w).is (.inl i) (.int i t)=true:=zmv i t
theorem ziS (prog:Program)(w:World)(x:Str)(t:Tok):(za6 prog w).is (.inr x) (.str x t)=true:=zmu x t
end L2
namespace L2
open PySem PySem.Spec PyProof.Rows
inductive V where
  | non | bl (b:Bool) | int (i:Int) | str (x:Str) | byt (b:Array UInt8) | flt (b:UInt64) | ref (a:Addr) | ty (n:String)
  deriving DecidableEq
def RelV:V→Value→Prop
  | .non,u=>u=Value.none
  | .bl b,u=>u=Value.bool b
  | .int i,u=>∃ t,u=Value.int i t
  | .str x,u=>∃ t,u=Value.str x t
  | .byt b,u=>∃ t,u=Value.bytes b t
  | .flt b,u=>∃ t,u=Value.float b t
  | .ref a,u=>u=Value.ref a
  | .ty n,u=>u=Value.type n
abbrev Vals:List V→List Value→Prop:=Paired RelV
theorem Vals.length {xs:List V}{us:List Value}(r:Vals xs us):xs.length=us.length:=Paired.length r
theorem Vals.get:∀{xs:List V} {us:List Value} {i:Nat} {x:V},Vals xs us→xs[i]?=some x→∃ u,us[i]?=some u∧RelV x u
  | _,_,_,_,.nil,e=>by simp at e
  | _,_,0,_,.cons r _,e=>by simp at e;subst e;exact ⟨_,rfl,r⟩
  | _,_,i+1,x,.cons _ t,e=>by
    obtain ⟨u,h1,h2⟩:=Vals.get (i:=i) (x:=x) t (by simpa using e);exact ⟨u,by simpa using h1,h2⟩
theorem Vals.set {x:V}{u:Value}(r:RelV x u):∀{xs:List V} {us:List Value} (i:Nat),Vals xs us→Vals (xs.set i x) (us.set i u)
  | _,_,_,.nil=>.nil
  | _,_,0,.cons _ t=>.cons r t
  | _,_,i+1,.cons q t=>.cons q (Vals.set r i t)
theorem Vals.append:∀{xs ys:List V} {us ws:List Value},Vals xs us→Vals ys ws→Vals (xs++ys) (us++ws)
  | _,_,_,_,.nil,s=>s
  | _,_,_,_,.cons r t,s=>.cons r (Vals.append t s)
theorem Vals.take:∀{xs:List V} {us:List Value} (n:Nat),Vals xs us→Vals (xs.take n) (us.take n)
  | _,_,0,_=>.nil
  | _,_,_+1,.nil=>.nil
  | _,_,n+1,.cons r t=>.cons r (Vals.take n t)
theorem Vals.drop:∀{xs:List V} {us:List Value} (n:Nat),Vals xs us→Vals (xs.drop n) (us.drop n)
  | _,_,0,r=>r
  | _,_,_+1,.nil=>.nil
  | _,_,n+1,.cons _ t=>Vals.drop n t
def RelO:Option V→Option Value→Prop
  | some v,some u=>RelV v u
  | none,none=>True
  | _,_=>False
def KV {κ:Type}:List (κ×V)→List (κ×Value)→Prop:=Paired fun (p:κ×V) (q:κ×Value)=>p.1=q.1∧RelV p.2 q.2
def kV:Key→V
  | .inl i=>.int i
  | .inr x=>.str x
inductive HO where
  | lst (xs:List V)
  | tup (xs:List V)
  | dK (kvs:List (Key×V)) | dT (kvs:List (List Key×V))
  | set (S:Int→Bool) (n:Nat)
  | ins (C dx:Addr) (fs:List (Str×V))
  | own (x:Addr)
  | xd (fs:List (Str×V))
  | met (f x:Addr)
  | rng (lo hi:Int)
  | frz (o:Obj) (u:HO)
  | tbl (ps:Array Value)
  | ext (φ:Heap→Prop)
abbrev Hp:=Addr→Option HO
def upd (H:Hp)(a:Addr)(o:HO):Hp:=fun b=>if b=a then some o else H b
theorem zab {H:Hp}{a:Addr}{o:HO}:upd H a o a=some o:=by unfold upd;rw[if_pos rfl]
theorem zaf {H:Hp}{a b:Addr}{o:HO}(h:b≠a):upd H a o b=H b:=by unfold upd;rw[if_neg h]
theorem zpl {H:Hp}{a:Addr}{o u:HO}:upd (upd H a o) a u=upd H a u:=by
  funext b;unfold upd;split <;> rfl
theorem zrl {H:Hp}{a b:Addr}{o u:HO}(h:H a=some o)(h':H b=some u)(d:o≠u):a≠b:=by
  intro e;subst e;rw[h]at h';exact d (yad h')
theorem zad {H:Hp}{a b:Addr}{o:HO}(h:H a=some o)(h':H b=none):a≠b:=by
  intro e;subst e;rw[h]at h';cases h'
section
variable (P:Program)(w:World)
def zbl (H:Hp)(h:Heap)(a:Addr):HO→Prop
  | .lst xs=>xs.length≤sizeLine∧∃(its:List Value) (n:Nat),Vals xs its∧h.get? a=some { cls:=.type "list",data:=.seq its.toArray n }
  | .tup xs=>xs.length≤sizeLine∧∃ its:List Value,Vals xs its∧IsTup h a its.toArray
  | .dK kvs=>kvs.length≤sizeLine∧(a == sysModules)=false∧∃ vs,KV kvs vs∧h.DictOf (za6 P w) a vs
  | .dT kvs=>kvs.length≤sizeLine∧(a == sysModules)=false∧∃ xs:List (List Key×Addr×Value),
      Paired (fun (p:List Key×V) (q:List Key×Addr×Value)=>p.1=q.1∧H q.2.1=some (.tup (p.1.map kV))∧RelV p.2 q.2.2) kvs xs∧
      ∃ o es ep,h.get? a=some o∧o.ExactDict∧o.data=.dict es ep∧es.toList=xs.map (entryOfKey (tupleKind (za6 P w)))∧(xs.map (·.1)).Nodup
  | .set S n=>h.SetOf (intKind P w) a S n
  | .ins C dx fs=>H dx=some (.own a)∧fs.length≤1000∧dx≠a∧h.get? a=some (PySem.W.instObj C dx)∧
      ∃ mA,h.Ns1 dx mA∧(∀ f,RelO (fs.lookup f) (mA f))∧PySem.Within mA (fs.map (·.1))
  | .own _=>∃ o,h.get? a=some o
  | .xd fs=>∃ mA,h.Ns1 a mA∧∀ f,RelO (fs.lookup f) (mA f)
  | .rng lo hi=>∃ t u v,h.get? a=some { cls:=.type "range",data:=.fields #[.int lo t,.int hi u,.int 1 v] }
  | .frz o u=>h.get? a=some o∧zbl H h a u
  | .tbl ps=>h.get? a=some { cls:=.none,data:=.fields ps }
  | .met f x=>h.get? a=some (PySem.W.methodObj (.ref f) (.ref x))
  | .ext φ=>φ h∧(∃ o,h.get? a=some o)∧∀ h1 h2:Heap,φ h1→(∀ o,h1.get? a=some o→h2.get? a=some o)→φ h2
def HOk (H:Hp)(h:Heap):Prop:=∀ a o,H a=some o→zbl P w H h a o
end
section
variable {P:Program}{w:World}{H H':Hp}{h h':Heap}{a:Addr}{o:HO}
theorem zbl.lt (x:zbl P w H h a o):a < h.objs.size:=by
  cases o with
  | lst xs=>obtain ⟨_,_,_,_,e⟩:=x;exact yag e
  | tup xs=>obtain ⟨_,_,_,p⟩:=x;exact p.lt
  | dK kvs=>obtain ⟨_,_,_,_,o,_,_,e,_⟩:=x;exact yag e
  | dT kvs=>obtain ⟨_,_,_,_,o,_,_,e,_⟩:=x;exact yag e
  | set S n=>obtain ⟨o,_,_,_,e,_⟩:=x;exact yag e
  | ins C dx fs=>obtain ⟨_,_,_,e,_⟩:=x;exact yag e
  | own y=>obtain ⟨_,e⟩:=x;exact yag e
  | xd fs=>obtain ⟨_,⟨_,_,_,e,_⟩,_⟩:=x;exact yag e
  | rng lo hi=>obtain ⟨_,_,_,e⟩:=x;exact yag e
  | frz ob u=>obtain ⟨e,_⟩:=x;exact yag e
  | tbl ps=>exact yag (show h.get? a=some _ from x)
  | met f y=>exact yag (show h.get? a=some _ from x)
  | ext φ=>obtain ⟨_,⟨_,e⟩,_⟩:=x;exact yag e
theorem Paired.mapP {α β:Type}{F G:α→β→Prop}:∀{l₁:List α} {l₂:List β},Paired F l₁ l₂→(∀ a b,F a b→G a b)→Paired G l₁ l₂
  | _,_,.nil,_=>.nil
  | _,_,.cons r t,f=>.cons (f _ _ r) (Paired.mapP t f)
theorem zbl.stay (x:zbl P w H h a o)(k:∀ b u,(b=a∨H b=some (.own a))→h.get? b=some u→h'.get? b=some u)
    (ho:∀ b,H b=some (.own a)→H' b=some (.own a)) (ht:∀ b xs,H b=some (.tup xs)→H' b=some (.tup xs)):zbl P w H' h' a o:=by
  induction o with
  | lst xs=>obtain ⟨z,its,n,r,e⟩:=x;exact ⟨z,its,n,r,k _ _ (.inl rfl) e⟩
  | tup xs=>obtain ⟨z,its,r,ob,e,c⟩:=x;exact ⟨z,its,r,ob,k _ _ (.inl rfl) e,c⟩
  | dK kvs=>obtain ⟨z,y,vs,r,ob,es,ep,e,c⟩:=x;exact ⟨z,y,vs,r,ob,es,ep,k _ _ (.inl rfl) e,c⟩
  | dT kvs=>
    obtain ⟨z,y,xs,r,ob,es,ep,e,c⟩:=x;exact ⟨z,y,xs,Paired.mapP r fun p q z=>⟨z.1,ht _ _ z.2.1,z.2.2⟩,ob,es,ep,k _ _ (.inl rfl) e,c⟩
  | set S n=>obtain ⟨ob,es,ep,t,e,c⟩:=x;exact ⟨ob,es,ep,t,k _ _ (.inl rfl) e,c⟩
  | ins C dx fs=>
    obtain ⟨d,z,ne,e,mA,⟨od,es,ep,e2,c⟩,r⟩:=x;exact ⟨ho _ d,z,ne,k _ _ (.inl rfl) e,mA,⟨od,es,ep,k _ _ (.inr d) e2,c⟩,r⟩
  | own y=>obtain ⟨ob,e⟩:=x;exact ⟨ob,k _ _ (.inl rfl) e⟩
  | xd fs=>obtain ⟨mA,⟨od,es,ep,e,c⟩,r⟩:=x;exact ⟨mA,⟨od,es,ep,k _ _ (.inl rfl) e,c⟩,r⟩
  | rng lo hi=>obtain ⟨t,u,v,e⟩:=x;exact ⟨t,u,v,k _ _ (.inl rfl) e⟩
  | frz ob u ih=>obtain ⟨e,q⟩:=x;exact ⟨k _ _ (.inl rfl) e,ih q⟩
  | tbl ps=>
    have e:h.get? a=some { cls:=.none,data:=.fields ps }:=x;show h'.get? a=some { cls:=.none,data:=.fields ps };exact k a _ (.inl rfl) e
  | met f y=>
    have e:h.get? a=some (PySem.W.methodObj (.ref f) (.ref y)):=x;show h'.get? a=some (PySem.W.methodObj (.ref f) (.ref y));exact k a _ (.inl rfl) e
  | ext φ=>obtain ⟨p,⟨o,e⟩,st⟩:=x;exact ⟨st _ _ p fun o q=>k _ _ (.inl rfl) q,⟨o,k _ _ (.inl rfl) e⟩,st⟩
theorem HOk.lt (x:HOk P w H h)(e:H a=some o):a < h.objs.size:=(x a o e).lt
theorem HOk.fresh (x:HOk P w H h)(e:h.objs.size≤a):H a=none:=by
  cases q:H a with
  | none=>rfl
  | some u=>exact absurd (yax (x.lt q) e) (ybj _)
theorem HOk.kept (x:HOk P w H h)(k:∀ b u,h.get? b=some u→h'.get? b=some u):HOk P w H h':=fun a o e=>
  (x a o e).stay (fun b u _ q=>k b u q) (fun _ q=>q) fun _ _ q=>q
theorem HOk.laid (x:HOk P w H h)(k:∀ b u,h.get? b=some u→h'.get? b=some u)(hp:h.objs.size≤a)(new:zbl P w (upd H a o) h' a o):HOk P w (upd H a o) h':=fun b u e=>by
  have hn:=x.fresh hp;by_cases hb:b=a
  · subst hb;rw[zab]at e;cases e;exact new
  · rw[zaf hb]at e
    exact (x b u e).stay (fun c v _ q=>k c v q) (fun c q=>by rw[zaf (zad q hn)];exact q) fun c xs q=>by rw[zaf (zad q hn)];exact q
end
def Rd (H:Hp)(a:Addr)(u:HO):Prop:=H a=some u∨∃ o,H a=some (.frz o u)
theorem Rd.ok {P:Program}{w:World}{H:Hp}{h:Heap}{a:Addr}{u:HO}(r:Rd H a u)(x:HOk P w H h):zbl P w H h a u:=by
  rcases r with r | ⟨o,r⟩
  · exact x a u r
  · obtain ⟨_,q⟩:=x a _ r
    exact q
def Mut:Option HO→Prop
  | some (.lst _)=>True
  | some (.dK _)=>True
  | some (.dT _)=>True
  | some (.set _ _)=>True
  | some (.ins _ _ _)=>True
  | some (.ext _)=>True
  | _=>False
section
variable {P:Program}{w:World}{H:Hp}{h h':Heap}{x e:Addr}{o':HO}
theorem HOk.write (ok:HOk P w H h)(mu:Mut (H x))(he:e=x∨H e=some (.own x))(k:∀ b u,b≠e→h.get? b=some u→h'.get? b=some u)(heo:∃ u,h'.get? e=some u)
    (new:zbl P w (upd H x o') h' x o'):HOk P w (upd H x o') h':=fun b u q=>by
  have nown:∀ c y,H c=some (.own y)→c≠x:=fun c y r z=>by subst z;rw[r]at mu;exact mu
  have ntup:∀ c xs,H c=some (.tup xs)→c≠x:=fun c xs r z=>by subst z;rw[r]at mu;exact mu
  by_cases hb:b=x
  · subst hb;rw[zab]at q;cases q;exact new
  · rw[zaf hb]at q
    by_cases hbe:b=e
    · have q':H b=some (.own x):=by
        rcases he with z | z
        · exact absurd (hbe.trans z) hb
        · rw[hbe];exact z
      rw[q]at q';cases q'
      obtain ⟨v,hv⟩:=heo;exact ⟨v,by rw[hbe];exact hv⟩
    · refine (ok b u q).stay (fun c v hc r=>k c v ?_ r) (fun c r=>by rw[zaf (nown c b r)];exact r) fun c xs r=>by rw[zaf (ntup c xs r)];exact r
      rcases hc with rfl | hc
      · exact hbe
      · rintro rfl
        rcases he with z | z
        · exact nown c b hc z
        · rw[hc]at z;cases z;exact hb rfl
end
structure Un (fs ex:List Addr)(H H':Hp)(h h':Heap):Prop where
  keep:∀ b o,h.get? b=some o→H b=none→b∉fs→b∉ex→h'.get? b=some o
  slot:∀ b o,h.get? b=some o→H b=none→b∈fs→b∉ex→∃ sl,h'.get? b=some { o with slots:=sl }
  free:∀ b o,h.get? b=some o→H b=none→b∉ex→H' b=none
  there:∀ b o,h.get? b=some o→b∉ex→∃ o',h'.get? b=some o'
  tups:∀ b xs,H b=some (.tup xs)→H' b=some (.tup xs)
  frzs:∀ b o u,H b=some (.frz o u)→H' b=some (.frz o u)
  tbls:∀ b ps,H b=some (.tbl ps)→∃ more,H' b=some (.tbl (ps++more))
section
variable {fs fs' ex ex':List Addr}{H H1 H2:Hp}{h h1 h2 h':Heap}{a x e:Addr}{o:HO}
theorem Un.any (u:Un fs ex H H1 h h1){b:Addr}{ob:Obj}(q:h.get? b=some ob)(n:H b=none)(hx:b∉ex):∃ sl,h1.get? b=some { ob with slots:=sl }:=by
  by_cases hb:b∈fs
  · exact u.slot b ob q n hb hx
  · exact ⟨ob.slots,u.keep b ob q n hb hx⟩
theorem Un.kept (k:∀ b u,h.get? b=some u→h'.get? b=some u):Un fs ex H H h h':=
  ⟨fun b ob q _ _ _=>k b ob q,fun b ob q _ _ _=>⟨ob.slots,k b ob q⟩,fun _ _ _ n _=>n,fun b ob q _=>⟨ob,k b ob q⟩,fun _ _ q=>q,fun _ _ _ q=>q,fun _ ps q=>⟨#[],by rw[q];simp⟩⟩
theorem Un.refl:Un fs ex H H h h:=Un.kept fun _ _ q=>q
theorem Un.laid (k:∀ b u,h.get? b=some u→h'.get? b=some u)(hp:h.objs.size≤a)(hn:H a=none):Un fs ex H (upd H a o) h h' where
  keep:=fun b u q _ _ _=>k b u q
  slot:=fun b u q _ _ _=>⟨u.slots,k b u q⟩
  free:=fun b u q n _=>by rw[zaf (yas (yax (yag q) hp))];exact n
  there:=fun b u q _=>⟨u,k b u q⟩
  tups:=fun b xs q=>by rw[zaf (zad q hn)];exact q
  frzs:=fun b u xs q=>by rw[zaf (zad q hn)];exact q
  tbls:=fun b ps q=>⟨#[],by rw[zaf (zad q hn),q];simp⟩
theorem Un.write (mu:Mut (H x))(he:e=x∨H e=some (.own x))(k:∀ b u,b≠e→h.get? b=some u→h'.get? b=some u)(heo:∃ u,h'.get? e=some u):Un fs ex H (upd H x o) h h':=by
  have hx:∀ b,H b=none→b≠x:=fun b n z=>by subst z;rw[n]at mu;exact mu
  have hb:∀ b,H b=none→b≠e:=fun b n z=>by
    subst z;rcases he with r | r
    · exact hx b n r
    · rw[n]at r;cases r
  have hm:∀ b u,H b=some u→¬ Mut (some u)→b≠x:=fun b u q nm z=>by subst z;rw[q]at mu;exact nm mu
  refine ⟨fun b u q n _ _=>k b u (hb b n) q,fun b u q n _ _=>⟨u.slots,k b u (hb b n) q⟩,fun b u q n _=>by rw[zaf (hx b n)];exact n,fun b u q _=>?_,
    fun b xs q=>by rw[zaf (hm b _ q fun z=>z)];exact q,fun b u xs q=>by rw[zaf (hm b _ q fun z=>z)];exact q,fun b ps q=>⟨#[],by rw[zaf (hm b _ q fun z=>z),q];simp⟩⟩
  by_cases hbe:b=e
  · subst hbe;exact heo
  · exact ⟨u,k b u hbe q⟩
end
def trk (h:Heap)(H:Hp):List Addr:=(List.range h.objs.size).filter fun a=>(H a).isSome
def hidT (h:Heap)(H:Hp):Heap:=PySem.W.hideAll h (trk h H)
theorem zmD (h:Heap)(H:Hp):(hidT h H).objs.size=h.objs.size:=PySem.W.hideAll_size _ _
theorem zom {h:Heap}{H:Hp}{b:Addr}{o:Obj}(e:h.get? b=some o)(n:H b=none):(hidT h H).get? b=some o:=
  PySem.W.hideAll_get _ e fun hm=>by
    have q:(H b).isSome=true:=(ya5.mp hm).2;rw[n]at q;simp at q
theorem zpX {h:Heap}{H:Hp}{b:Addr}{o:Obj}(e:(hidT h H).get? b=some o):h.get? b=some o∧H b=none:=by
  have e':h.get? b=some o:=PySem.W.of_hideAll (trk h H) e;refine ⟨e',?_⟩;cases q:H b with
  | none=>rfl
  | some x=>
    have hm:b∈trk h H:=ya5.mpr ⟨ybc.mpr (yag e'),by simp[q]⟩;have z:(hidT h H).get? b=none:=PySem.W.hideAll_none (trk h H) hm;rw[z]at e;cases e
def zqt (g h:Heap)(L:Addr):List (Addr×Obj):=(List.range h.objs.size).filterMap fun a=>if a=L∨(g.get? a).isSome=true then none else (h.get? a).map fun o=>(a,o)
def rest (g h:Heap)(L d:Addr):List (Addr×Obj):=(zqt g h L).filter fun p=>decide (p.1≠d)
end L2
namespace L2
open PySem PySem.Spec PyProof.Rows
structure Mod (K:Frag)(mg:Str→Option Value)(base:Heap):Prop where
  kin:K.In base
  glob:base.Ns mainGlobals mg
  blt:∃ mb,base.Ns builtinsNs mb∧∀ x:Str,x ≠ "__name__"→mb x=bootBuiltins x
  nolimit:base.NoLimit
structure Cx where
  prog:Program
  w:World
  K:Frag
  mg:Str→Option Value
  base:Heap
  A:Around
  N:List Str
  s₀:Shared
  H₀:Hp
  env:Env
  outer:List Env
  stack:List Env
  ex:List Addr
  fn:Str→Bool
  calm:Bool
  pn:List (Addr×Obj)
  xe:Value→Shared→Prop
def frs (l:List Env):List Addr:=l.filterMap (·.frame)
abbrev Cx.fs (X:Cx):List Addr:=frs X.outer
def Vis (sc:Scope)(x:Str):Prop:=sc.names.lookup x=some .local∨sc.names.lookup x=some .cell∨sc.names.lookup x=some .free
def Loc (sc:Scope)(x:Str):Prop:=sc.names.lookup x=some .local∨sc.names.lookup x=some .cell
def Look (env:Env)(h:Heap)(m:Str→Option Value)(x:Str)(u:Value):Prop:=
  (env.kindOf x=some .local∧m x=some u)∨((env.kindOf x=some .cell∨env.kindOf x=some .free)∧∃ c,env.cells.lookup x=some c∧h.IsCell c (some u))
structure Cx.Ok (X:Cx):Prop where
  mod:Mod X.K X.mg X.base
  kind:X.env.scope.kind=.function
  glob:X.env.globals=mainGlobals
  blt:X.env.builtins=builtinsNs
  above:X.s₀.heap.objs.size≤X.env.locals
  inj:∀ x y c,X.env.cells.lookup x=some c→X.env.cells.lookup y=some c→x=y
  has:∀ x,(X.env.kindOf x=some .cell∨X.env.kindOf x=some .free)→∃ c,X.env.cells.lookup x=some c
  cab:∀ x c,X.fn x=true→X.env.cells.lookup x=some c→X.s₀.heap.objs.size≤c
  hd:X.calm=true→X.A.handled=none
  frames:X.A.frames=some X.stack
  stk:X.stack=X.outer∨(X.stack=X.env::X.outer∧X.env.frame=some X.env.locals)
  exf:∀ b∈X.ex,b≠X.env.locals∧∀ x c,X.env.cells.lookup x=some c→c≠b
  bs:∀ b o,X.base.get? b=some o→X.s₀.heap.get? b=some o∧X.H₀ b=none
  bsz:X.base.objs.size≤X.s₀.heap.objs.size
  noex:∀ b o,X.base.get? b=some o→b∉X.ex
  exfs:∀ b∈X.ex,b∉X.fs
  funs:X.s₀.heap.FunFrames X.base X.outer
  frf:∀ b∈X.fs,X.H₀ b=none
structure Inv (X:Cx)(pins:List (Addr×Obj))(σ:List (Option V))(H:Hp)(s:Shared):Prop where
  ok:X.Ok
  os:s.os=X.s₀.os
  bare:AllBare s.gens
  base:Un X.fs X.ex X.H₀ H X.s₀.heap s.heap
  loc:∃ m,s.heap.Ns X.env.locals m∧∀(i:Nat) (x:Str) (v:V),X.N[i]?=some x→σ[i]?=some (some v)→Vis X.env.scope x→∃ u,RelV v u∧Look X.env s.heap m x u
  cell:∀ x c,X.env.cells.lookup x=some c→∃ v,s.heap.IsCell c v
  free:H X.env.locals=none
  freeC:∀ x c,X.env.cells.lookup x=some c→H c=none
  pin:∀ p∈X.pn++pins,s.heap.get? p.1=some p.2∧H p.1=none∧p.1≠X.env.locals∧p.1∉X.fs∧∀ v,p.2.data≠.cell v
  hok:HOk X.prog X.w H s.heap
  len:σ.length=X.N.length
section
variable {X:Cx}{pins:List (Addr×Obj)}{σ:List (Option V)}{H H':Hp}{s:Shared}{h':Heap}
theorem Cx.Ok.nofr (ok:X.Ok){b:Addr}{o:Obj}(e:X.base.get? b=some o):b∉X.fs:=fun hb=>by
  have:=(ok.funs.mem hb).1;rw[e]at this;cases this
theorem Inv.bs (I:Inv X pins σ H s):∀ b o,X.base.get? b=some o→s.heap.get? b=some o∧H b=none:=fun b o e=>
  ⟨I.base.keep b o (I.ok.bs b o e).1 (I.ok.bs b o e).2 (I.ok.nofr e) (I.ok.noex b o e),I.base.free b o (I.ok.bs b o e).1 (I.ok.bs b o e).2 (I.ok.noex b o e)⟩
theorem Inv.bk (I:Inv X pins σ H s):∀ b o,X.base.get? b=some o→s.heap.get? b=some o:=fun b o e=>(I.bs b o e).1
theorem Inv.mod (I:Inv X pins σ H s):Mod X.K X.mg X.base:=I.ok.mod
theorem Inv.kIn (I:Inv X pins σ H s):X.K.In s.heap:=I.ok.mod.kin.keeps I.bk
theorem Inv.lt (I:Inv X pins σ H s):X.env.locals < s.heap.objs.size:=let ⟨_,hn,_⟩:=I.loc;hn.lt
theorem Inv.sz (I:Inv X pins σ H s):X.s₀.heap.objs.size≤s.heap.objs.size:=yaw I.ok.above (ya8 I.lt)
theorem Inv.nofs (I:Inv X pins σ H s){a:Addr}(h:s.heap.objs.size≤a):a∉X.fs:=fun hb=>by
  obtain ⟨_,o,ho,_⟩:=I.ok.funs.mem hb;exact absurd (yax (yag ho) (yaw I.sz h)) (ybj _)
theorem Inv.cne (I:Inv X pins σ H s):∀ x c,X.env.cells.lookup x=some c→c≠X.env.locals:=fun x c e z=>by
  obtain ⟨v,o,ho,hd⟩:=I.cell x c e;obtain ⟨m,⟨o',es,ep,ho',hd',_⟩,_⟩:=I.loc;rw[z,ho']at ho;cases ho;rw[hd']at hd;cases hd
theorem Inv.funs (I:Inv X pins σ H s):s.heap.FunFrames X.base X.outer:=by
  have all:∀(l:List Env),(∀ b∈frs l,b∈X.fs)→X.s₀.heap.FunFrames X.base l→s.heap.FunFrames X.base l:=by
    intro l
    induction l with
    | nil=>intro _ _;trivial
    | cons env r ih=>
      intro hs hl;obtain ⟨hk,⟨L,o,hf,hn,ho,hd⟩,hr⟩:=hl;have hL:L∈X.fs:=hs L (by unfold frs;rw[ybR,hf];exact yaL);obtain ⟨sl,e⟩:=I.base.slot L o ho (I.ok.frf L hL) hL fun z=>I.ok.exfs L z hL;exact ⟨hk,⟨L,_,hf,hn,e,hd⟩,ih (fun b hb=>hs b (by unfold frs;rw[ybR,hf];exact yaA _ hb)) hr⟩
  exact all X.outer (fun _ hb=>hb) I.ok.funs
theorem Inv.stack (I:Inv X pins σ H s):s.heap.FunFrames X.base X.stack:=by
  rcases I.ok.stk with e | ⟨e,hf⟩
  · rw[e];exact I.funs
  · rw[e]
    obtain ⟨m,hn,_⟩:=I.loc;refine .cons (by rw[I.ok.kind];decide) hf hn ?_ I.funs;exact Heap.get?_none_of_le (yaw I.ok.bsz I.ok.above)
theorem Inv.stkSub (I:Inv X pins σ H s):∀ b∈frs X.stack,b∈X.env.locals::X.fs:=fun b hb=>by
  rcases I.ok.stk with e | ⟨e,hf⟩
  · rw[e]at hb;exact yaA _ hb
  · rw[e]at hb
    unfold frs at hb;rw[ybR,hf]at hb;exact hb
theorem Inv.stkFree (I:Inv X pins σ H s):∀ b∈frs X.stack,H b=none:=fun b hb=>by
  rcases yak.mp (I.stkSub b hb) with e | hb
  · rw[e];exact I.free
  · obtain ⟨_,o,ho,_⟩:=I.ok.funs.mem hb
    exact I.base.free b o ho (I.ok.frf b hb) fun z=>I.ok.exfs b z hb
theorem Inv.step {g':Array GenState}{t':Nat}{d':Drawn}{ch:List Addr}(I:Inv X pins σ H s)
    (hch:∀ b∈ch,(b∈X.ex∨X.s₀.heap.objs.size≤b)∧b≠X.env.locals∧(∀ x c,X.env.cells.lookup x=some c→c≠b)∧∀ p∈X.pn++pins,p.1≠b)
    (keep:∀ b o,b≠X.env.locals→b∉X.fs→b∉ch→s.heap.get? b=some o→H b=none→h'.get? b=some o)
    (slot:∀ b o,b≠X.env.locals→b∈X.fs→b∉ch→s.heap.get? b=some o→H b=none→∃ sl,h'.get? b=some { o with slots:=sl }) (free:∀ b o,b∉ch→s.heap.get? b=some o→H b=none→H' b=none)
    (there:∀ b o,b∉ch→s.heap.get? b=some o→∃ o',h'.get? b=some o')
    (tups:∀ b xs,H b=some (.tup xs)→H' b=some (.tup xs)) (frzs:∀ b o u,H b=some (.frz o u)→H' b=some (.frz o u)) (tbls:∀ b ps,H b=some (.tbl ps)→∃ more,H' b=some (.tbl (ps++more)))
    (ns:∀ m,s.heap.Ns X.env.locals m→h'.Ns X.env.locals m) (hok:HOk X.prog X.w H' h') (hg:AllBare g') :
    Inv X pins σ H' { s with heap:=h',gens:=g',drawn:=d',toks:=t' }:=by
  have neL:∀ b o,X.s₀.heap.get? b=some o→b≠X.env.locals:=fun b o e=>yas (yax (yag e) I.ok.above);have neC:∀ b o,X.s₀.heap.get? b=some o→b∉X.ex→b∉ch:=fun b o e hx hb=>by
    rcases (hch b hb).1 with z | z
    · exact hx z
    · exact absurd (yax (yag e) z) (ybj _)
  have cellK:∀ x c,X.env.cells.lookup x=some c→∀ v,s.heap.IsCell c v→h'.IsCell c v:=fun x c e v ⟨o,ho,hd⟩=>by
    have nch:c∉ch:=fun z=>(hch c z).2.2.1 x c e rfl;by_cases hc:c∈X.fs
    · obtain ⟨sl,q⟩:=slot c o (I.cne x c e) hc nch ho (I.freeC x c e)
      exact ⟨_,q,hd⟩
    · exact ⟨o,keep c o (I.cne x c e) hc nch ho (I.freeC x c e),hd⟩
  refine ⟨I.ok,I.os,hg,⟨fun b o e n hb hx=>?_,fun b o e n hb hx=>?_,fun b o e n hx=>?_,fun b o e hx=>?_,fun b xs e=>tups b xs (I.base.tups b xs e),fun b o xs e=>frzs b o xs (I.base.frzs b o xs e),fun b ps e=>?_⟩,?_,fun x c e=>?_,?_,fun x c e=>?_,fun p hp=>?_,hok,I.len⟩
  · exact keep b o (neL b o e) hb (neC b o e hx) (I.base.keep b o e n hb hx) (I.base.free b o e n hx)
  · obtain ⟨sl,e1⟩:=I.base.slot b o e n hb hx
    obtain ⟨sl',e2⟩:=slot b _ (neL b o e) hb (neC b o e hx) e1 (I.base.free b o e n hx);exact ⟨sl',e2⟩
  · obtain ⟨o',e1⟩:=I.base.there b o e hx
    exact free b o' (neC b o e hx) e1 (I.base.free b o e n hx)
  · obtain ⟨o',e1⟩:=I.base.there b o e hx
    exact there b o' (neC b o e hx) e1
  · obtain ⟨m1,e1⟩:=I.base.tbls b ps e
    obtain ⟨m2,e2⟩:=tbls b _ e1;exact ⟨m1++m2,by rw[e2,Array.append_assoc]⟩
  · obtain ⟨m,hn,hl⟩:=I.loc
    refine ⟨m,ns m hn,fun i x v e1 e2 e3=>?_⟩;obtain ⟨u,r,l⟩:=hl i x v e1 e2 e3;refine ⟨u,r,?_⟩;rcases l with l | ⟨k,c,e,z⟩
    · exact .inl l
    · exact .inr ⟨k,c,e,cellK x c e _ z⟩
  · obtain ⟨v,z⟩:=I.cell x c e
    exact ⟨v,cellK x c e v z⟩
  · obtain ⟨m,⟨o,_,_,ho,_⟩,_⟩:=I.loc
    exact free _ o (fun z=>(hch _ z).2.1 rfl) ho I.free
  · obtain ⟨v,o,ho,hd⟩:=I.cell x c e
    exact free c o (fun z=>(hch c z).2.2.1 x c e rfl) ho (I.freeC x c e)
  · obtain ⟨e,n,ne,nf,d⟩:=I.pin p hp
    have nch:p.1∉ch:=fun z=>(hch p.1 z).2.2.2 p hp rfl;exact ⟨keep p.1 p.2 ne nf nch e n,free p.1 p.2 nch e n,ne,nf,d⟩
theorem Inv.un {t':Nat}(I:Inv X pins σ H s)(u:Un X.fs [] H H' s.heap h')(hok:HOk X.prog X.w H' h'):Inv X pins σ H' { s with heap:=h',toks:=t' }:=by
  obtain ⟨m,⟨o,es,ep,ho,r⟩,_⟩:=id I.loc;obtain ⟨sl,hL⟩:=u.any ho I.free (by simp);exact I.step (g':=s.gens) (d':=s.drawn) (ch:=[]) (fun _ z=>nomatch z) (fun b o _ hb _ e n=>u.keep b o e n hb (by simp)) (fun b o _ hb _ e n=>u.slot b o e n hb (by simp)) (fun b o _ e n=>u.free b o e n (by simp)) (fun b o _ e=>u.there b o e (by simp)) u.tups u.frzs u.tbls (fun m' hm=>by
    obtain ⟨o',es',ep',ho',r'⟩:=hm;rw[ho]at ho';cases ho'
    exact ⟨_,es',ep',hL,r'⟩) hok I.bare
theorem Inv.call {g':Array GenState}{t':Nat}{d':Drawn}{ch:List Addr}(I:Inv X pins σ H s)(u:Un (frs X.stack) ch H H' s.heap h')(hok:HOk X.prog X.w H' h')(hg:AllBare g')
    (hch:∀ b∈ch,(b∈X.ex∨X.s₀.heap.objs.size≤b)∧b≠X.env.locals∧(∀ x c,X.env.cells.lookup x=some c→c≠b)∧∀ p∈X.pn++pins,p.1≠b) :
    Inv X pins σ H' { s with heap:=h',gens:=g',drawn:=d',toks:=t' }:=by
  obtain ⟨m,⟨o,es,ep,ho,r⟩,_⟩:=id I.loc;obtain ⟨sl,hL⟩:=u.any ho I.free fun z=>(hch _ z).2.1 rfl;exact I.step (ch:=ch) hch (fun b o hL hb hc e n=>u.keep b o e n (fun z=>(yak.mp (I.stkSub b z)).elim hL hb) hc) (fun b o _ _ hc e n=>u.any e n hc) (fun b o hc e n=>u.free b o e n hc) (fun b o hc e=>u.there b o e hc) u.tups u.frzs u.tbls (fun m' hm=>by
    obtain ⟨o',es',ep',ho',r'⟩:=hm;rw[ho]at ho';cases ho'
    exact ⟨_,es',ep',hL,r'⟩) hok hg
theorem Inv.turned {t':Nat}{it:Addr}(I:Inv X pins σ H s)(k:∀ b o,b≠it→s.heap.get? b=some o→h'.get? b=some o)(hn:H it=none)(hL:it≠X.env.locals)
    (h1:it∈X.ex∨X.s₀.heap.objs.size≤it) (h2:∀ x c,X.env.cells.lookup x=some c→c≠it) (h3:∀ p∈X.pn++pins,p.1≠it):Inv X pins σ H { s with heap:=h',toks:=t' }:=by
  have nit:∀ b u,H b=some u→b≠it:=fun b u e z=>by rw[z,hn]at e;cases e
  refine I.step (g':=s.gens) (d':=s.drawn) (ch:=[it]) (fun b hb=>?_) (fun b o _ _ hc e _=>k b o (fun z=>hc (by simp[z])) e) (fun b o _ _ hc e _=>⟨o.slots,k b o (fun z=>hc (by simp[z])) e⟩) (fun _ _ _ _ n=>n)
    (fun b o hc e=>⟨o,k b o (fun z=>hc (by simp[z])) e⟩) (fun _ _ e=>e) (fun _ _ _ e=>e) (fun b ps e=>⟨#[],by rw[e];simp⟩) (fun m hm=>?_) (fun b u e=>?_) I.bare
  · have e:b=it:=by simpa using hb
    subst e;exact ⟨h1,hL,h2,h3⟩
  · obtain ⟨o,es,ep,ho,r⟩:=hm
    exact ⟨o,es,ep,k _ o (Ne.symm hL) ho,r⟩
  · refine (I.hok b u e).stay (fun c v hc q=>k c v ?_ q) (fun _ q=>q) fun _ _ q=>q
    rcases hc with z | z
    · rw[z];exact nit b u e
    · exact nit c _ z
theorem Inv.tok (I:Inv X pins σ H s)(t:Nat):Inv X pins σ H { s with toks:=t }:=I.un (h':=s.heap) (t':=t) Un.refl I.hok
theorem Inv.kept {t':Nat}(I:Inv X pins σ H s)(k:∀ b u,s.heap.get? b=some u→h'.get? b=some u):Inv X pins σ H { s with heap:=h',toks:=t' }:=I.un (Un.kept k) (I.hok.kept k)
theorem Inv.laid {a:Addr}{o:HO}{t':Nat}(I:Inv X pins σ H s)(k:∀ b u,s.heap.get? b=some u→h'.get? b=some u)(hp:s.heap.objs.size≤a)(new:zbl X.prog X.w (upd H a o) h' a o) :
    Inv X pins σ (upd H a o) { s with heap:=h',toks:=t' }:=I.un (Un.laid k hp (I.hok.fresh hp)) (I.hok.laid k hp new)
theorem Inv.write {x e:Addr}{o:HO}{t':Nat}(I:Inv X pins σ H s)(mu:Mut (H x))(he:e=x∨H e=some (.own x))(k:∀ b u,b≠e→s.heap.get? b=some u→h'.get? b=some u)(heo:∃ u,h'.get? e=some u)
    (new:zbl X.prog X.w (upd H x o) h' x o):Inv X pins σ (upd H x o) { s with heap:=h',toks:=t' }:=I.un (Un.write mu he k heo) (I.hok.write mu he k heo new)
theorem Inv.pins_of {pins':List (Addr×Obj)}(I:Inv X pins σ H s)(h:∀ p∈pins',s.heap.get? p.1=some p.2∧H p.1=none∧p.1≠X.env.locals∧p.1∉X.fs∧∀ v,p.2.data≠.cell v):Inv X pins' σ H s:=
  ⟨I.ok,I.os,I.bare,I.base,I.loc,I.cell,I.free,I.freeC,fun p hp=>(yai.mp hp).elim (fun z=>I.pin p (yaZ _ z)) (h p),I.hok,I.len⟩
theorem zjU {N:List Str}(hN:N.Nodup){i j:Nat}{x:Str}(a:N[i]?=some x)(b:N[j]?=some x):i=j:=by
  obtain ⟨h1,e1⟩:=yam.mp a;obtain ⟨h2,e2⟩:=yam.mp b;exact (List.getElem_inj hN).mp (e1.trans e2.symm)
theorem zhO {M:Model}{A:Around}{E:Value→Shared→Prop}{i:Nat}{x:Str}{v:V}{u:Value}{Q:Unit→Shared→Prop}(I:Inv X pins σ H s)(hN:X.N.Nodup)(hi:X.N[i]?=some x)(hx:Loc X.env.scope x)(r:RelV v u)
    (h:∀ s',Inv X pins (σ.set i (some v)) H s'→(∃ a,Heap.SameBut a s.heap s'.heap∧(a=X.env.locals∨X.env.cells.lookup x=some a))→Q () s') (hf:X.fn x=true∨X.env.scope.names.lookup x=some .local:=by first | exact .inl rfl | exact .inr rfl | assumption):wpAny M A (storeName X.env x u) Q E s:=by
  obtain ⟨m,hn,hl⟩:=id I.loc;have hcls:(X.env.scope.kind == .class || (X.env.scope.kind == .module && X.env.locals != X.env.globals))=false:=by rw[I.ok.kind];rfl
  have hiσ:i < σ.length:=by rw[I.len];exact (yam.mp hi).1
  have cne:=I.cne;have tracked:∀{a:Addr} {h':Heap},(∃ o,s.heap.get? a=some o∧H a=none)→Heap.SameBut a s.heap h'→HOk X.prog X.w H h':=fun {a h'} ha hs b ob e=>by
    obtain ⟨_,_,hfree⟩:=ha;refine (I.hok b ob e).stay (fun c w' hc q=>(hs.2 c ?_).trans q) (fun _ q=>q) fun _ _ q=>q;rintro rfl;rcases hc with rfl | hc
    · rw[hfree]at e;cases e
    · rw[hfree]at hc;cases hc
  rcases hx with hk | hk
  · refine wpAny_storeName_local hk hn (fun h' hn' hs=>?_) hcls
    obtain ⟨oL,_,_,hoL,_⟩:=id hn;refine h _ ⟨I.ok,I.os,I.bare,⟨fun b o e n hb hx=>?_,fun b o e n hb hx=>?_,I.base.free,fun b o e hx=>?_,I.base.tups,I.base.frzs,I.base.tbls⟩,⟨_,hn',fun j y v' e1 e2 e3=>?_⟩,fun y c e=>?_,I.free,I.freeC,fun p hp=>?_,tracked ⟨oL,hoL,I.free⟩ hs,by simpa using I.len⟩ ⟨_,hs,.inl rfl⟩
    · exact (hs.2 b (yas (yax (yag e) I.ok.above))).trans (I.base.keep b o e n hb hx)
    · obtain ⟨sl,e1⟩:=I.base.slot b o e n hb hx
      exact ⟨sl,(hs.2 b (yas (yax (yag e) I.ok.above))).trans e1⟩
    · obtain ⟨o',e1⟩:=I.base.there b o e hx
      exact ⟨o',(hs.2 b (yas (yax (yag e) I.ok.above))).trans e1⟩
    · by_cases hj:j=i
      · subst hj
        rw[hi]at e1;cases e1
        rw[List.getElem?_set_self hiσ]at e2;cases e2
        exact ⟨u,r,.inl ⟨hk,by simp⟩⟩
      · rw[List.getElem?_set_ne (Ne.symm hj)]at e2
        obtain ⟨u',r',q⟩:=hl j y v' e1 e2 e3;refine ⟨u',r',?_⟩;rcases q with ⟨k,e⟩ | ⟨k,c,e,z⟩
        · refine .inl ⟨k,?_⟩
          have:y≠x:=fun e=>hj (zjU hN e1 (e ▸ hi));simp[this,e]
        · exact .inr ⟨k,c,e,z.sameBut hs (cne y c e)⟩
    · obtain ⟨w',z⟩:=I.cell y c e
      exact ⟨w',z.sameBut hs (cne y c e)⟩
    · obtain ⟨e,n,ne,nf,d⟩:=I.pin p hp
      exact ⟨(hs.2 p.1 ne).trans e,n,ne,nf,d⟩
  · have hfn:X.fn x=true:=by
      rcases hf with z | z
      · exact z
      · rw[z]at hk;cases hk
    obtain ⟨c,hc⟩:=I.ok.has x (.inl hk);obtain ⟨w',z⟩:=I.cell x c hc;refine wpAny_storeName_cell I.ok.kind hk hc z (fun h' hc' hs=>?_);obtain ⟨oc,hoc,hocd⟩:=id z;refine h { s with heap:=h' } ⟨I.ok,I.os,I.bare,⟨fun b o e n hb hx=>?_,fun b o e n hb hx=>?_,I.base.free,fun b o e hx=>?_,I.base.tups,I.base.frzs,I.base.tbls⟩,⟨m,hn.sameBut hs (Ne.symm (cne x c hc)),fun j y v' e1 e2 e3=>?_⟩,fun y c' e=>?_,I.free,I.freeC,fun p hp=>?_,tracked ⟨oc,hoc,I.freeC x c hc⟩ hs,by simpa using I.len⟩ ⟨c,hs,.inr hc⟩
    · exact (hs.2 b (yas (yax (yag e) (I.ok.cab x c hfn hc)))).trans (I.base.keep b o e n hb hx)
    · obtain ⟨sl,e1⟩:=I.base.slot b o e n hb hx
      exact ⟨sl,(hs.2 b (yas (yax (yag e) (I.ok.cab x c hfn hc)))).trans e1⟩
    · obtain ⟨o',e1⟩:=I.base.there b o e hx
      exact ⟨o',(hs.2 b (yas (yax (yag e) (I.ok.cab x c hfn hc)))).trans e1⟩
    · by_cases hj:j=i
      · subst hj
        rw[hi]at e1;cases e1
        rw[List.getElem?_set_self hiσ]at e2;cases e2
        exact ⟨u,r,.inr ⟨.inl hk,c,hc,hc'⟩⟩
      · rw[List.getElem?_set_ne (Ne.symm hj)]at e2
        obtain ⟨u',r',q⟩:=hl j y v' e1 e2 e3;refine ⟨u',r',?_⟩;rcases q with q | ⟨k,c',e,z'⟩
        · exact .inl q
        · refine .inr ⟨k,c',e,z'.sameBut hs ?_⟩
          rintro rfl;exact hj (zjU hN e1 (I.ok.inj _ _ _ e hc ▸ hi))
    · by_cases hcc:c'=c
      · subst hcc;exact ⟨_,hc'⟩
      · obtain ⟨w2,z2⟩:=I.cell y c' e
        exact ⟨w2,z2.sameBut hs hcc⟩
    · obtain ⟨e,n,ne,nf,d⟩:=I.pin p hp
      refine ⟨(hs.2 p.1 ?_).trans e,n,ne,nf,d⟩;intro q;rw[q,hoc]at e;have q':oc=p.2:=yad e;exact d w' (by rw[← q'];exact hocd)
theorem zjt {M:Model}{A:Around}{E:Value→Shared→Prop}{i:Nat}{x:Str}{v:V}{u:Value}{Q:Unit→Shared→Prop}(I:Inv X pins σ H s)(hN:X.N.Nodup)(hi:X.N[i]?=some x)(hx:Loc X.env.scope x)(r:RelV v u)
    (h:∀ s',Inv X pins (σ.set i (some v)) H s'→Q () s') (hf:X.fn x=true∨X.env.scope.names.lookup x=some .local:=by first | exact .inl rfl | exact .inr rfl | assumption):wpAny M A (storeName X.env x u) Q E s:=
  zhO I hN hi hx r (fun s' I' _=>h s' I') hf
theorem Inv.call' {s':Shared}{ch:List Addr}(I:Inv X pins σ H s)(ho:s'.os=s.os)(u:Un (frs X.stack) ch H H' s.heap s'.heap)(hok:HOk X.prog X.w H' s'.heap)(hg:AllBare s'.gens)
    (hch:∀ b∈ch,(b∈X.ex∨X.s₀.heap.objs.size≤b)∧b≠X.env.locals∧(∀ x c,X.env.cells.lookup x=some c→c≠b)∧∀ p∈X.pn++pins,p.1≠b):Inv X pins σ H' s':=by
  obtain ⟨h',g',d',t',o'⟩:=s';have e:o'=s.os:=ho;subst e;exact I.call (g':=g') (t':=t') (d':=d') u hok hg hch
end
abbrev XK:=Value→Option Addr→Hp→Prop
abbrev St:=List (Option V)
abbrev VK:=V→Hp→Prop
abbrev TE:=St→Hp→VK→Prop
abbrev TT:=St→Hp→(Bool→Hp→Prop)→Prop
abbrev TA:=St→Hp→(List V→Hp→Prop)→Prop
structure Ends where
  nx:St→Hp→Prop
  rt:VK
  bk:St→Hp→Prop:=fun _ _=>False
  ct:St→Hp→Prop:=fun _ _=>False
abbrev TS:=Ends→St→Hp→Prop
def EP (X:Cx)(pins:List (Addr×Obj))(σ:St)(Q:VK)(u:Value)(s':Shared):Prop:=∃ v H',Inv X pins σ H' s'∧RelV v u∧Q v H'
def TP (X:Cx)(pins:List (Addr×Obj))(σ:St)(Q:Bool→Hp→Prop)(b:Bool)(s':Shared):Prop:=∃ H',Inv X pins σ H' s'∧Q b H'
def AP (X:Cx)(pins:List (Addr×Obj))(σ:St)(Q:List V→Hp→Prop)(us:List Value)(s':Shared):Prop:=∃ vs H',Inv X pins σ H' s'∧Vals vs us∧Q vs H'
def SP (X:Cx)(pins:List (Addr×Obj))(D:Ends)(f:Flow)(s':Shared):Prop:=
  match f with
  | .next=>∃ σ' H',Inv X pins σ' H' s'∧D.nx σ' H'
  | .brk=>∃ σ' H',Inv X pins σ' H' s'∧D.bk σ' H'
  | .cont=>∃ σ' H',Inv X pins σ' H' s'∧D.ct σ' H'
  | .ret u=>∃ v σ' H',Inv X pins σ' H' s'∧RelV v u∧D.rt v H'
def PE (X:Cx)(e:Expr)(t:TE):Prop:=
  ∀(pins:List (Addr×Obj)) (s:Shared) (σ:St) (H:Hp) (Q:VK),Inv X pins σ H s→t σ H Q→wpAny (model X.prog X.w) X.A (eval e X.env) (EP X pins σ Q) X.xe s
def PT (X:Cx)(e:Expr)(t:TT):Prop:=
  ∀(pins:List (Addr×Obj)) (s:Shared) (σ:St) (H:Hp) (Q:Bool→Hp→Prop),Inv X pins σ H s→t σ H Q→wpAny (model X.prog X.w) X.A (isTrue e X.env (eval e X.env)) (TP X pins σ Q) X.xe s
def PW (X:Cx)(e:Expr)(t:TT):Prop:=
  ∀(whole:Sem Value) (pins:List (Addr×Obj)) (s:Shared) (σ:St) (H:Hp) (Q:Bool→Hp→Prop),Inv X pins σ H s→t σ H Q→wpAny (model X.prog X.w) X.A (isTrue e X.env whole) (TP X pins σ Q) X.xe s
theorem PW.pt {X:Cx}{e:Expr}{t:TT}(h:PW X e t):PT X e t:=h _
def PA (X:Cx)(es:List Expr)(t:TA):Prop:=
  ∀(pos:Pos) (pins:List (Addr×Obj)) (s:Shared) (σ:St) (H:Hp) (Q:List V→Hp→Prop),Inv X pins σ H s→t σ H Q→wpAny (model X.prog X.w) X.A (spliced (backTo pos (starEach es X.env))) (AP X pins σ Q) X.xe s
def PS (X:Cx)(st:Stmt)(t:TS):Prop:=
  ∀(pins:List (Addr×Obj)) (s:Shared) (σ:St) (H:Hp) (D:Ends),Inv X pins σ H s→t D σ H→wpAny (model X.prog X.w) X.A (exec st X.env) (SP X pins D) X.xe s
def PSs (X:Cx)(st:List Stmt)(t:TS):Prop:=
  ∀(pins:List (Addr×Obj)) (s:Shared) (σ:St) (H:Hp) (D:Ends),Inv X pins σ H s→t D σ H→wpAny (model X.prog X.w) X.A (execs st X.env) (SP X pins D) X.xe s
theorem thn {α:Type}{t:Sem α}{Q Q':α→Shared→Prop}{M:Model}{A:Around}{E:Value→Shared→Prop}{s:Shared}(h:wpAny M A t Q E s)(hQ:∀ a s,Q a s→Q' a s):wpAny M A t Q' E s:=wpAny_mono h hQ fun _ _ x=>x
end L2
namespace L2
open PySem PySem.Spec PyProof.Rows
section
variable {X:Cx}
def tVar (i:Nat):TE:=fun σ H Q=>∃ v,σ[i]?=some (some v)∧Q v H
def tC (v:V):TE:=fun _ H Q=>Q v H
theorem zqZ {i:Nat}{x:Str}{pos:Pos}(hN:X.N[i]?=some x)(hv:Vis X.env.scope x)(hd:(x == ("__debug__" : Str))=false:=by decide)(hcd:(x == ("__classdict__" : Str))=false:=by decide):PE X (.Name x pos) (tVar i):=by
  intro pins s σ H Q I h;obtain ⟨v,e,h⟩:=h;obtain ⟨m,hn,hl⟩:=I.loc;obtain ⟨u,r,l⟩:=hl i x v hN e hv;have fin:EP X pins σ Q u s:=⟨v,H,I,r,h⟩;rcases l with ⟨hk,hm⟩ | ⟨hk,c,hc,hcell⟩
  · exact wpAny_Name (wpAny_loadName_local I.ok.kind hk hn hm fin) hd
  · rcases hk with hk | hk
    · exact wpAny_Name (wpAny_loadName_cell I.ok.kind hk hc hcell fin) hd
    · exact wpAny_Name (wpAny_loadName_free I.ok.kind hk hc hcell fin hcd) hd
theorem zaj {i j pos}:PE X (.Constant (.int i) j pos) (tC (.int i)):=fun _ _ _ H _ I h=>wpAny_Constant_int ⟨.int i,H,I.tok _,⟨_,rfl⟩,h⟩
theorem zdU {b j pos}:PE X (.Constant (.bool b) j pos) (tC (.bl b)):=fun _ _ _ H _ I h=>Constant_bool ⟨.bl b,H,I,rfl,h⟩
theorem zfW {j pos}:PE X (.Constant .none j pos) (tC .non):=fun _ _ _ H _ I h=>Constant_none ⟨.non,H,I,rfl,h⟩
theorem zdm {x j pos}:PE X (.Constant (.str x) j pos) (tC (.str x)):=fun _ _ _ H _ I h=>Calls.Constant_str ⟨.str x,H,I.tok _,⟨_,rfl⟩,h⟩
def Gl (X:Cx)(x:Str):Prop:=X.env.kindOf x=some .globalImplicit
theorem zhr {E:Value→Shared→Prop}{pins:List (Addr×Obj)}{s:Shared}{σ:St}{H:Hp}{x:Str}{u:Value}{pos:Pos}{Q:Value→Shared→Prop}(I:Inv X pins σ H s)(hg:Gl X x)(hm:X.mg x=some u)(h:Q u s)
    (hd:(x == ("__debug__" : Str))=false:=by decide):wpAny (model X.prog X.w) X.A (eval (.Name x pos) X.env) Q E s:=
  Calls.Name_function_global I.ok.kind hg (Calls.loadGlobal_global (by rw[I.ok.glob];exact I.mod.glob.keeps I.bk) hm h) hd
theorem zfi {E:Value→Shared→Prop}{pins:List (Addr×Obj)}{s:Shared}{σ:St}{H:Hp}{x:Str}{u:Value}{pos:Pos}{Q:Value→Shared→Prop}(I:Inv X pins σ H s)(hg:Gl X x)(hm:X.mg x=none)(hv:bootBuiltins x=some u)(h:Q u s)
    (hn:x ≠ "__name__":=by decide) (hd:(x == ("__debug__" : Str))=false:=by decide):wpAny (model X.prog X.w) X.A (eval (.Name x pos) X.env) Q E s:=by
  obtain ⟨mb,h1,h2⟩:=I.mod.blt;exact Calls.Name_function_global I.ok.kind hg (Calls.loadGlobal_builtin (by rw[I.ok.glob];exact I.mod.glob.keeps I.bk) hm (by rw[I.ok.blt];exact h1.keeps I.bk) ((h2 x hn).trans hv) h) hd
theorem zpG {x:Str}{v:V}{u:Value}{pos:Pos}(hg:Gl X x)(hm:X.mg x=some u)(r:RelV v u)(hd:(x == ("__debug__" : Str))=false:=by decide):PE X (.Name x pos) (tC v):=
  fun _ _ _ H _ I h=>zhr I hg hm ⟨v,H,I,r,h⟩ hd
theorem zdn {x:Str}{v:V}{u:Value}{pos:Pos}(hg:Gl X x)(hm:X.mg x=none)(hv:bootBuiltins x=some u)(r:RelV v u)(hn:x ≠ "__name__":=by decide)(hd:(x == ("__debug__" : Str))=false:=by decide):PE X (.Name x pos) (tC v):=
  fun _ _ _ H _ I h=>zfi I hg hm hv ⟨v,H,I,r,h⟩ hn hd
variable {a b:Expr}{ta tb:TE}{pos:Pos}
def tB (t:TE):TT:=fun σ H Q=>t σ H fun x H1=>∃ c,x=.bl c∧Q c H1
theorem zbV {e:Expr}{t:TE}(h:PE X e t)(he:∀ whole,isTrue e X.env whole=(do let v ← whole;standAt e.pos;holding [v] (truthy v)):=by intro _;rfl):PT X e (tB t):=by
  intro pins s σ H Q I hw;refine isTrue_plain (thn (h pins s σ H _ I hw) fun v s1 zq0=>?_) (he _);obtain ⟨x,H1,I1,r1,q1⟩:=zq0;obtain ⟨d,rfl,q⟩:=q1;cases r1
  exact wpAny_truthy_bool ⟨H1,I1,q⟩
variable {tA tB':TT}{rest:List Expr}
def tAnd (t u:TT):TT:=fun σ H Q=>t σ H fun c H1=>if c=true then u σ H1 Q else Q false H1
def tOr (t u:TT):TT:=fun σ H Q=>t σ H fun c H1=>if c=true then Q true H1 else u σ H1 Q
def tNot (t:TT):TT:=fun σ H Q=>t σ H fun c H1=>Q (!c) H1
theorem zeP (ha:PT X a tA):PW X (.BoolOp .And [a] pos) tA:=by
  intro wh pins s σ H Q I h;refine isTrue_and (thn (ha pins s σ H Q I h) fun c s1 e=>?_);cases c with
  | true=>exact isTrue_and_nil e
  | false=>exact e
theorem zjH (ha:PT X a tA):PW X (.BoolOp .Or [a] pos) tA:=by
  intro wh pins s σ H Q I h;refine isTrue_or (thn (ha pins s σ H Q I h) fun c s1 e=>?_);cases c with
  | false=>exact isTrue_or_nil e
  | true=>exact e
theorem zgz (ha:PT X a tA)(hb:PW X (.BoolOp .And (b::rest) pos) tB'):PW X (.BoolOp .And (a::b::rest) pos) (tAnd tA tB'):=by
  intro wh pins s σ H Q I h;refine isTrue_and (thn (ha pins s σ H _ I h) fun c s1 zq0=>?_);obtain ⟨H1,I1,q1⟩:=zq0;cases c with
  | true=>exact hb wh pins s1 σ H1 Q I1 q1
  | false=>exact ⟨H1,I1,q1⟩
theorem zlK (ha:PT X a tA)(hb:PW X (.BoolOp .Or (b::rest) pos) tB'):PW X (.BoolOp .Or (a::b::rest) pos) (tOr tA tB'):=by
  intro wh pins s σ H Q I h;refine isTrue_or (thn (ha pins s σ H _ I h) fun c s1 zq0=>?_);obtain ⟨H1,I1,q1⟩:=zq0;cases c with
  | true=>exact ⟨H1,I1,q1⟩
  | false=>exact hb wh pins s1 σ H1 Q I1 q1
theorem zcM (ha:PT X a tA):PT X (.UnaryOp .Not a pos) (tNot tA):=by
  intro pins s σ H Q I h;exact isTrue_not (ha pins s σ H (fun c H1=>Q (!c) H1) I h)
def zr2 (ta tb:TE):TE:=fun σ H Q=>ta σ H fun x H1=>∃ c,x=.bl c∧if c=true then tb σ H1 Q else Q (.bl false) H1
def zrW (ta:TE):TE:=fun σ H Q=>ta σ H fun x H1=>∃ c,x=.bl c∧Q (.bl (!c)) H1
theorem zjO {op}{t:TE}(h:PE X a t):PE X (.BoolOp op [a] pos) t:=fun pins s σ H Q I hw=>BoolOp_one (h pins s σ H Q I hw)
theorem zjQ (ha:PE X a ta)(hb:PE X (.BoolOp .And (b::rest) pos) tb):PE X (.BoolOp .And (a::b::rest) pos) (zr2 ta tb):=by
  intro pins s σ H Q I h;refine BoolOp_and (thn (ha pins s σ H _ I h) fun v s1 zq0=>?_);obtain ⟨x,H1,I1,r1,q1⟩:=zq0;obtain ⟨c,rfl,q1⟩:=q1;cases r1
  refine wpAny_truthy_bool ?_;cases c with
  | true=>exact hb pins s1 σ H1 Q I1 q1
  | false=>exact ⟨.bl false,H1,I1,rfl,q1⟩
theorem zq4 (ha:PE X a ta):PE X (.UnaryOp .Not a pos) (zrW ta):=by
  intro pins s σ H Q I h;refine UnaryOp_ (thn (ha pins s σ H _ I h) fun v s1 zq0=>?_);obtain ⟨x,H1,I1,r1,q1⟩:=zq0;obtain ⟨c,rfl,q1⟩:=q1;cases r1
  exact not_of (wpAny_truthy_bool ⟨.bl (!c),H1,I1,rfl,q1⟩)
def tIf (t:TT)(ta tb:TE):TE:=fun σ H Q=>t σ H fun c H1=>if c=true then ta σ H1 Q else tb σ H1 Q
theorem znM {c:Expr}(hc:PT X c tA)(ha:PE X a ta)(hb:PE X b tb):PE X (.IfExp c a b pos) (tIf tA ta tb):=by
  intro pins s σ H Q I h;refine wpAny_IfExp (thn (hc pins s σ H _ I h) fun d s1 zq0=>?_);obtain ⟨H1,I1,q1⟩:=zq0;cases d with
  | true=>exact ha pins s1 σ H1 Q I1 q1
  | false=>exact hb pins s1 σ H1 Q I1 q1
end
end L2
namespace L2
open PySem PySem.Spec PyProof.Rows
def SqL (K:Frag)(H:Hp)(a:Addr)(xs:List V):Prop:=
  Rd H a (.lst xs)∨
    ∃(o:Obj) (its:Array Value) (n:Nat),K.lookup a=some o∧o.cls=.type "list"∧o.dict=none∧o.data=.seq its n∧its.size≤sizeLine∧Vals xs its.toList
def SqT (K:Frag)(H:Hp)(a:Addr)(xs:List V):Prop:=
  Rd H a (.tup xs)∨
    ∃(o:Obj) (its:Array Value) (n:Nat),K.lookup a=some o∧o.cls=.type "tuple"∧o.data=.seq its n∧its.size≤sizeLine∧Vals xs its.toList
def absV:Value→Option V
  | .none=>some .non
  | .bool b=>some (.bl b)
  | .int i _=>some (.int i)
  | .str x _=>some (.str x)
  | .bytes b _=>some (.byt b)
  | .float b _=>some (.flt b)
  | .ref a=>some (.ref a)
  | .type n=>some (.ty n)
  | _=>none
theorem RelV.abs {x:V}{u:Value}(r:RelV x u):absV u=some x:=by
  cases x with
  | non=>cases r;rfl
  | bl _=>cases r;rfl
  | int _=>obtain ⟨t,rfl⟩:=r;rfl
  | str _=>obtain ⟨t,rfl⟩:=r;rfl
  | byt _=>obtain ⟨t,rfl⟩:=r;rfl
  | flt _=>obtain ⟨t,rfl⟩:=r;rfl
  | ref _=>cases r;rfl
  | ty _=>cases r;rfl
theorem RelV.inj {x y:V}{u:Value}(r:RelV x u)(q:RelV y u):x=y:=yad (r.abs.symm.trans q.abs)
theorem Vals.inj:∀{xs ys:List V} {us:List Value},Vals xs us→Vals ys us→xs=ys
  | _,_,_,.nil,.nil=>rfl
  | _,_,_,.cons r t,.cons r' t'=>by rw[r.inj r',Vals.inj t t']
section
variable {X:Cx}{pins:List (Addr×Obj)}{σ:St}{H:Hp}{s:Shared}{a:Addr}{xs ys:List V}
theorem SqL.of {K:Frag}(h:H a=some (.lst xs)):SqL K H a xs:=.inl (.inl h)
theorem SqT.of {K:Frag}(h:H a=some (.tup xs)):SqT K H a xs:=.inl (.inl h)
theorem Inv.list (I:Inv X pins σ H s)(h:SqL X.K H a xs):∃ its:List Value,Vals xs its∧PlainL s.heap a its.toArray∧xs.length≤sizeLine:=by
  rcases h with h | ⟨o,its,n,hk,hc,hd,hs,hz,r⟩
  · obtain ⟨z,its,n,r,e⟩:=h.ok I.hok
    exact ⟨its,r,⟨_,n,e,rfl,rfl,rfl⟩,z⟩
  · refine ⟨its.toList,r,⟨o,n,I.kIn a o hk,hc,hd,by simpa using hs⟩,?_⟩
    have e:=r.length;simp only[yau]at e;omega
theorem Inv.tuple (I:Inv X pins σ H s)(h:SqT X.K H a xs):∃ its:List Value,Vals xs its∧IsTup s.heap a its.toArray∧xs.length≤sizeLine:=by
  rcases h with h | ⟨o,its,n,hk,hc,hs,hz,r⟩
  · obtain ⟨z,its,r,p⟩:=h.ok I.hok
    exact ⟨its,r,p,z⟩
  · refine ⟨its.toList,r,⟨o,I.kIn a o hk,hc,n,by simpa using hs⟩,?_⟩
    have e:=r.length;simp only[yau]at e;omega
theorem Inv.list_inj (I:Inv X pins σ H s)(h:SqL X.K H a xs)(h':SqL X.K H a ys):xs=ys:=by
  obtain ⟨its,r,⟨o,n,e,_,_,d⟩,_⟩:=I.list h;obtain ⟨its',r',⟨o',n',e',_,_,d'⟩,_⟩:=I.list h';rw[e]at e';cases e'
  rw[d]at d';injection d' with d1 _;have:its=its':=by simpa using congrArg Array.toList d1
  subst this;exact r.inj r'
theorem Inv.tuple_inj (I:Inv X pins σ H s)(h:SqT X.K H a xs)(h':SqT X.K H a ys):xs=ys:=by
  obtain ⟨its,r,⟨o,e,_,n,d⟩,_⟩:=I.tuple h;obtain ⟨its',r',⟨o',e',_,n',d'⟩,_⟩:=I.tuple h';rw[e]at e';cases e'
  rw[d]at d';injection d' with d1 _;have:its=its':=by simpa using congrArg Array.toList d1
  subst this;exact r.inj r'
end
abbrev Cx.wish (X:Cx)(E:Value→Shared→Prop):Cx:={ X with xe:=E }
abbrev Cx.nox (X:Cx):Cx:=X.wish fun _ _=>False
theorem Cx.Ok.wish {X:Cx}(ok:X.Ok)(E:Value→Shared→Prop):(X.wish E).Ok:=
  ⟨ok.mod,ok.kind,ok.glob,ok.blt,ok.above,ok.inj,ok.has,ok.cab,ok.hd,ok.frames,ok.stk,ok.exf,ok.bs,ok.bsz,ok.noex,ok.exfs,ok.funs,ok.frf⟩
theorem Cx.Ok.unwish {X:Cx}{E:Value→Shared→Prop}(ok:(X.wish E).Ok):X.Ok:=
  ⟨ok.mod,ok.kind,ok.glob,ok.blt,ok.above,ok.inj,ok.has,ok.cab,ok.hd,ok.frames,ok.stk,ok.exf,ok.bs,ok.bsz,ok.noex,ok.exfs,ok.funs,ok.frf⟩
section
variable {X:Cx}{pins:List (Addr×Obj)}{σ:St}{H:Hp}{s:Shared}{E:Value→Shared→Prop}
theorem Inv.wish (I:Inv X pins σ H s)(E:Value→Shared→Prop):Inv (X.wish E) pins σ H s:=⟨I.ok.wish E,I.os,I.bare,I.base,I.loc,I.cell,I.free,I.freeC,I.pin,I.hok,I.len⟩
theorem Inv.unwish (I:Inv (X.wish E) pins σ H s):Inv X pins σ H s:=⟨I.ok.unwish,I.os,I.bare,I.base,I.loc,I.cell,I.free,I.freeC,I.pin,I.hok,I.len⟩
theorem SP.unwish {D:Ends}{f:Flow}{s':Shared}(h:SP (X.wish E) pins D f s'):SP X pins D f s':=by
  cases f with
  | next=>obtain ⟨σ',H',I,q⟩:=h;exact ⟨σ',H',I.unwish,q⟩
  | brk=>obtain ⟨σ',H',I,q⟩:=h;exact ⟨σ',H',I.unwish,q⟩
  | cont=>obtain ⟨σ',H',I,q⟩:=h;exact ⟨σ',H',I.unwish,q⟩
  | ret u=>obtain ⟨v,σ',H',I,r,q⟩:=h;exact ⟨v,σ',H',I.unwish,r,q⟩
theorem PSs.nox {st:List Stmt}{t:TS}(h:PSs X.nox st t):PSs X st t:=fun pins s σ H D I hw=>
  wpAny_mono (h pins s σ H D (I.wish _) hw) (fun _ _ q=>q.unwish) fun _ _ z=>False.elim z
end
section
variable {X:Cx}{st:Stmt}{rest:List Stmt}{t u:TS}{e:Expr}{te:TE}{pos:Pos}
def zrX:TS:=fun D σ H=>D.nx σ H
def tSeq (t u:TS):TS:=fun D σ H=>t { D with nx:=u D } σ H
theorem zay:PSs X [] zrX:=fun _ _ σ H _ I h=>wpAny_execs_nil ⟨σ,H,I,h⟩
theorem zal (h1:PS X st t)(h2:PSs X rest u):PSs X (st::rest) (tSeq t u):=by
  intro pins s σ H D I h;refine wpAny_execs_cons (thn (h1 pins s σ H { D with nx:=u D } I h) fun f s1 q=>?_);cases f with
  | next=>
    obtain ⟨σ',H',I',q⟩:=q;exact h2 pins s1 σ' H' D I' q
  | ret v=>exact q
  | brk=>exact q
  | cont=>exact q
theorem zae (h1:PS X st t):PSs X [st] t:=by
  intro pins s σ H D I h;refine wpAny_execs_cons (thn (h1 pins s σ H D I h) fun f s1 q=>?_);cases f with
  | next=>exact wpAny_execs_nil q
  | ret v=>exact q
  | brk=>exact q
  | cont=>exact q
theorem Inv.quiet {pins:List (Addr×Obj)}{σ:St}{H:Hp}{s:Shared}(I:Inv X pins σ H s):interactive X.env=false:=by simp[interactive,I.ok.kind]
def zrY (te:TE):TS:=fun D σ H=>te σ H fun _ H1=>D.nx σ H1
theorem zbx (he:PE X e te)(hs:swapsWith e none pos.line X.env=pure false:=by rfl):PS X (.Expr e pos) (zrY te):=by
  intro pins s σ H D I h;exact wpAny_Expr_any (thn (he pins s σ H _ I h) fun v s1 zq0=>(by obtain ⟨x,H1,I1,r1,q1⟩:=zq0;exact ⟨σ,H1,I1,q1⟩)) I.quiet hs
def tRet (te:TE):TS:=fun D σ H=>te σ H D.rt
theorem zav (he:PE X e te):PS X (.Return (some e) pos) (tRet te):=by
  intro pins s σ H D I h;exact wpAny_Return_some (thn (he pins s σ H _ I h) fun v s1 zq0=>(by obtain ⟨x,H1,I1,r1,q1⟩:=zq0;exact ⟨x,σ,H1,I1,r1,q1⟩))
def tIfS (c:TT)(t u:TS):TS:=fun D σ H=>c σ H fun b H1=>if b=true then t D σ H1 else u D σ H1
theorem zaW {c:Expr}{a b:List Stmt}{tc:TT}(hc:PT X c tc)(ha:PSs X a t)(hb:PSs X b u):PS X (.If c a b pos) (tIfS tc t u):=by
  intro pins s σ H D I h;refine wpAny_If (thn (hc pins s σ H _ I h) fun d s1 zq0=>?_);obtain ⟨H1,I1,q1⟩:=zq0;cases d with
  | true=>exact ha pins s1 σ H1 D I1 q1
  | false=>exact hb pins s1 σ H1 D I1 q1
def zqC:TS:=fun _ _ _=>False
theorem za4:PS X st zqC:=fun _ _ _ _ _ _ h=>h.elim
end
abbrev TG:=V→St→Hp→(St→Hp→Prop)→Prop
abbrev TGs:=List V→St→Hp→(St→Hp→Prop)→Prop
def PG (X:Cx)(target:Expr)(t:TG):Prop:=
  ∀(pins:List (Addr×Obj)) (s:Shared) (σ:St) (H:Hp) (v:V) (u:Value) (Q:St→Hp→Prop),Inv X pins σ H s→RelV v u→t v σ H Q→
    wpAny (model X.prog X.w) X.A (assign target X.env u) (fun _ s'=>∃ σ' H',Inv X pins σ' H' s'∧Q σ' H') X.xe s
def PGs (X:Cx)(ts:List Expr)(t:TGs):Prop:=
  ∀(pins:List (Addr×Obj)) (s:Shared) (σ:St) (H:Hp) (vs:List V) (us:List Value) (Q:St→Hp→Prop),Inv X pins σ H s→Vals vs us→t vs σ H Q→
    wpAny (model X.prog X.w) X.A (assignInOrder ((assignEach ts X.env).map (·.2)) us) (fun _ s'=>∃ σ' H',Inv X pins σ' H' s'∧Q σ' H') X.xe s
abbrev TSet:=V→V→V→Hp→(Hp→Prop)→Prop
def PSet (X:Cx)(t:TSet):Prop:=
  ∀(pins:List (Addr×Obj)) (s:Shared) (σ:St) (H:Hp) (o i v:V) (ov iv u:Value) (Q:Hp→Prop),Inv X pins σ H s→RelV o ov→RelV i iv→RelV v u→t o i v H Q→
    wpAny (model X.prog X.w) X.A (setItem ov iv u) (fun _ s'=>∃ H',Inv X pins σ H' s'∧Q H') X.xe s
section
variable {X:Cx}{pos:Pos}
def zkJ (i:Nat):TG:=fun v σ H Q=>Q (σ.set i (some v)) H
theorem zat {i:Nat}{x:Str}(hN:X.N.Nodup)(hi:X.N[i]?=some x)(hx:Loc X.env.scope x)(hf:X.fn x=true∨X.env.scope.names.lookup x=some .local:=by first | exact .inl rfl | exact .inr rfl | assumption):PG X (.Name x pos) (zkJ i):=by
  intro pins s σ H v u Q I r h;exact wpAny_assign_Name (zjt I hN hi hx r (fun s' I'=>⟨_,H,I',h⟩) hf)
def gNil:TGs:=fun vs σ H Q=>vs=[]∧Q σ H
def zsa (t:TG)(u:TGs):TGs:=fun vs σ H Q=>∃ v r,vs=v::r∧t v σ H fun σ' H'=>u r σ' H' Q
theorem zeR:PGs X [] gNil:=by
  intro pins s σ H vs us Q I r h;obtain ⟨e,h⟩:=h;subst e;cases r
  exact assignInOrder_nil ⟨σ,H,I,h⟩
theorem za5 {e:Expr}{es:List Expr}{t:TG}{u:TGs}(h1:PG X e t)(h2:PGs X es u)
    (hs:(assignEach (e::es) X.env).map (·.2)=assign e X.env::(assignEach es X.env).map (·.2):=by rfl):PGs X (e::es) (zsa t u):=by
  intro pins s σ H vs us Q I r h;obtain ⟨v,vr,e1,h⟩:=h;subst e1;cases r with
  | cons r rr=>
    rw[hs];refine assignInOrder_cons (thn (h1 pins s σ H _ _ _ I r h) fun _ s1 zq0=>?_);obtain ⟨σ1,H1,I1,q1⟩:=zq0;exact h2 pins s1 σ1 H1 _ _ Q I1 rr q1
def gTup (K:Frag)(n:Nat)(t:TGs):TG:=fun v σ H Q=>∃ a xs,v=.ref a∧SqT K H a xs∧xs.length=n∧t xs σ H Q
theorem zgB {es:List Expr}{k:Nat}{t:TGs}{n:Nat}(hc:X.calm=true)(h:PGs X es t)
    (hn:(assignEach es X.env).length=n:=by rfl) (hst:(assignEach es X.env).findIdx? (·.1)=none:=by rfl):PG X (.Tuple es k pos) (gTup X.K n t):=by
  intro pins s σ H v u Q I r hw;obtain ⟨a,xs,e1,hq,hl,hw⟩:=hw;subst e1;cases r
  obtain ⟨its,rv,ht,hz⟩:=I.tuple hq;refine assign_Tuple_tuple (I.ok.hd hc) ht (by simp[hn,← hl,rv.length]) hst fun h' hx=>?_;have I1:Inv X pins σ H { s with heap:=h' }:=I.kept (t':=s.toks) fun b o e=>hx b o (yas (yag e)) e;exact h pins _ σ H xs _ Q I1 (by simpa using rv) hw
def gSub (to ti:TE)(t:TSet):TG:=fun v σ H Q=>to σ H fun o H1=>ti σ H1 fun i H2=>t o i v H2 fun H3=>Q σ H3
theorem zjN {o i:Expr}{to ti:TE}{t:TSet}(ho:PE X o to)(hi:PE X i ti)(hs:PSet X t)
    (ha:∀ v,assign (.Subscript o i pos) X.env v=(do
      let ov ← holding [v] (eval o X.env)
      let iv ← holding [v,ov] (eval i X.env)
      standAt pos
      holding [v,ov,iv] (setItem ov iv v)
      release [v,ov,iv] []):=by intro _;rfl):PG X (.Subscript o i pos) (gSub to ti t):=by
  intro pins s σ H v u Q I r h;rw[ha];refine wpAny_bind (wpAny_holding (thn (ho pins s σ H _ I h) fun ov s1 zq0=>?_));obtain ⟨x,H1,I1,r1,q1⟩:=zq0;refine wpAny_bind (wpAny_holding (thn (hi pins s1 σ H1 _ I1 q1) fun iv s2 zq0=>?_));obtain ⟨y,H2,I2,r2,q2⟩:=zq0;refine wpAny_bind (wpAny_standAt (wpAny_bind (wpAny_holding (thn (hs pins s2 σ H2 x y v ov iv u _ I2 r1 r2 r q2) fun _ s3 zq0=>?_))));obtain ⟨H3,I3,q3⟩:=zq0;exact wpAny_release ⟨σ,H3,I3,q3⟩
def tAsg (te:TE)(g:TG):TS:=fun D σ H=>te σ H fun x H1=>g x σ H1 D.nx
theorem zjM {tg e:Expr}{te:TE}{g:TG}(he:PE X e te)(hg:PG X tg g)(hs:swapsWithSole [tg] e pos.line X.env=pure false:=by rfl)(hw:swappedStores [tg] e X.env=pure none:=by rfl)
    (h1:(assignEach [tg] X.env).map (·.2)=[assign tg X.env]:=by rfl):PS X (.Assign [tg] e pos) (tAsg te g):=by
  intro pins s σ H D I h;refine wpAny_Assign_stores (thn (he pins s σ H _ I h) fun v s1 zq0=>?_) hs hw;obtain ⟨x,H1,I1,r1,q1⟩:=zq0;rw[h1];exact thn (hg pins s1 σ H1 x v _ I1 r1 q1) fun _ s2 q=>q
theorem zar {i:Nat}{x:Str}{e:Expr}{te:TE}{pos':Pos}(hN:X.N.Nodup)(hi:X.N[i]?=some x)(hx:Loc X.env.scope x)(he:PE X e te)(hs:swapsWith e (some (.Name x pos')) pos.line X.env=pure false:=by rfl)(hf:X.fn x=true∨X.env.scope.names.lookup x=some .local:=by first | exact .inl rfl | exact .inr rfl | assumption) :
    PS X (.Assign [.Name x pos'] e pos) (tAsg te (zkJ i)):=by
  intro pins s σ H D I h;refine wpAny_Assign_Name (thn (he pins s σ H _ I h) fun v s1 zq0=>?_) hs;obtain ⟨y,H1,I1,r1,q1⟩:=zq0;exact zjt I1 hN hi hx r1 (fun s2 I2=>⟨_,H1,I2,q1⟩) hf
end
section
variable {X:Cx}{pos:Pos}
def zlj (c:TT)(tb:TS):TS:=fun D σ H=>∃ W:Nat→St→Hp→Prop,(∃ m,W m σ H)∧∀ m σ H,W m σ H→
  c σ H fun b H1=>if b=true then ∃ N:St→Hp→Prop,(∀ σ' H',N σ' H'→∃ m',m' < m∧W m' σ' H')∧tb { D with nx:=N,ct:=N,bk:=D.nx } σ H1 else D.nx σ H1
theorem zjJ {c:Expr}{body:List Stmt}{tc:TT}{tb:TS}(hp:PassesOwn (model X.prog X.w) X.A X.env X.xe)(hc:PT X c tc)(hb:PSs X body tb):PS X (.While c body [] pos) (zlj tc tb):=by
  intro pins s σ H D I h;obtain ⟨W,⟨m0,w0⟩,turn⟩:=h;refine wpAny_While (codeAny_whileLoop (fun n s'=>∃ σ' H',Inv X pins σ' H' s'∧W n σ' H') ?_ m0 ⟨σ,H,I,w0⟩);rintro n s1 ⟨σ1,H1,I1,w1⟩;refine wpAny_passesOwn hp (thn (hc pins s1 σ1 H1 _ I1 (turn n σ1 H1 w1)) fun b s2 zq0=>?_);obtain ⟨H2,I2,q2⟩:=zq0;cases b with
  | true=>
    obtain ⟨N,hN,q2⟩:=q2;rw[if_pos rfl];refine wpAny_passesOwn hp (thn (hb pins s2 σ1 H2 _ I2 q2) fun f s3 q3=>?_);cases f with
    | next=>
      obtain ⟨σ3,H3,I3,n3⟩:=q3;obtain ⟨m',hm,w3⟩:=hN σ3 H3 n3;exact ⟨m',hm,σ3,H3,I3,w3⟩
    | cont=>
      obtain ⟨σ3,H3,I3,n3⟩:=q3;obtain ⟨m',hm,w3⟩:=hN σ3 H3 n3;exact ⟨m',hm,σ3,H3,I3,w3⟩
    | brk=>exact q3
    | ret v=>exact q3
  | false=>
    rw[if_neg yay];exact wpAny_execs_nil ⟨σ1,H2,I2,q2⟩
end
structure It where
  go:Nat→Hp→Prop
  yld:Nat→Hp→V→Hp→Prop
  stop:Nat→Hp→Prop
def FpOk (X:Cx)(pins:List (Addr×Obj))(H:Hp)(b:Addr):Prop:=
  H b=none∧b≠X.env.locals∧b∉X.fs∧(b∈X.ex∨X.s₀.heap.objs.size≤b)∧(∀ x c,X.env.cells.lookup x=some c→c≠b)∧∀ p∈X.pn++pins,p.1≠b
theorem Inv.fpOk {X:Cx}{pins:List (Addr×Obj)}{σ:St}{H H':Hp}{s:Shared}{b:Addr}(I:Inv X pins σ H s)(hb:s.heap.objs.size≤b)(hn:H' b=none):FpOk X pins H' b:=by
  refine ⟨hn,ybk (yax I.lt hb),I.nofs hb,.inr (yaw I.sz hb),fun x c e z=>?_,fun p hp z=>?_⟩
  · obtain ⟨v,q⟩:=I.cell x c e
    exact absurd (yax q.lt (by rw[z];exact hb)) (ybj _)
  · exact absurd (yax (yag (I.pin p hp).1) (by rw[z];exact hb)) (ybj _)
structure Turn (P:Program)(w:World)(K:Frag)(tg:Expr)(J:It)(fp:List Addr)(it:Addr)(tn:Nat→Heap→Prop):Prop where
  mem:it∈fp
  obj:∀ i h,tn i h→∀ b∈fp,∃ o,h.get? b=some o∧∀ v,o.data≠.cell v
  keep:∀ i h h',tn i h→(∀ b∈fp,∀ o,h.get? b=some o→h'.get? b=some o)→tn i h'
  item:∀(X:Cx),X.prog=P→X.w=w→X.K=K→X.calm=true→∀(i:Nat) (pins:List (Addr×Obj)) (s:Shared) (σ:St) (H:Hp) (E:Value→Shared→Prop),Inv X pins σ H s→(∀ b∈fp,FpOk X pins H b)→tn i s.heap→J.go i H→
    wpAny (model P w) X.A (pyNext (.ref it)) (fun r s1=>∃ u,r=some u∧
      wpAny (model P w) X.A (letOwnedTupleGo tg (.ref it) u) (fun _ s2=>∃ x H',Inv X pins σ H' s2∧RelV x u∧J.yld i H x H'∧tn (i+1) s2.heap∧∀ b∈fp,H' b=none) E s1) E s
  done:∀(X:Cx),X.prog=P→X.w=w→X.K=K→X.calm=true→∀(i:Nat) (pins:List (Addr×Obj)) (s:Shared) (σ:St) (H:Hp) (E:Value→Shared→Prop),Inv X pins σ H s→(∀ b∈fp,FpOk X pins H b)→tn i s.heap→J.stop i H→
    wpAny (model P w) X.A (pyNext (.ref it)) (fun r s1=>r=none∧Inv X pins σ H s1) E s
  self:∀(A:Around) (i:Nat) (s:Shared) (Q:Value→Shared→Prop) (E:Value→Shared→Prop),tn i s.heap→Q (.ref it) s→wpAny (model P w) A (pyIter (.ref it)) Q E s
abbrev TI:=St→Hp→(It→Hp→Prop)→Prop
def PIE (X:Cx)(pins:List (Addr×Obj))(σ:St)(tg:Expr)(R:It→Hp→Prop)(itv:Value)(s2:Shared):Prop:=
  ∃(it:Addr) (fp:List Addr) (tn:Nat→Heap→Prop) (J:It) (H':Hp),itv=.ref it∧Inv X pins σ H' s2∧Turn X.prog X.w X.K tg J fp it tn∧tn 0 s2.heap∧(∀ b∈fp,FpOk X pins H' b)∧R J H'
def PI (X:Cx)(tg iter:Expr)(wi:TI):Prop:=
  ∀(pins:List (Addr×Obj)) (s:Shared) (σ:St) (H:Hp) (R:It→Hp→Prop),Inv X pins σ H s→wi σ H R→
    wpAny (model X.prog X.w) X.A (eval iter X.env) (fun v s1=>wpAny (model X.prog X.w) X.A (pyIter v) (PIE X pins σ tg R) X.xe s1) X.xe s
theorem zoq {M:Model}{A:Around}{E:Value→Shared→Prop}{s:Shared}{tg:Expr}{it:Addr}{u:Value}{o:Obj}{n:String}{vs:Array Value}{Q:Unit→Shared→Prop}(ho:s.heap.get? it=some o)(hc:o.cls=.type n)(hd:o.data=.fields vs)
    (hn:["enumerate","zip","dict_itemiterator","dict_reverseitemiterator","odict_iterator","itertools.zip_longest","itertools.pairwise"].contains n=false) (hQ:Q () s):wpAny M A (letOwnedTupleGo tg (.ref it) u) Q E s:=by
  unfold letOwnedTupleGo;cases tg <;> first
    | exact wpAny_pure hQ
    | (cases u <;> first
        | exact wpAny_pure hQ
        | (refine wpAny_bind (wpAny_load ho ?_)
           rw[hc,hd];show wpAny M A (if (["enumerate","zip","dict_itemiterator","dict_reverseitemiterator","odict_iterator","itertools.zip_longest","itertools.pairwise"].contains n && vs[0]? == some (rawInt _))=true then _ else _) Q E s
           rw[if_neg (by intro h;rw[hn,Bool.false_and]at h;cases h)]
           exact wpAny_pure hQ))
def Itl (K:Frag)(a:Addr):It:=
  ⟨fun i H=>∃ xs x,SqL K H a xs∧xs[i]?=some x,fun i H x H'=>H'=H∧∀ xs,SqL K H a xs→xs[i]?=some x,fun i H=>∃ xs,SqL K H a xs∧xs.length≤i⟩
def Itt (K:Frag)(a:Addr):It:=
  ⟨fun i H=>∃ xs x,SqT K H a xs∧xs[i]?=some x,fun i H x H'=>H'=H∧∀ xs,SqT K H a xs→xs[i]?=some x,fun i H=>∃ xs,SqT K H a xs∧xs.length≤i⟩
def Itr (lo:Int)(n:Nat):It:=⟨fun i _=>i < n,fun i H x H'=>H'=H∧x=.int (lo+i),fun i _=>n≤i⟩
theorem zhI {P:Program}{w:World}{K:Frag}{tg:Expr}(a it:Addr):Turn P w K tg (Itl K a) [it] it (fun i h=>h.IsListIter it a i) where
  mem:=by simp
  obj:=fun i h st b hb=>by
    have e:b=it:=by simpa using hb
    subst e;obtain ⟨o,e,c,d⟩:=st;exact ⟨o,e,fun v z=>by rw[d]at z;cases z⟩
  keep:=fun i h h' st k=>st.at fun o e=>k it (by simp) o e
  item:=by
    intro X hP hw hK hc i pins s σ H E I hf st hg;subst hP hw hK;obtain ⟨xs,x,hq,hx⟩:=hg;obtain ⟨its,rv,p,hz⟩:=I.list hq;obtain ⟨u,hu,ru⟩:=rv.get hx;obtain ⟨f0,f1,f2,f3,f4,f5⟩:=hf it (by simp);refine wpAny_pyNext_list_item st p.isList (x:=u) (by simpa using hu) fun h' st' sb=>?_;have I1:Inv X pins σ H { s with heap:=h' }:=I.turned (t':=s.toks) (fun b o hb e=>(sb.2 b hb).trans e) f0 f1 f3 f4 f5;obtain ⟨o,e,c,d⟩:=id st';exact ⟨u,rfl,zoq (s:={ s with heap:=h' }) e c d (by decide) ⟨x,H,I1,ru,⟨rfl,fun ys hy=>by rw[I.list_inj hy hq];exact hx⟩,st',fun b hb=>(hf b hb).1⟩⟩
  done:=by
    intro X hP hw hK hc i pins s σ H E I hf st hg;subst hP hw hK;obtain ⟨xs,hq,hx⟩:=hg;obtain ⟨its,rv,p,hz⟩:=I.list hq;obtain ⟨f0,f1,f2,f3,f4,f5⟩:=hf it (by simp);have hl:=rv.length;exact wpAny_pyNext_list_end (I.ok.hd hc) st p.isList (by simp;omega) fun h' eb=>⟨rfl,I.turned (t':=s.toks) (fun b o hb e=>eb b o hb e) f0 f1 f3 f4 f5⟩
  self:=fun _ _ _ _ _ st h=>wpAny_pyIter_listiter st h
theorem zgs {P:Program}{w:World}{K:Frag}{tg:Expr}(a it:Addr):Turn P w K tg (Itt K a) [it] it (fun i h=>h.IsTupleIter it a i) where
  mem:=by simp
  obj:=fun i h st b hb=>by
    have e:b=it:=by simpa using hb
    subst e;obtain ⟨o,e,c,d⟩:=st;exact ⟨o,e,fun v z=>by rw[d]at z;cases z⟩
  keep:=fun i h h' st k=>st.at fun o e=>k it (by simp) o e
  item:=by
    intro X hP hw hK hc i pins s σ H E I hf st hg;subst hP hw hK;obtain ⟨xs,x,hq,hx⟩:=hg;obtain ⟨its,rv,p,hz⟩:=I.tuple hq;obtain ⟨u,hu,ru⟩:=rv.get hx;obtain ⟨f0,f1,f2,f3,f4,f5⟩:=hf it (by simp);refine wpAny_pyNext_tuple_item st (show s.heap.IsTuple a its.toArray from p) (x:=u) (by simpa using hu) fun h' st' sb=>?_;have I1:Inv X pins σ H { s with heap:=h' }:=I.turned (t':=s.toks) (fun b o hb e=>(sb.2 b hb).trans e) f0 f1 f3 f4 f5;obtain ⟨o,e,c,d⟩:=id st';exact ⟨u,rfl,zoq (s:={ s with heap:=h' }) e c d (by decide) ⟨x,H,I1,ru,⟨rfl,fun ys hy=>by rw[I.tuple_inj hy hq];exact hx⟩,st',fun b hb=>(hf b hb).1⟩⟩
  done:=by
    intro X hP hw hK hc i pins s σ H E I hf st hg;subst hP hw hK;obtain ⟨xs,hq,hx⟩:=hg;obtain ⟨its,rv,p,hz⟩:=I.tuple hq;obtain ⟨f0,f1,f2,f3,f4,f5⟩:=hf it (by simp);have hl:=rv.length;exact wpAny_pyNext_tuple_end (I.ok.hd hc) st (show s.heap.IsTuple a its.toArray from p) (by simp;omega) fun h' eb=>⟨rfl,I.turned (t':=s.toks) (fun b o hb e=>eb b o hb e) f0 f1 f3 f4 f5⟩
  self:=fun _ _ _ _ _ st h=>wpAny_pyIter_tupleiter st h
theorem zki {P:Program}{w:World}{K:Frag}{tg:Expr}(it:Addr)(lo:Int)(n:Nat):Turn P w K tg (Itr lo n) [it] it (fun i h=>IsRangeIter h it (lo+(i:Nat) * 1) ((n:Int) - (i:Nat)) 1) where
  mem:=by simp
  obj:=fun i h st b hb=>by
    have e:b=it:=by simpa using hb
    subst e;exact ⟨_,st,fun v z=>by
      have z':Data.fields _=Data.cell v:=z;cases z'⟩
  keep:=fun i h h' st k=>k it (by simp) _ st
  item:=by
    intro X hP hw hK hc i pins s σ H E I hf st hg;subst hP hw hK;obtain ⟨f0,f1,f2,f3,f4,f5⟩:=hf it (by simp);have W:=Walks.range (prog:=X.prog) (w:=X.w) (I.ok.hd hc) it lo 1 n;refine W.item i s _ _ hg st fun v h' tk hv st' kk=>?_;obtain ⟨t,rfl⟩:=hv;have I1:Inv X pins σ H { s with heap:=h',toks:=tk }:=I.turned (fun b o hb e=>kk b o (by simpa using hb) e) f0 f1 f3 f4 f5;refine ⟨_,rfl,zoq (s:={ s with heap:=h',toks:=tk }) (n := "range_iterator") st' rfl rfl (by decide) ⟨.int (lo+i),H,I1,⟨t,?_⟩,⟨rfl,rfl⟩,st',fun b hb=>(hf b hb).1⟩⟩;rw[Int.mul_one]
  done:=by
    intro X hP hw hK hc i pins s σ H E I hf st hg;subst hP hw hK;obtain ⟨f0,f1,f2,f3,f4,f5⟩:=hf it (by simp);exact wpAny_pyNext_range_end (I.ok.hd hc) st (by have:n≤i:=hg;omega) fun h' eb=>⟨rfl,I.turned (t':=s.toks) (fun b o hb e=>eb b o hb e) f0 f1 f3 f4 f5⟩
  self:=fun _ _ _ _ _ st h=>wpAny_pyIter_rangeiter st h
end L2
namespace L2
open PySem PySem.Spec PyProof.Rows
section
variable {X:Cx}{tg:Expr}
def zr8 (K:Frag)(tl:TE):TI:=fun σ H R=>tl σ H fun x H1=>∃ a,x=.ref a∧(∃ xs,SqL K H1 a xs)∧R (Itl K a) H1
def iTup (K:Frag)(tl:TE):TI:=fun σ H R=>tl σ H fun x H1=>∃ a,x=.ref a∧(∃ xs,SqT K H1 a xs)∧R (Itt K a) H1
theorem zb2 {l:Expr}{tl:TE}(hl:PE X l tl):PI X tg l (zr8 X.K tl):=by
  intro pins s σ H R I h;refine thn (hl pins s σ H _ I h) fun v s1 zq0=>?_;obtain ⟨x,H1,I1,r1,q1⟩:=zq0;obtain ⟨a,e,⟨xs,hq⟩,q⟩:=q1;subst e;cases r1
  obtain ⟨its,rv,p,hz⟩:=I1.list hq;refine wpAny_pyIter_list p.isList ?_;refine ⟨s1.heap.objs.size,[s1.heap.objs.size],_,_,H1,rfl,I1.kept (t':=s1.toks) fun b o e=>yal _ e,zhI a _,⟨_,yaB _ rfl,rfl,rfl⟩,fun b hb=>?_,q⟩;have e:b=s1.heap.objs.size:=by simpa using hb
  subst e;exact I1.fpOk (yaa _) (I1.hok.fresh (yaa _))
theorem zgA {l:Expr}{tl:TE}(hl:PE X l tl):PI X tg l (iTup X.K tl):=by
  intro pins s σ H R I h;refine thn (hl pins s σ H _ I h) fun v s1 zq0=>?_;obtain ⟨x,H1,I1,r1,q1⟩:=zq0;obtain ⟨a,e,⟨xs,hq⟩,q⟩:=q1;subst e;cases r1
  obtain ⟨its,rv,p,hz⟩:=I1.tuple hq;refine wpAny_pyIter_tuple (show s1.heap.IsTuple a its.toArray from p) ?_;refine ⟨s1.heap.objs.size,[s1.heap.objs.size],_,_,H1,rfl,I1.kept (t':=s1.toks) fun b o e=>yal _ e,zgs a _,⟨_,yaB _ rfl,rfl,rfl⟩,fun b hb=>?_,q⟩;have e:b=s1.heap.objs.size:=by simpa using hb
  subst e;exact I1.fpOk (yaa _) (I1.hok.fresh (yaa _))
theorem zjG {pins:List (Addr×Obj)}{σ:St}{H:Hp}{s:Shared}{R:It→Hp→Prop}{E:Value→Shared→Prop}{lo hi:Int}{t u v:Tok}{tk:Nat}(I:Inv X pins σ H s)(h1:-(2 ^ 62)≤lo)(h2:lo < 2 ^ 62)(h3:-(2 ^ 62)≤hi)(h4:hi < 2 ^ 62)
    (q:R (Itr lo (hi - lo).toNat) H):wpAny (model X.prog X.w) X.A (pyIter (.ref s.heap.objs.size)) (PIE X pins σ tg R) E { s with heap:=s.heap.push { cls:=.type "range",data:=.fields #[.int lo t,.int hi u,.int 1 v] },toks:=tk }:=by
  refine wpAny_pyIter_range (IsRange.new ..) (small_one h1 h2 h3 h4) ?_;have I1:Inv X pins σ H { s with heap:=s.heap.push { cls:=.type "range",data:=.fields #[.int lo t,.int hi u,.int 1 v] },toks:=tk }:=I.kept fun b o e=>yal _ e;refine ⟨(s.heap.push { cls:=.type "range",data:=.fields #[.int lo t,.int hi u,.int 1 v] }).objs.size,[(s.heap.push { cls:=.type "range",data:=.fields #[.int lo t,.int hi u,.int 1 v] }).objs.size],_,_,H,rfl,
    I1.kept (t':=tk) fun b o e=>yal _ e,zki _ lo (hi - lo).toNat,?_,fun b hb=>?_,q⟩
  · have e1:lo+((0:Nat):Int) * 1=lo:=by simp
    have e2:(((hi - lo).toNat:Nat):Int) - ((0:Nat):Int)=Builtin.Range.rangeSize lo hi 1:=by rw[rangeSize_one];split <;> omega
    show IsRangeIter _ _ (lo+((0:Nat):Int) * 1) ((((hi - lo).toNat:Nat):Int) - ((0:Nat):Int)) 1;rw[e1,e2];exact yaB _ rfl
  · have e:b=(s.heap.push { cls:=.type "range",data:=.fields #[.int lo t,.int hi u,.int 1 v] }).objs.size:=by simpa using hb
    subst e;exact I1.fpOk (yaa _) (I1.hok.fresh (yaa _))
def zr7 (ta:TA):TI:=fun σ H R=>ta σ H fun vs H1=>∃ j:Int,vs=[.int j]∧-(2 ^ 62)≤j∧j < 2 ^ 62∧R (Itr 0 j.toNat) H1
def zr6 (ta:TA):TI:=fun σ H R=>ta σ H fun vs H1=>∃ i j:Int,vs=[.int i,.int j]∧(-(2 ^ 62)≤i∧i < 2 ^ 62∧-(2 ^ 62)≤j∧j < 2 ^ 62)∧R (Itr i (j - i).toNat) H1
theorem zbJ {a:Expr}{ta:TA}{p pos:Pos}(hg:Gl X "range")(hm:X.mg "range" = none)(ha:PA X [a] ta)(hs:starEach [a] X.env=[(false,eval a X.env)]:=by rfl):PI X tg (.Call (.Name "range" p) [a] [] pos) (zr7 ta):=by
  intro pins s σ H R I h;refine Call_ (zfi I hg hm boot_range (PyProof.Rows.callWith_type1 (thn (ha pos pins s σ H _ I h) fun us s1 zq0=>?_) hs rfl));obtain ⟨vs,H1,I1,r1,q1⟩:=zq0;obtain ⟨j,e,q1,q2,q⟩:=q1;subst e;cases r1 with
  | cons r rr=>
    cases rr
    obtain ⟨t,rfl⟩:=r;exact call_range_1 (zjG I1 (by omega) (by omega) q1 q2 (by simpa using q))
theorem zev {a b:Expr}{ta:TA}{p pos:Pos}(hg:Gl X "range")(hm:X.mg "range" = none)(ha:PA X [a,b] ta)(hs:starEach [a,b] X.env=[(false,eval a X.env),(false,eval b X.env)]:=by rfl)(hs2:starEach [b] X.env=[(false,eval b X.env)]:=by rfl) :
    PI X tg (.Call (.Name "range" p) [a,b] [] pos) (zr6 ta):=by
  intro pins s σ H R I h;refine Call_ (zfi I hg hm boot_range (PyProof.Rows.callWith_type1 (thn (ha pos pins s σ H _ I h) fun us s1 zq0=>?_) (by rw[hs,hs2]) (by rw[hs2];rfl)));obtain ⟨vs,H1,I1,r1,q1⟩:=zq0;obtain ⟨i,j,e,⟨q1,q2,q3,q4⟩,q⟩:=q1;subst e;cases r1 with
  | cons r rr=>
    cases rr with
    | cons r' rr=>
      cases rr
      obtain ⟨t,rfl⟩:=r;obtain ⟨t',rfl⟩:=r';exact call_range_2 (zjG I1 q1 q2 q3 q4 q)
def tFor (wi:TI)(g:TG)(tb:TS):TS:=fun D σ H=>wi σ H fun J H1=>∃ W:Nat→Nat→St→Hp→Prop,(∃ m,W 0 m σ H1)∧∀ i m σ H,W i m σ H→
  (J.stop i H∧D.nx σ H)∨(J.go i H∧∃ N:St→Hp→Prop,(∀ σ' H',N σ' H'→∃ m',m' < m∧W (i+1) m' σ' H')∧∀ x H',J.yld i H x H'→g x σ H' fun σ2 H2=>tb { D with nx:=N,ct:=N,bk:=D.nx } σ2 H2)
def zhX (fp:List Addr)(h:Heap):List (Addr×Obj):=fp.filterMap fun b=>(h.get? b).map fun o=>(b,o)
theorem zdP {fp:List Addr}{h:Heap}{b:Addr}{o:Obj}(hb:b∈fp)(e:h.get? b=some o):(b,o)∈zhX fp h:=List.mem_filterMap.mpr ⟨b,hb,by rw[e];rfl⟩
theorem zl9 {fp:List Addr}{h:Heap}{p:Addr×Obj}(hp:p∈zhX fp h):p.1∈fp∧h.get? p.1=some p.2:=by
  obtain ⟨b,hb,e⟩:=List.mem_filterMap.mp hp;cases q:h.get? b with
  | none=>rw[q]at e;cases e
  | some o=>
    rw[q]at e;have e':(b,o)=p:=yad e;subst e';exact ⟨hb,q⟩
theorem Inv.pinned {pins:List (Addr×Obj)}{σ:St}{H:Hp}{s:Shared}{fp:List Addr}(I:Inv X pins σ H s)(hf:∀ b∈fp,FpOk X pins H b)(ho:∀ b∈fp,∃ o,s.heap.get? b=some o∧∀ v,o.data≠.cell v):Inv X (pins++zhX fp s.heap) σ H s:=
  I.pins_of fun p hp=>(yai.mp hp).elim (fun z=>I.pin p (yaC _ z)) fun z=>by
    obtain ⟨hb,e⟩:=zl9 z;obtain ⟨f0,f1,f2,_⟩:=hf p.1 hb;obtain ⟨o,e',d⟩:=ho p.1 hb;rw[e]at e';cases e'
    exact ⟨e,f0,f1,f2,d⟩
theorem Inv.unpinned {pins pl:List (Addr×Obj)}{σ:St}{H:Hp}{s:Shared}(I:Inv X (pins++pl) σ H s):Inv X pins σ H s:=I.pins_of fun p hp=>I.pin p (yaC _ (yaZ _ hp))
theorem zbd {iter:Expr}{body:List Stmt}{wi:TI}{g:TG}{tb:TS}{pos:Pos}(hp:PassesOwn (model X.prog X.w) X.A X.env X.xe)(hc:X.calm=true)(hi:PI X tg iter wi)(hg:PG X tg g)(hb:PSs X body tb)
    (hs:∀ x,foldedSetIterable iter X.env x=pure x:=by intro _;rfl):PS X (.For tg iter body [] pos) (tFor wi g tb):=by
  intro pins s σ H D I h;refine wpAny_For (thn (hi pins s σ H _ I h) fun v s1 h1=>thn h1 fun itv s2 h2=>?_) hs;obtain ⟨it,fp,tn,J,H2,e,I2,T,st2,f2,W,⟨m0,w0⟩,turn⟩:=h2;subst e;have stat:∀{H':Hp},(∀ b∈fp,H' b=none)→∀ b∈fp,FpOk X pins H' b:=fun hn b hb=>⟨hn b hb,(f2 b hb).2⟩;refine codeAny_forLoop_any (fun n s'=>∃ i σ' H',Inv X pins σ' H' s'∧tn i s'.heap∧(∀ b∈fp,H' b=none)∧W i n σ' H') ?_ m0 ⟨0,σ,H2,I2,st2,fun b hb=>(f2 b hb).1,w0⟩;rintro n s3 ⟨i,σ3,H3,I3,st3,fr3,w3⟩;rcases turn i n σ3 H3 w3 with ⟨stop,qn⟩ | ⟨go,N,hN,step⟩
  · refine wpAny_passesOwn hp (thn (T.done X rfl rfl rfl hc i pins s3 σ3 H3 X.xe I3 (stat fr3) st3 stop) fun r s4 zq0=>?_)
    obtain ⟨hr,I4⟩:=zq0;subst hr;exact wpAny_execs_nil ⟨σ3,H3,I4,qn⟩
  · refine wpAny_passesOwn hp (thn (T.item X rfl rfl rfl hc i pins s3 σ3 H3 X.xe I3 (stat fr3) st3 go) fun r s4 zq0=>?_)
    obtain ⟨u,hr,h4⟩:=zq0;subst hr;refine wpAny_passesOwn hp (thn h4 fun _ s5 zq0=>?_);obtain ⟨x,H5,I5,r5,y5,st5,fr5⟩:=zq0;have I5':=I5.pinned (stat fr5) (T.obj _ _ st5);refine wpAny_passesOwn hp (thn (hg _ s5 σ3 H5 x u _ I5' r5 (step x H5 y5)) fun _ s6 zq0=>?_);obtain ⟨σ6,H6,I6,q6⟩:=zq0;refine wpAny_passesOwn hp (thn (hb _ s6 σ6 H6 _ I6 q6) fun f s7 q7=>?_);have again:∀{σ7:St} {H7:Hp},Inv X (pins++zhX fp s5.heap) σ7 H7 s7→N σ7 H7→∃ m,m < n∧∃ i σ' H',Inv X pins σ' H' s7∧tn i s7.heap∧(∀ b∈fp,H' b=none)∧W i m σ' H':=fun {σ7 H7} I7 n7=>by
      obtain ⟨m',hm,w7⟩:=hN σ7 H7 n7;refine ⟨m',hm,i+1,σ7,H7,I7.unpinned,T.keep _ _ _ st5 fun b hb o e=>(I7.pin (b,o) (yaC _ (yaC _ (zdP hb e)))).1,fun b hb=>?_,w7⟩;obtain ⟨o,e,d⟩:=T.obj _ _ st5 b hb;exact (I7.pin (b,o) (yaC _ (yaC _ (zdP hb e)))).2.1
    cases f with
    | next=>obtain ⟨σ7,H7,I7,n7⟩:=q7;exact again I7 n7
    | cont=>obtain ⟨σ7,H7,I7,n7⟩:=q7;exact again I7 n7
    | brk=>obtain ⟨σ7,H7,I7,q7⟩:=q7;exact ⟨σ7,H7,I7.unpinned,q7⟩
    | ret v=>obtain ⟨x7,σ7,H7,I7,r7,q7⟩:=q7;exact ⟨x7,σ7,H7,I7.unpinned,r7,q7⟩
end
theorem zcF {K:Frag}{a:Addr}{xs:List V}{g:TG}{tb:TS}{D:Ends}{σ:St}{H:Hp}(Pv:Nat→St→Hp→Prop)(h0:Pv 0 σ H)(hl:∀ i σ H,i≤xs.length→Pv i σ H→SqL K H a xs)
    (hs:∀ i x σ H,xs[i]?=some x→Pv i σ H→g x σ H fun σ2 H2=>tb { D with nx:=Pv (i+1),ct:=Pv (i+1),bk:=D.nx } σ2 H2) (hd:∀ σ H,Pv xs.length σ H→D.nx σ H) :
    ∃ W:Nat→Nat→St→Hp→Prop,(∃ m,W 0 m σ H)∧∀ i m σ H,W i m σ H→
      ((Itl K a).stop i H∧D.nx σ H)∨((Itl K a).go i H∧∃ N:St→Hp→Prop,(∀ σ' H',N σ' H'→∃ m',m' < m∧W (i+1) m' σ' H')∧∀ x H',(Itl K a).yld i H x H'→g x σ H' fun σ2 H2=>tb { D with nx:=N,ct:=N,bk:=D.nx } σ2 H2):=by
  refine ⟨fun i m σ H=>m=xs.length - i∧i≤xs.length∧Pv i σ H,⟨xs.length,by simp,yaF _,h0⟩,?_⟩;rintro i m σ H ⟨rfl,hi,p⟩;have q:=hl i σ H hi p;by_cases hlt:i < xs.length
  · refine .inr ⟨⟨xs,xs[i],q,by simp[hlt]⟩,Pv (i+1),fun σ' H' p'=>⟨xs.length - (i+1),by omega,rfl,hlt,p'⟩,fun x H' y=>?_⟩
    obtain ⟨e,y⟩:=y;subst e;exact hs i x σ _ (y xs q) p
  · have e:i=xs.length:=by omega
    subst e;exact .inl ⟨⟨xs,q,yaa _⟩,hd σ H p⟩
theorem zhx {K:Frag}{a:Addr}{xs:List V}{g:TG}{tb:TS}{D:Ends}{σ:St}{H:Hp}(Pv:Nat→St→Hp→Prop)(h0:Pv 0 σ H)(hl:∀ i σ H,i≤xs.length→Pv i σ H→SqT K H a xs)
    (hs:∀ i x σ H,xs[i]?=some x→Pv i σ H→g x σ H fun σ2 H2=>tb { D with nx:=Pv (i+1),ct:=Pv (i+1),bk:=D.nx } σ2 H2) (hd:∀ σ H,Pv xs.length σ H→D.nx σ H) :
    ∃ W:Nat→Nat→St→Hp→Prop,(∃ m,W 0 m σ H)∧∀ i m σ H,W i m σ H→
      ((Itt K a).stop i H∧D.nx σ H)∨((Itt K a).go i H∧∃ N:St→Hp→Prop,(∀ σ' H',N σ' H'→∃ m',m' < m∧W (i+1) m' σ' H')∧∀ x H',(Itt K a).yld i H x H'→g x σ H' fun σ2 H2=>tb { D with nx:=N,ct:=N,bk:=D.nx } σ2 H2):=by
  refine ⟨fun i m σ H=>m=xs.length - i∧i≤xs.length∧Pv i σ H,⟨xs.length,by simp,yaF _,h0⟩,?_⟩;rintro i m σ H ⟨rfl,hi,p⟩;have q:=hl i σ H hi p;by_cases hlt:i < xs.length
  · refine .inr ⟨⟨xs,xs[i],q,by simp[hlt]⟩,Pv (i+1),fun σ' H' p'=>⟨xs.length - (i+1),by omega,rfl,hlt,p'⟩,fun x H' y=>?_⟩
    obtain ⟨e,y⟩:=y;subst e;exact hs i x σ _ (y xs q) p
  · have e:i=xs.length:=by omega
    subst e;exact .inl ⟨⟨xs,q,yaa _⟩,hd σ H p⟩
theorem zbq {lo:Int}{n:Nat}{g:TG}{tb:TS}{D:Ends}{σ:St}{H:Hp}(Pv:Nat→St→Hp→Prop)(h0:Pv 0 σ H)
    (hs:∀ i σ H,i < n→Pv i σ H→g (.int (lo+i)) σ H fun σ2 H2=>tb { D with nx:=Pv (i+1),ct:=Pv (i+1),bk:=D.nx } σ2 H2) (hd:∀ σ H,Pv n σ H→D.nx σ H) :
    ∃ W:Nat→Nat→St→Hp→Prop,(∃ m,W 0 m σ H)∧∀ i m σ H,W i m σ H→
      ((Itr lo n).stop i H∧D.nx σ H)∨((Itr lo n).go i H∧∃ N:St→Hp→Prop,(∀ σ' H',N σ' H'→∃ m',m' < m∧W (i+1) m' σ' H')∧∀ x H',(Itr lo n).yld i H x H'→g x σ H' fun σ2 H2=>tb { D with nx:=N,ct:=N,bk:=D.nx } σ2 H2):=by
  refine ⟨fun i m σ H=>m=n - i∧i≤n∧Pv i σ H,⟨n,by simp,yaF _,h0⟩,?_⟩;rintro i m σ H ⟨rfl,hi,p⟩;by_cases hlt:i < n
  · refine .inr ⟨hlt,Pv (i+1),fun σ' H' p'=>⟨n - (i+1),by omega,rfl,hlt,p'⟩,fun x H' y=>?_⟩
    obtain ⟨e,y⟩:=y;subst e y;exact hs i σ _ hlt p
  · have e:i=n:=by omega
    subst e;exact .inl ⟨yaa _,hd σ H p⟩
theorem znj {c:TT}{tb:TS}{D:Ends}{σ:St}{H:Hp}(Pv:St→Hp→Prop)(μ:St→Hp→Nat)(h0:Pv σ H)
    (hs:∀ σ H,Pv σ H→c σ H fun b H1=>if b=true then tb { D with nx:=fun σ' H'=>Pv σ' H'∧μ σ' H' < μ σ H,ct:=fun σ' H'=>Pv σ' H'∧μ σ' H' < μ σ H,bk:=D.nx } σ H1 else D.nx σ H1)
    (mono:∀ σ H Q Q',(∀ b H1,Q b H1→Q' b H1)→c σ H Q→c σ H Q'):zlj c tb D σ H:=by
  refine ⟨fun m σ H=>m=μ σ H∧Pv σ H,⟨_,rfl,h0⟩,?_⟩;rintro m σ H ⟨rfl,p⟩;refine mono σ H _ _ (fun b H1 q=>?_) (hs σ H p);cases b with
  | true=>exact ⟨_,fun σ' H' ⟨p',l⟩=>⟨_,l,rfl,p'⟩,q⟩
  | false=>exact q
end L2
namespace L2
open PySem PySem.Spec PyProof.Rows
abbrev R2:=V→V→Hp→VK→Prop
def OpR (X:Cx)(f:Value→Value→Sem Value)(r:R2):Prop:=
  ∀(pins:List (Addr×Obj)) (s:Shared) (σ:St) (H:Hp) (x y:V) (v u:Value) (Q:VK),Inv X pins σ H s→RelV x v→RelV y u→r x y H Q→
    wpAny (model X.prog X.w) X.A (f v u) (EP X pins σ Q) X.xe s
def UnR (X:Cx)(f:Value→Sem Value)(r:V→Hp→VK→Prop):Prop:=
  ∀(pins:List (Addr×Obj)) (s:Shared) (σ:St) (H:Hp) (x:V) (v:Value) (Q:VK),Inv X pins σ H s→RelV x v→r x H Q→
    wpAny (model X.prog X.w) X.A (f v) (EP X pins σ Q) X.xe s
def zb1 (X:Cx)(f:Value)(r:List V→Hp→VK→Prop):Prop:=
  ∀(pins:List (Addr×Obj)) (s:Shared) (σ:St) (H:Hp) (xs:List V) (us:List Value) (Q:VK),Inv X pins σ H s→Vals xs us→r xs H Q→
    wpAny (model X.prog X.w) X.A (call f us) (EP X pins σ Q) X.xe s
def tOp (r:R2)(ta tb:TE):TE:=fun σ H Q=>ta σ H fun x H1=>tb σ H1 fun y H2=>r x y H2 Q
def tUn (r:V→Hp→VK→Prop)(ta:TE):TE:=fun σ H Q=>ta σ H fun x H1=>r x H1 Q
def rI (C:Int→Int→Prop)(g:Int→Int→V):R2:=fun x y H Q=>∃ i j,x=.int i∧y=.int j∧C i j∧Q (g i j) H
def rI0 (g:Int→Int→V):R2:=fun x y H Q=>∃ i j,x=.int i∧y=.int j∧Q (g i j) H
def rU (g:Int→V):V→Hp→VK→Prop:=fun x H Q=>∃ i,x=.int i∧Q (g i) H
section
variable {X:Cx}{a b c:Expr}{ta tb tc:TE}{pos:Pos}
theorem binT (ha:PE X a ta)(hb:PE X b tb){pins:List (Addr×Obj)}{s:Shared}{σ:St}{H:Hp}{R:V→V→Hp→Prop}(I:Inv X pins σ H s)
    (h:ta σ H fun x H1=>tb σ H1 fun y H2=>R x y H2) {Q:Value→Shared→Prop} {f:Value→Value→Sem Value}
    (hf:∀ v u s2 x y H2,Inv X pins σ H2 s2→RelV x v→RelV y u→R x y H2→wpAny (model X.prog X.w) X.A (f v u) Q X.xe s2) :
    wpAny (model X.prog X.w) X.A (eval a X.env) (fun v s₁=>wpAny (model X.prog X.w) X.A (eval b X.env) (fun u s₂=>wpAny (model X.prog X.w) X.A (f v u) Q X.xe s₂) X.xe s₁) X.xe s:=by
  refine thn (ha pins s σ H _ I h) fun v s1 zq0=>?_;obtain ⟨x,H1,I1,r1,q1⟩:=zq0;refine thn (hb pins s1 σ H1 _ I1 q1) fun u s2 zq0=>?_;obtain ⟨y,H2,I2,r2,q2⟩:=zq0;exact hf v u s2 x y H2 I2 r1 r2 q2
theorem zaA {op:Operator}{r:R2}(ho:OpR X (binaryOp op) r)(ha:PE X a ta)(hb:PE X b tb):PE X (.BinOp a op b pos) (tOp r ta tb):=by
  intro pins s σ H Q I h;exact wpAny_BinOp (binT ha hb I h fun v u s2 x y H2 I2 rx ry q=>ho pins s2 σ H2 x y v u Q I2 rx ry q)
theorem zpD {op:UnaryOp}{r:V→Hp→VK→Prop}(ho:UnR X (unaryOp op) r)(ha:PE X a ta):PE X (.UnaryOp op a pos) (tUn r ta):=by
  intro pins s σ H Q I h;exact UnaryOp_ (thn (ha pins s σ H _ I h) fun v s1 zq0=>(by obtain ⟨x,H1,I1,r1,q1⟩:=zq0;exact ho pins s1 σ H1 x v Q I1 r1 q1))
theorem opI {f:Value→Value→Sem Value}{C:Int→Int→Prop}{g:Int→Int→Int}
    (rule:∀(i j:Int) (t u:Tok) (s:Shared) (Q:Value→Shared→Prop) (E:Value→Shared→Prop),C i j→Q (.int (g i j) s.toks) { s with toks:=s.toks+1 }→wpAny (model X.prog X.w) X.A (f (.int i t) (.int j u)) Q E s) :
    OpR X f (rI C fun i j=>.int (g i j)):=by
  intro pins s σ H x y v u Q I rx ry h;obtain ⟨i,j,rfl,rfl,hc,q⟩:=h;obtain ⟨t,rfl⟩:=rx;obtain ⟨t',rfl⟩:=ry;exact rule i j t t' s _ _ hc ⟨.int (g i j),H,I.tok _,⟨_,rfl⟩,q⟩
theorem opI0 {f:Value→Value→Sem Value}{g:Int→Int→Int}
    (rule:∀(i j:Int) (t u:Tok) (s:Shared) (Q:Value→Shared→Prop) (E:Value→Shared→Prop),Q (.int (g i j) s.toks) { s with toks:=s.toks+1 }→wpAny (model X.prog X.w) X.A (f (.int i t) (.int j u)) Q E s) :
    OpR X f (rI0 fun i j=>.int (g i j)):=by
  intro pins s σ H x y v u Q I rx ry h;obtain ⟨i,j,rfl,rfl,q⟩:=h;obtain ⟨t,rfl⟩:=rx;obtain ⟨t',rfl⟩:=ry;exact rule i j t t' s _ _ ⟨.int (g i j),H,I.tok _,⟨_,rfl⟩,q⟩
theorem opB0 {f:Value→Value→Sem Value}{g:Int→Int→Bool}
    (rule:∀(i j:Int) (t u:Tok) (s:Shared) (Q:Value→Shared→Prop) (E:Value→Shared→Prop),Q (.bool (g i j)) s→wpAny (model X.prog X.w) X.A (f (.int i t) (.int j u)) Q E s) :
    OpR X f (rI0 fun i j=>.bl (g i j)):=by
  intro pins s σ H x y v u Q I rx ry h;obtain ⟨i,j,rfl,rfl,q⟩:=h;obtain ⟨t,rfl⟩:=rx;obtain ⟨t',rfl⟩:=ry;exact rule i j t t' s _ _ ⟨.bl (g i j),H,I,rfl,q⟩
def CDiv (i j:Int):Prop:=0 < j∧j < 1073741824
def CPow (i j:Int):Prop:=0≤j∧j≤1000000∧i.natAbs < 2 ^ 64
def CMul (i j:Int):Prop:=(-(2 ^ 64) < i∧i < 2 ^ 64)∨(-(2 ^ 64) < j∧j < 2 ^ 64)
theorem CMul.ok {i j:Int}(h:CMul i j):IntMulOk i j:=by
  rcases h with ⟨h1,h2⟩ | ⟨h1,h2⟩
  · exact .of_left (intBits_le_64 h1 h2)
  · exact .of_right (intBits_le_64 h1 h2)
theorem zkh (k:Nat):(0:Int)≤2 ^ k:=by
  rw[two_pow_cast];exact ybr _
theorem zbA:OpR X (binaryOp .Add) (rI0 fun i j=>.int (i+j)):=opI0 fun _ _ _ _ _ _ _ q=>add_int q
theorem zc9:OpR X (binaryOp .Sub) (rI0 fun i j=>.int (i - j)):=opI0 fun _ _ _ _ _ _ _ q=>sub_int q
theorem zcP:OpR X (binaryOp .Mult) (rI CMul fun i j=>.int (i * j)):=opI fun _ _ _ _ _ _ _ hc q=>mul_int q hc.ok
theorem ziN:OpR X (binaryOp .FloorDiv) (rI CDiv fun i j=>.int (i / j)):=opI fun i j _ _ _ _ _ hc q=>by
  have h1:(0:Int) < j:=hc.1;have h2:j < 1073741824:=hc.2;exact floordiv_int (by omega) (by rw[Int.fdiv_eq_ediv_of_nonneg i (by omega)];exact q) (.inl (PyProof.noPylong_small (by omega)))
theorem zfd:OpR X (binaryOp .Mod) (rI (fun _ j=>0 < j) fun i j=>.int (i % j)):=opI fun i j _ _ _ _ _ hc q=>by
  have h1:(0:Int) < j:=hc;exact mod_int' (by omega) (by rw[Int.fmod_eq_emod_of_nonneg i (by omega)];exact q)
theorem zgD:OpR X (binaryOp .Pow) (rI CPow fun i j=>.int (i ^ j.toNat)):=opI fun _ _ _ _ _ _ _ hc q=>pow_int_small hc.1 hc.2.1 hc.2.2 q
theorem zq8:OpR X (binaryOp .RShift) (rI (fun _ j=>0≤j) fun i j=>.int (i / 2 ^ j.toNat)):=opI fun i j _ _ _ _ _ hc q=>
  rshift_int hc (by rw[Int.fdiv_eq_ediv_of_nonneg i (zkh _)];exact q)
theorem zpa:OpR X (binaryOp .BitAnd) (rI0 fun i j=>.int (Builtin.bitAnd i j)):=opI0 fun _ _ _ _ _ _ _ q=>and_int q
theorem zq7:OpR X (binaryOp .BitXor) (rI0 fun i j=>.int (Builtin.bitXor i j)):=opI0 fun _ _ _ _ _ _ _ q=>xor_int q
theorem unI {f:Value→Sem Value}{g:Int→Int}
    (rule:∀(i:Int) (t:Tok) (s:Shared) (Q:Value→Shared→Prop) (E:Value→Shared→Prop),Q (.int (g i) s.toks) { s with toks:=s.toks+1 }→wpAny (model X.prog X.w) X.A (f (.int i t)) Q E s) :
    UnR X f (rU fun i=>.int (g i)):=by
  intro pins s σ H x v Q I rx h;obtain ⟨i,rfl,q⟩:=h;obtain ⟨t,rfl⟩:=rx;exact rule i t s _ _ ⟨.int (g i),H,I.tok _,⟨_,rfl⟩,q⟩
theorem zk9:UnR X (unaryOp .USub) (rU fun i=>.int (-i)):=unI fun _ _ _ _ _ q=>neg_int q
end
def scal:V→V→Bool
  | .non,.non=>true | .non,.int _=>true | .int _,.non=>true | .non,.bl _=>true | .bl _,.non=>true | .non,.str _=>true | .str _,.non=>true
  | .int _,.int _=>true | .bl _,.bl _=>true | .str _,.str _=>true | .byt _,.byt _=>true
  | .int _,.str _=>true | .str _,.int _=>true | .bl _,.str _=>true | .str _,.bl _=>true
  | _,_=>false
def rEq:R2:=fun x y H Q=>scal x y=true∧Q (.bl (decide (x=y))) H
def rNe:R2:=fun x y H Q=>scal x y=true∧Q (.bl (!decide (x=y))) H
theorem zmV {i j:Int}:decide (V.int i=V.int j)=(i == j):=by
  rw[ybS];simp
theorem zpg {i j:Bool}:decide (V.bl i=V.bl j)=(i == j):=by
  rw[ybS];simp
theorem zmU {i j:Str}:decide (V.str i=V.str j)=(i == j):=by
  rw[ybS];simp
theorem zmW {i j:Array UInt8}:decide (V.byt i=V.byt j)=(i.toList == j.toList):=by
  rw[ybS];cases i
  cases j
  simp
section
variable {X:Cx}{a b c:Expr}{ta tb tc:TE}{pos:Pos}
theorem zaN {pins:List (Addr×Obj)}{σ:St}{H:Hp}{s:Shared}{Q:VK}{k k':Bool}(I:Inv X pins σ H s)(q:Q (.bl k) H)(e:k=k'):EP X pins σ Q (.bool k') s:=by
  subst e;exact ⟨.bl k,H,I,rfl,q⟩
theorem zgq:OpR X (compareOp .Eq) rEq:=by
  intro pins s σ H x y v u Q I rx ry h;obtain ⟨hs,q⟩:=h;cases x with
  | non=>
    cases rx
    cases y with
    | non=>cases ry;exact PySem.EqNone.eq_none_none (zaN I q (by simp))
    | bl j=>cases ry;exact PySem.EqNone.eq_none_bool (zaN I q (by simp))
    | int j=>obtain ⟨t',rfl⟩:=ry;exact PySem.EqNone.eq_none_int (zaN I q (by simp))
    | str j=>obtain ⟨t',rfl⟩:=ry;exact PySem.EqNone.eq_none_str (zaN I q (by simp))
    | _=>exact absurd (show false=true from hs) yay
  | bl i=>
    cases rx
    cases y with
    | non=>cases ry;exact PySem.EqNone.eq_bool_none (zaN I q (by simp))
    | bl j=>cases ry;exact eq_bool (zaN I q zpg)
    | str j=>obtain ⟨t',rfl⟩:=ry;exact PySem.EqMixed.eq_bool_str (zaN I q (by simp))
    | _=>exact absurd (show false=true from hs) yay
  | int i=>
    obtain ⟨t,rfl⟩:=rx;cases y with
    | non=>cases ry;exact PySem.EqNone.eq_int_none (zaN I q (by simp))
    | int j=>obtain ⟨t',rfl⟩:=ry;exact eq_int (zaN I q zmV)
    | str j=>obtain ⟨t',rfl⟩:=ry;exact PySem.EqMixed.eq_int_str (zaN I q (by simp))
    | _=>exact absurd (show false=true from hs) yay
  | str i=>
    obtain ⟨t,rfl⟩:=rx;cases y with
    | non=>cases ry;exact PySem.EqNone.eq_str_none (zaN I q (by simp))
    | bl j=>cases ry;exact PySem.EqMixed.eq_str_bool (zaN I q (by simp))
    | int j=>obtain ⟨t',rfl⟩:=ry;exact PySem.EqMixed.eq_str_int (zaN I q (by simp))
    | str j=>obtain ⟨t',rfl⟩:=ry;exact eq_str (zaN I q zmU)
    | _=>exact absurd (show false=true from hs) yay
  | byt i=>
    obtain ⟨t,rfl⟩:=rx;cases y with
    | byt j=>obtain ⟨t',rfl⟩:=ry;exact PySem.W.eq_bytes (zaN I q zmW)
    | _=>exact absurd (show false=true from hs) yay
  | _=>cases y <;> exact absurd (show false=true from hs) yay
theorem zq9:OpR X (compareOp .NotEq) rNe:=by
  intro pins s σ H x y v u Q I rx ry h;obtain ⟨hs,q⟩:=h;cases x with
  | non=>
    cases rx
    cases y with
    | non=>cases ry;exact PySem.EqNone.ne_none_none (zaN I q (by simp))
    | bl j=>cases ry;exact PySem.EqNone.ne_none_bool (zaN I q (by simp))
    | int j=>obtain ⟨t',rfl⟩:=ry;exact PySem.EqNone.ne_none_int (zaN I q (by simp))
    | str j=>obtain ⟨t',rfl⟩:=ry;exact PySem.EqNone.ne_none_str (zaN I q (by simp))
    | _=>exact absurd (show false=true from hs) yay
  | bl i=>
    cases rx
    cases y with
    | non=>cases ry;exact PySem.EqNone.ne_bool_none (zaN I q (by simp))
    | bl j=>cases ry;exact ne_bool (zaN I q (congrArg not zpg))
    | str j=>obtain ⟨t',rfl⟩:=ry;exact PySem.EqMixed.ne_bool_str (zaN I q (by simp))
    | _=>exact absurd (show false=true from hs) yay
  | int i=>
    obtain ⟨t,rfl⟩:=rx;cases y with
    | non=>cases ry;exact PySem.EqNone.ne_int_none (zaN I q (by simp))
    | int j=>obtain ⟨t',rfl⟩:=ry;exact ne_int (zaN I q (congrArg not zmV))
    | str j=>obtain ⟨t',rfl⟩:=ry;exact PySem.EqMixed.ne_int_str (zaN I q (by simp))
    | _=>exact absurd (show false=true from hs) yay
  | str i=>
    obtain ⟨t,rfl⟩:=rx;cases y with
    | non=>cases ry;exact PySem.EqNone.ne_str_none (zaN I q (by simp))
    | bl j=>cases ry;exact PySem.EqMixed.ne_str_bool (zaN I q (by simp))
    | int j=>obtain ⟨t',rfl⟩:=ry;exact PySem.EqMixed.ne_str_int (zaN I q (by simp))
    | str j=>obtain ⟨t',rfl⟩:=ry;exact ne_str (zaN I q (congrArg not zmU))
    | _=>exact absurd (show false=true from hs) yay
  | byt i=>
    obtain ⟨t,rfl⟩:=rx;cases y with
    | byt j=>obtain ⟨t',rfl⟩:=ry;exact PySem.W.ne_bytes (zaN I q (congrArg not zmW))
    | _=>exact absurd (show false=true from hs) yay
  | _=>cases y <;> exact absurd (show false=true from hs) yay
theorem zh1:OpR X (compareOp .Lt) (rI0 fun i j=>.bl (decide (i < j))):=opB0 fun _ _ _ _ _ _ _ q=>lt_int q
theorem zpK:OpR X (compareOp .LtE) (rI0 fun i j=>.bl (decide (i≤j))):=opB0 fun _ _ _ _ _ _ _ q=>le_int q
theorem zlY:OpR X (compareOp .Gt) (rI0 fun i j=>.bl (decide (j < i))):=opB0 fun _ _ _ _ _ _ _ q=>gt_int q
theorem zpL:OpR X (compareOp .GtE) (rI0 fun i j=>.bl (decide (j≤i))):=opB0 fun _ _ _ _ _ _ _ q=>ge_int q
theorem zra:OpR X (compareOp .Is) (fun x y H Q=>y=.non∧Q (.bl (decide (x=.non))) H):=by
  intro pins s σ H x y v u Q I rx ry h;obtain ⟨rfl,q⟩:=h;cases ry
  refine is_none_gen (zaN I q ?_);cases x <;> first
    | (cases rx;rfl)
    | (obtain ⟨t,rfl⟩:=rx;rfl)
theorem zlV:OpR X (compareOp .IsNot) (fun x y H Q=>y=.non∧Q (.bl (!decide (x=.non))) H):=by
  intro pins s σ H x y v u Q I rx ry h;obtain ⟨rfl,q⟩:=h;cases ry
  refine isnot_none_gen (zaN I q ?_);cases x <;> first
    | (cases rx;rfl)
    | (obtain ⟨t,rfl⟩:=rx;rfl)
theorem zaF (b:Expr){op:CmpOp}(h:op≠.In:=by decide)(h2:op≠.NotIn:=by decide):behindInMarks op b=false:=by
  have e1:(op == CmpOp.In)=false:=by cases op <;> first | rfl | exact absurd rfl h
  have e2:(op == CmpOp.NotIn)=false:=by cases op <;> first | rfl | exact absurd rfl h2
  cases b <;> simp[behindInMarks,e1,e2]
theorem zd6 {op:CmpOp}{r:R2}(ho:OpR X (compareOp op) r)(ha:PE X a ta)(hb:PE X b tb)(hm:behindInMarks op b=false):PE X (.Compare a [op] [b] pos) (tOp r ta tb):=by
  intro pins s σ H Q I h;exact wpAny_Compare1 (binT ha hb I h fun v u s2 x y H2 I2 rx ry q=>ho pins s2 σ H2 x y v u Q I2 rx ry q) hm
def zqB (t:TE):TT:=fun σ H Q=>t σ H fun x H'=>∃ k,x=.bl k∧Q k H'
theorem zaw {op:CmpOp}{r:R2}(ho:OpR X (compareOp op) r)(ha:PE X a ta)(hb:PE X b tb)(hm:behindInMarks op b=false):PT X (.Compare a [op] [b] pos) (zqB (tOp r ta tb)):=by
  intro pins s σ H Q I h;refine wpAny_isTrue_Compare1 (thn (ha pins s σ H _ I h) fun v s1 ⟨x,H1,I1,r1,q1⟩=>thn (hb pins s1 σ H1 _ I1 q1) fun u s2 ⟨y,H2,I2,r2,q2⟩=>
    thn (ho pins s2 σ H2 x y v u _ I2 r1 r2 q2) fun c s3 ⟨z,H3,I3,r3,k,e,q3⟩=>?_) hm
  subst e;cases r3
  exact wpAny_truthy_bool ⟨H3,I3,q3⟩
def zoX (r r':R2)(ta tb tc:TE):TE:=fun σ H Q=>ta σ H fun x H1=>tb σ H1 fun y H2=>r x y H2 fun z H3=>∃ k,z=.bl k∧
  (if k=true then tc σ H3 fun w' H4=>r' y w' H4 Q else Q (.bl false) H3)
theorem znO {op op':CmpOp}{r r':R2}(ho:OpR X (compareOp op) r)(ho':OpR X (compareOp op') r')(ha:PE X a ta)(hb:PE X b tb)(hc:PE X c tc)
    (hm:lastMarks [op,op'] [b,c]=false:=by with_unfolding_all rfl):PE X (.Compare a [op,op'] [b,c] pos) (zoX r r' ta tb tc):=by
  intro pins s σ H Q I h;refine Compare_chain (thn (ha pins s σ H _ I h) fun v s1 ⟨x,H1,I1,r1,q1⟩=>chain_link (thn (hb pins s1 σ H1 _ I1 q1) fun u s2 ⟨y,H2,I2,r2,q2⟩=>
    thn (ho pins s2 σ H2 x y v u _ I2 r1 r2 q2) fun d s3 ⟨z,H3,I3,r3,k,e,q3⟩=>?_)) hm
  subst e;cases r3
  refine wpAny_truthy_bool ?_;cases k with
  | false=>exact ite_ff ⟨.bl false,H3,I3,rfl,q3⟩
  | true=>exact ite_tt (chain_last (thn (hc pins s3 σ H3 _ I3 q3) fun w' s4 ⟨z',H4,I4,r4,q4⟩=>ho' pins s4 σ H4 y z' u w' Q I4 r2 r4 q4))
theorem znJ {op op':CmpOp}{r r':R2}(ho:OpR X (compareOp op) r)(ho':OpR X (compareOp op') r')(ha:PE X a ta)(hb:PE X b tb)(hc:PE X c tc)
    (hm:lastMarks [op,op'] [b,c]=false:=by with_unfolding_all rfl):PT X (.Compare a [op,op'] [b,c] pos) (zqB (zoX r r' ta tb tc)):=by
  intro pins s σ H Q I h;refine isTrue_chain (thn (ha pins s σ H _ I h) fun v s1 ⟨x,H1,I1,r1,q1⟩=>test_link (thn (hb pins s1 σ H1 _ I1 q1) fun u s2 ⟨y,H2,I2,r2,q2⟩=>
    thn (ho pins s2 σ H2 x y v u _ I2 r1 r2 q2) fun d s3 ⟨z,H3,I3,r3,k,e,q3⟩=>?_)) hm
  subst e;cases r3
  refine wpAny_truthy_bool ?_;cases k with
  | false=>
    obtain ⟨k',e',q'⟩:=q3;cases e'
    exact ite_ff ⟨H3,I3,q'⟩
  | true=>
    refine ite_tt (test_last (thn (hc pins s3 σ H3 _ I3 q3) fun w' s4 zq0=>?_));obtain ⟨z',H4,I4,r4,q4⟩:=zq0;refine thn (ho' pins s4 σ H4 y z' u w' _ I4 r2 r4 q4) fun d' s5 zq1=>?_;obtain ⟨z2,H5,I5,r5,k2,e2,q5⟩:=zq1;subst e2;cases r5
    exact wpAny_truthy_bool ⟨H5,I5,q5⟩
theorem zjX:(sizeLine:Nat) < 2 ^ 63:=by rw[sizeLine_eq];decide
theorem zfm {x:V}{us:List Value}(r:Vals [x] us):∃ u,us=[u]∧RelV x u:=by
  cases r with
  | cons r1 r2=>cases r2;exact ⟨_,rfl,r1⟩
theorem zgo {x y:V}{us:List Value}(r:Vals [x,y] us):∃ u w',us=[u,w']∧RelV x u∧RelV y w':=by
  cases r with
  | cons r1 r2=>
    cases r2 with
    | cons r3 r4=>cases r4;exact ⟨_,_,rfl,r1,r3⟩
theorem zhB:zb1 X (.builtin "abs") (fun xs H Q=>∃ i,xs=[.int i]∧Q (.int (if i < 0 then -i else i)) H):=by
  intro pins s σ H xs us Q I r h;obtain ⟨i,rfl,q⟩:=h;obtain ⟨u,rfl,t,rfl⟩:=zfm r;exact call_abs_int fun u tk=>⟨.int (if i < 0 then -i else i),H,I.tok _,⟨_,rfl⟩,q⟩
theorem zik (hc:X.calm=true):zb1 X (.builtin "max") (fun xs H Q=>∃ i j,xs=[.int i,.int j]∧Q (.int (if j > i then j else i)) H):=by
  intro pins s σ H xs us Q I r h;obtain ⟨i,j,rfl,q⟩:=h;obtain ⟨u,w',rfl,⟨t,rfl⟩,⟨t',rfl⟩⟩:=zgo r;refine max_two_ints (I.ok.hd hc) fun h' tk k=>⟨_,H,I.kept k,?_,q⟩;by_cases hj:j > i
  · rw[if_pos hj,if_pos hj];exact ⟨_,rfl⟩
  · rw[if_neg hj,if_neg hj];exact ⟨_,rfl⟩
end
end L2
namespace L2
open PySem PySem.Spec PyProof.Rows
structure ObjM (h:Heap)(x dx C:Addr)(mA:Str→Option Value):Prop where
  obj:h.get? x=some (PySem.W.instObj C dx)
  ns:h.Ns1 dx mA
  ne:dx≠x
theorem zmm {h:Heap}{dx:Addr}{mA:Str→Option Value}(n:h.Ns1 dx mA):∃ od,h.get? dx=some od∧∀ name,PySem.W.lookIn name od=some (mA name):=by
  obtain ⟨o,es,ep,ho,hd,hk,_,hm⟩:=n;refine ⟨o,ho,fun name=>?_⟩;have e:=hm name;unfold nsFind findBy at e;rw[← Array.find?_toList]at e;unfold PySem.W.lookIn;rw[hd];dsimp only;split
  · rename_i y q
    rw[q]at e;exact congrArg some e
  · rename_i q
    rw[q]at e;have a:es.toList.any (·.refKey)=false:=by
      rw[List.any_eq_false];intro y hy;obtain ⟨z,t,hkey⟩:=hk y (Array.mem_toList_iff.mp hy);simp[DictEntry.refKey,hkey]
    have a':¬ es.toList.any (·.refKey)=true:=by rw[a];exact yay
    rw[if_neg a'];exact congrArg some e
theorem ObjM.look {h:Heap}{x dx C:Addr}{mA:Str→Option Value}(I:ObjM h x dx C mA):∃ od,PySem.W.InstAt h x (PySem.W.instObj C dx) C (some od)∧∀ name,PySem.W.lookIn name od=some (mA name):=
  let ⟨od,ho,hl⟩:=zmm I.ns
  ⟨od,⟨I.obj,rfl,rfl,ho⟩,hl⟩
section
variable {prog:Program}{w:World}{A:Around}{E:Value→Shared→Prop}{s:Shared}{K:Frag}{x dx C f:Addr}{mA:Str→Option Value}{name:Str}{v:Value}
theorem zqf {expr:Bool}{Q:Value→Shared→Prop}(X:K.In s.heap)(I:ObjM s.heap x dx C mA)(hg:PySem.W.plainGet K C name=true)(hh:PySem.W.hasDictIn K C=true)
    (ha:findIn K (.ref C) name=some none) (hv:mA name=some v) (hv':PySem.W.handedIn v=true) (h:Q v { s with toks:=s.toks+1 }) :
    wpAny (model prog w) A (getAttr (.ref x) name expr) Q E s:=by
  obtain ⟨od,J,hl⟩:=I.look;exact PySem.W.get_value X J (PySem.W.plainGet_of hg).1 (PySem.W.findObj_own hh ha rfl (by rw[hl,hv])) hv' h
theorem zor {pl:Sem Bool}{Q:Value×List Value→Shared→Prop}(X:K.In s.heap)(I:ObjM s.heap x dx C mA)(hg:PySem.W.plainGet K C name=true)
    (hf:findIn K (.ref C) name=some (some (.ref f))) (ht:PySem.W.isFn K (.ref f)=true) (hv:mA name=none) (h:Q (.ref f,[.ref x]) s) :
    wpAny (model prog w) A (getMethod (.ref x) name pl) Q E s:=by
  obtain ⟨od,J,hl⟩:=I.look;exact PySem.W.method_fn X J (PySem.W.plainGet_of hg).1 (PySem.W.plainGet_of hg).2 hf (beq_iff_eq.mp ht) (by show (PySem.W.lookIn name od).map (·.isSome)=some false;rw[hl,hv];rfl) h
theorem zpu {ns:List Str}{Q:Unit→Shared→Prop}(X:K.In s.heap)(I:ObjM s.heap x dx C mA)
    (hs:findIn K (.ref C) "__setattr__" = some (some (.builtin "object.__setattr__"))) (hp:PySem.W.plainOver K C=true) (ht:PySem.W.takerIn K C name=some none) (hh:PySem.W.hasDictIn K C=true)
    (hw:PySem.Within mA ns) (hsz:ns.length≤sizeLine)
    (h:∀ h',ObjM h' x dx C (fun y=>if y=name then some v else mA y)→Heap.SameBut dx s.heap h'→Q () { s with heap:=h',toks:=s.toks+2 }) :
    wpAny (model prog w) A (setAttr (.ref x) name v) Q E s:=by
  obtain ⟨od,J,hl⟩:=I.look;refine PySem.W.set_plain X J hs (PySem.W.osa_open (s:={ s with toks:=s.toks+1 }) (r:=none) X J hp ht fun b=>?_);obtain ⟨cd,hc,hd'⟩:=PySem.W.any_some hh;have hx:s.heap.get? x=some ⟨.ref C,some dx,.plain,#[]⟩:=I.obj;refine wpAny_bind (wpAny_pure (wpAny_bind (wpAny_bind (wpAny_loadPart hx (wpAny_bind (PySem.W.Looks.here (s:={ s with toks:=s.toks+1 }) (PySem.W.looks_clsIn X hc) ?_))))));rw[hd'];refine wpAny_pure (a:=some dx) (wpAny_bind (wpAny_pure (wpAny_bind ?_)));refine wpAny_nsSet1 (s:={ s with toks:=s.toks+1 }) I.ns fun h' hn2 hs2=>?_;obtain ⟨oD,esD,epD,hoD,hdD,hcD⟩:=hn2.count (PySem.Within.cons name v hw);refine wpAny_bind (wpAny_lookBehind hoD (by rw[hdD];exact pastItsLine_dict (yaw hcD (by rw[yaI];omega))) ?_);exact wpAny_pure (h _ ⟨(hs2.2 _ (Ne.symm I.ne)).trans I.obj,hn2,I.ne⟩ hs2)
theorem zoe {R:Result→Shared→Prop}{vs:List Value}{kw:List (Str×Value)}(X:K.In s.heap)(hm:PySem.W.makesIn K C=true)
    (hi:findIn K (.ref C) "__init__" = some (some (.ref f))) (hf:PySem.W.typeIn K (.ref f)=some (.type "function"))
    (h:codeAny (model prog w) (A.under (.builtin "type.__call__" ⟨.ref C::vs,kw⟩)) (.call (.ref f) ⟨.ref (s.heap.objs.size+1)::vs,kw⟩) (PySem.W.InitBack (s.heap.objs.size+1) R)
      { s with heap:=(s.heap.push PySem.W.emptyDict).push (PySem.W.instObj C s.heap.objs.size) }) :
    codeAny (model prog w) A (.call (.ref C) ⟨vs,kw⟩) R s:=by
  obtain ⟨hh,g,d,t,os⟩:=s;exact PySem.W.make_core (PySem.W.makes_of X hm) (PySem.W.looks_findIn X hi) (fun self=>PySem.W.bind_fn X self hf) (.inl rfl) h
end
def putF (f:Str)(v:V):List (Str×V)→List (Str×V)
  | []=>[(f,v)]
  | (g,x)::r=>if g=f then (g,v)::r else (g,x)::putF f v r
theorem zf1 (f g:Str)(v:V):∀ fs:List (Str×V),(putF f v fs).lookup g=if g=f then some v else fs.lookup g
  | []=>by
    show List.lookup g [(f,v)]=_;by_cases h:g=f
    · have hb:(g == f)=true:=beq_iff_eq.mpr h
      simp only[List.lookup,hb,if_pos h]
    · have hb:(g == f)=false:=beq_eq_false_iff_ne.mpr h
      simp only[List.lookup,hb,if_neg h]
  | (k,x)::r=>by
    have ih:=zf1 f g v r;rw[show putF f v ((k,x)::r)=(if k=f then (k,v)::r else (k,x)::putF f v r) from rfl]
    by_cases hk:k=f
    · rw[if_pos hk]
      by_cases h:g=k
      · have hb:(g == k)=true:=beq_iff_eq.mpr h
        simp only[List.lookup,hb,if_pos (h.trans hk)]
      · have hb:(g == k)=false:=beq_eq_false_iff_ne.mpr h
        simp only[List.lookup,hb,if_neg (fun e:g=f=>h (e.trans hk.symm))]
    · rw[if_neg hk]
      by_cases h:g=k
      · have hb:(g == k)=true:=beq_iff_eq.mpr h
        simp only[List.lookup,hb,if_neg (fun e:g=f=>hk (h.symm.trans e))]
      · have hb:(g == k)=false:=beq_eq_false_iff_ne.mpr h
        simp only[List.lookup,hb];exact ih
theorem zf4 (f:Str)(v:V):∀ fs:List (Str×V),f∈(putF f v fs).map (·.1)∧∀ g,g∈fs.map (·.1)→g∈(putF f v fs).map (·.1)
  | []=>⟨by simp[putF],fun g h=>by simp at h⟩
  | (k,x)::r=>by
    obtain ⟨i1,i2⟩:=zf4 f v r;rw[show putF f v ((k,x)::r)=(if k=f then (k,v)::r else (k,x)::putF f v r) from rfl]
    by_cases hk:k=f
    · rw[if_pos hk]
      subst hk;exact ⟨by simp,fun g h=>by simpa using h⟩
    · rw[if_neg hk]
      refine ⟨?_,fun g h=>?_⟩
      · rw[yar]
        exact yaA _ i1
      · rw[yar]at h ⊢
        rcases yak.mp h with e | e
        · exact yak.mpr (.inl e)
        · exact yaA _ (i2 g e)
theorem zf3 (f:Str)(v:V):∀ fs:List (Str×V),(putF f v fs).length≤fs.length+1
  | []=>by simp[putF]
  | (k,x)::r=>by
    have ih:=zf3 f v r;rw[show putF f v ((k,x)::r)=(if k=f then (k,v)::r else (k,x)::putF f v r) from rfl]
    by_cases hk:k=f
    · rw[if_pos hk,yaI,yaI];omega
    · rw[if_neg hk,yaI,yaI];omega
theorem RelO.some_of {v:V}{o:Option Value}(r:RelO (some v) o):∃ u,o=some u∧RelV v u:=by
  cases o with
  | none=>exact (show False from r).elim
  | some u=>exact ⟨u,rfl,r⟩
theorem RelO.none_of {o:Option Value}(r:RelO none o):o=none:=by
  cases o with
  | none=>rfl
  | some u=>exact (show False from r).elim
theorem zmJ {v:V}{u:Value}(r:RelV v u):PySem.W.handedIn u=true:=by
  cases v with
  | non=>cases (show u=Value.none from r);rfl
  | bl b=>cases (show u=Value.bool b from r);rfl
  | int i=>obtain ⟨t,e⟩:=(show ∃ t,u=Value.int i t from r);cases e;rfl
  | str x=>obtain ⟨t,e⟩:=(show ∃ t,u=Value.str x t from r);cases e;rfl
  | byt b=>obtain ⟨t,e⟩:=(show ∃ t,u=Value.bytes b t from r);cases e;rfl
  | flt b=>obtain ⟨t,e⟩:=(show ∃ t,u=Value.float b t from r);cases e;rfl
  | ref a=>cases (show u=Value.ref a from r);rfl
  | ty n=>cases (show u=Value.type n from r);rfl
section
variable {P:Program}{w:World}{H H':Hp}{h h':Heap}{a C dx:Addr}{fs fs':List (Str×V)}
theorem zhu (hok:HOk P w H h)(e:H a=some (.ins C dx fs)):∃ mA,ObjM h a dx C mA∧(∀ f,RelO (fs.lookup f) (mA f))∧PySem.Within mA (fs.map (·.1))∧fs.length≤1000∧H dx=some (.own a):=by
  obtain ⟨d,z,ne,ob,mA,n,r,q⟩:=(show zbl P w H h a (.ins C dx fs) from hok a _ e);exact ⟨mA,⟨ob,n,ne⟩,r,q,z,d⟩
end
structure Cls (K:Frag)(C:Addr):Prop where
  pg:PySem.W.plainGet K C Str.empty=true
  hd:PySem.W.hasDictIn K C=true
  po:PySem.W.plainOver K C=true
  sa:findIn K (.ref C) "__setattr__" = some (some (.builtin "object.__setattr__"))
theorem Cls.get {K:Frag}{C:Addr}(c:Cls K C)(f:Str):PySem.W.plainGet K C f=true:=c.pg
def zfl (K:Frag)(C:Addr)(f:Str):Prop:=findIn K (.ref C) f=some none
theorem zfl.taker {K:Frag}{C:Addr}{f:Str}(n:zfl K C f):PySem.W.takerIn K C f=some none:=by
  unfold PySem.W.takerIn;rw[show findIn K (.ref C) f=some none from n];rfl
structure Meth (K:Frag)(C:Addr)(m:Str)(f:Addr):Prop where
  at_:findIn K (.ref C) m=some (some (.ref f))
  fn:PySem.W.isFn K (.ref f)=true
  kp:keepIn K (.ref f)=true
section
variable {X:Cx}{pins:List (Addr×Obj)}{σ:St}{H:Hp}{s:Shared}{a C dx:Addr}{fs:List (Str×V)}{f:Str}{v:V}{A:Around}{E:Value→Shared→Prop}
theorem zkH {b:Bool}{Q:Value→Shared→Prop}(I:Inv X pins σ H s)(e:H a=some (.ins C dx fs))(c:Cls X.K C)(n:zfl X.K C f)(l:fs.lookup f=some v)
    (h:∀ u s',Inv X pins σ H s'→RelV v u→Q u s'):wpAny (model X.prog X.w) A (getAttr (.ref a) f b) Q E s:=by
  obtain ⟨mA,O,r,_,_,_⟩:=zhu I.hok e;obtain ⟨u,hu,ru⟩:=RelO.some_of (v:=v) (o:=mA f) (by rw[← l];exact r f);exact zqf I.kIn O (c.get f) c.hd n hu (zmJ ru) (h u _ (I.tok _) ru)
theorem zgH {m:Str}{g:Addr}{pl:Sem Bool}{Q:Value×List Value→Shared→Prop}(I:Inv X pins σ H s)(e:H a=some (.ins C dx fs))(c:Cls X.K C)(k:Meth X.K C m g)(l:fs.lookup m=none)
    (h:Q (.ref g,[.ref a]) s):wpAny (model X.prog X.w) A (getMethod (.ref a) m pl) Q E s:=by
  obtain ⟨mA,O,r,_,_,_⟩:=zhu I.hok e;have hn:mA m=none:=RelO.none_of (by rw[← l];exact r m);exact zor I.kIn O (c.get m) k.at_ k.fn hn h
theorem zkk {y:V}{u:Value}{Q:Unit→Shared→Prop}(I:Inv X pins σ H s)(e:H a=some (.ins C dx fs))(c:Cls X.K C)(n:zfl X.K C f)(hl:fs.length < 1000)(ry:RelV y u)
    (h:∀ s',Inv X pins σ (upd H a (.ins C dx (putF f y fs))) s'→Q () s'):wpAny (model X.prog X.w) A (setAttr (.ref a) f u) Q E s:=by
  obtain ⟨mA,O,r,wi,_,ho⟩:=zhu I.hok e;have hz:(fs.map (·.1)).length≤sizeLine:=by rw[yab,sizeLine_eq];omega
  refine zpu I.kIn O c.sa c.po n.taker c.hd wi hz fun h' O' sb=>h _ ?_;have hd:∃ o,h'.get? dx=some o:=let ⟨o,_,_,e',_⟩:=O'.ns;⟨o,e'⟩;refine I.write (x:=a) (e:=dx) (by rw[e];exact True.intro) (.inr ho) (fun b q hb z=>(sb.2 b hb).trans z) hd ?_;refine ⟨by rw[zaf O.ne];exact ho,?_,O.ne,O'.obj,_,O'.ns,fun g=>?_,fun g hg=>?_⟩
  · have:=zf3 f y fs;omega
  · show RelO ((putF f y fs).lookup g) (if g=f then some u else mA g)
    rw[zf1];by_cases q:g=f
    · rw[if_pos q,if_pos q];exact ry
    · rw[if_neg q,if_neg q];exact r g
  · by_cases q:g=f
    · rw[q];exact (zf4 f y fs).1
    · refine (zf4 f y fs).2 g (wi g fun z=>hg ?_)
      show (if g=f then some u else mA g)=none
      rw[if_neg q];exact z
theorem Inv.made (I:Inv X pins σ H s):Inv X pins σ (upd (upd H s.heap.objs.size (.own (s.heap.objs.size+1))) (s.heap.objs.size+1) (.ins C s.heap.objs.size []))
    { s with heap:=(s.heap.push PySem.W.emptyDict).push (PySem.W.instObj C s.heap.objs.size) }:=by
  have e1:(s.heap.push PySem.W.emptyDict).get? s.heap.objs.size=some PySem.W.emptyDict:=yaB s.heap rfl;have e2:((s.heap.push PySem.W.emptyDict).push (PySem.W.instObj C s.heap.objs.size)).get? (s.heap.objs.size+1)=some (PySem.W.instObj C s.heap.objs.size):=by
    have:=yaB (s.heap.push PySem.W.emptyDict) (o:=PySem.W.instObj C s.heap.objs.size) rfl;rwa[yb3]at this
  have e3:(s.heap.push PySem.W.emptyDict).Ns s.heap.objs.size (fun _=>none):=⟨PySem.W.emptyDict,#[],_,e1,rfl,(fun e he=>absurd he (by simp)),fun _=>rfl⟩;have I1:=I.laid (a:=s.heap.objs.size) (o:=.own (s.heap.objs.size+1)) (h':=s.heap.push PySem.W.emptyDict) (t':=s.toks) (fun b u q=>yal _ q) (yaa _) ⟨_,e1⟩;refine I1.laid (a:=s.heap.objs.size+1) (o:=.ins C s.heap.objs.size []) (t':=s.toks) (fun b u q=>yal _ q) (Nat.le_of_eq (yb3 _ _)) ?_;have ne:s.heap.objs.size≠s.heap.objs.size+1:=yas (yb4 _);refine ⟨by rw[zaf ne,zab],yaF _,ne,e2,fun _=>none,(Heap.Ns1.of_empty e3).at fun o q=>yal _ q,fun _=>True.intro,fun y hy=>absurd rfl hy⟩
theorem zqp {prog:Program}{w:World}{env:Env}{e:Expr}{f:Str}{pos:Pos}{s:Shared}{Q:Value→Shared→Prop}(hb:attributeBase e f env (eval e env)=eval e env)
    (h:wpAny (model prog w) A (eval e env) (fun o s₁=>wpAny (model prog w) A (getAttr o f true) Q E s₁) E s):wpAny (model prog w) A (eval (.Attribute e f pos) env) Q E s:=
  Attribute_any_ h (by rw[arm_eval_Attribute,hb])
end
def tFld (K:Frag)(ta:TE)(f:Str):TE:=fun σ H Q=>ta σ H fun x H1=>∃ a C dx fs v,x=.ref a∧H1 a=some (.ins C dx fs)∧Cls K C∧zfl K C f∧fs.lookup f=some v∧Q v H1
def sFld (K:Frag)(ta tv:TE)(f:Str):TS:=fun D σ H=>tv σ H fun y H1=>ta σ H1 fun x H2=>∃ a C dx fs,x=.ref a∧H2 a=some (.ins C dx fs)∧Cls K C∧zfl K C f∧fs.length < 1000∧
  D.nx σ (upd H2 a (.ins C dx (putF f y fs)))
section
variable {X:Cx}{o e value:Expr}{f:Str}{pos pos' tpos:Pos}{ta tv:TE}
theorem zcO (he:PE X e ta)(hb:attributeBase e f X.env (eval e X.env)=eval e X.env):PE X (.Attribute e f pos) (tFld X.K ta f):=by
  intro pins s σ H Q I h;refine zqp hb (thn (he pins s σ H _ I h) fun u s1 zq0=>?_);obtain ⟨x,H1,I1,rx,a,C,dx,fs,v,ex,ea,c,n,l,q⟩:=zq0;subst ex;obtain rfl:u=Value.ref a:=rx;exact zkH I1 ea c n l fun u' s2 I2 ru=>⟨v,H1,I2,ru,q⟩
theorem zjL (ha:PE X o ta)(hv:PE X value tv)(hs:swapsWith value (some (.Attribute o f pos')) pos.line X.env=pure false):PS X (.Assign [.Attribute o f pos'] value pos) (sFld X.K ta tv f):=by
  intro pins s σ H D I h;refine plainObj_wpAny_Assign_Attribute (thn (hv pins s σ H _ I h) fun u s1 zq0=>?_) hs;obtain ⟨y,H1,I1,ry,q⟩:=zq0;refine thn (ha pins s1 σ H1 _ I1 q) fun ov s2 zq1=>?_;obtain ⟨x,H2,I2,rx,a,C,dx,fs,ex,ea,c,n,l,q2⟩:=zq1;subst ex;obtain rfl:ov=Value.ref a:=rx;exact zkk I2 ea c n l ry fun s3 I3=>⟨σ,_,I3,q2⟩
end
section
variable {X:Cx}{pins:List (Addr×Obj)}{σ:St}{H:Hp}{s:Shared}{A:Around}{E:Value→Shared→Prop}{Q:Value→Shared→Prop}{c:Value}{b:Bool}
inductive TyOf (K:Frag)(H:Hp):V→Value→Prop where
  | non:TyOf K H .non (.type "NoneType")
  | bl (x:Bool):TyOf K H (.bl x) (.type "bool")
  | int (i:Int):TyOf K H (.int i) (.type "int")
  | str (x:Str):TyOf K H (.str x) (.type "str")
  | flt (x:UInt64):TyOf K H (.flt x) (.type "float")
  | lst {a:Addr} {xs:List V} (e:H a=some (.lst xs)):TyOf K H (.ref a) (.type "list")
  | frz {a:Addr} {o:Obj} {xs:List V} (e:H a=some (.frz o (.lst xs))):TyOf K H (.ref a) (.type "list")
  | tup {a:Addr} {xs:List V} (e:H a=some (.tup xs)):TyOf K H (.ref a) (.type "tuple")
  | dK {a:Addr} {kvs:List (Key×V)} (e:H a=some (.dK kvs)):TyOf K H (.ref a) (.type "dict")
  | dT {a:Addr} {kvs:List (List Key×V)} (e:H a=some (.dT kvs)):TyOf K H (.ref a) (.type "dict")
  | ins {a C dx:Addr} {fs:List (Str×V)} (e:H a=some (.ins C dx fs)) (cl:Cls K C) (ha:findIn K (.ref C) "__class__" = some (some (.builtin "object.__class__")))
      (hn:PySem.W.specialIn K (.builtin "object.__class__") "__get__" = some (some (.builtin "getset_descriptor.__get__"))) (htk:PySem.W.takesIn K (.builtin "object.__class__")=some true)
      (hm:mroIn K C (.type "object")=some true):TyOf K H (.ref a) (.ref C)
theorem zmA {x:V}{u t:Value}(I:Inv X pins σ H s)(rx:RelV x u)(ty:TyOf X.K H x t)(e:kitOne X.K t c=some b)(h:∀ tk,Q (.bool b) { s with toks:=tk }) :
    wpAny (model X.prog X.w) A (call (.builtin "isinstance") [u,c]) Q E s:=by
  cases ty with
  | non=>cases (show u=Value.none from rx);exact PySem.W.kia_one PySem.W.kitx_none I.kIn True.intro e (fun z=>nomatch z) h
  | bl y=>cases (show u=Value.bool y from rx);exact PySem.W.kia_one PySem.W.kitx_bool I.kIn True.intro e (fun z=>nomatch z) h
  | int i=>obtain ⟨t,q⟩:=(show ∃ t,u=Value.int i t from rx);cases q;exact PySem.W.kia_one PySem.W.kitx_int I.kIn True.intro e (fun z=>nomatch z) h
  | str y=>obtain ⟨t,q⟩:=(show ∃ t,u=Value.str y t from rx);cases q;exact PySem.W.kia_one PySem.W.kitx_str I.kIn True.intro e (fun z=>nomatch z) h
  | flt y=>obtain ⟨t,q⟩:=(show ∃ t,u=Value.float y t from rx);cases q;exact PySem.W.kia_one PySem.W.kitx_float I.kIn True.intro e (fun z=>nomatch z) h
  | @lst a xs ea=>
    cases (show u=Value.ref a from rx)
    obtain ⟨_,_,n,_,h1⟩:=(show zbl X.prog X.w H s.heap a (.lst xs) from I.hok a _ ea);exact PySem.W.kia_one PySem.W.kitx_list I.kIn ⟨_,h1,rfl⟩ e (fun z=>nomatch z) h
  | @frz a ob xs ea=>
    cases (show u=Value.ref a from rx)
    obtain ⟨_,_,_,n,_,h1⟩:=(show zbl X.prog X.w H s.heap a (.frz ob (.lst xs)) from I.hok a _ ea);exact PySem.W.kia_one PySem.W.kitx_list I.kIn ⟨_,h1,rfl⟩ e (fun z=>nomatch z) h
  | @tup a xs ea=>
    cases (show u=Value.ref a from rx)
    obtain ⟨_,_,_,p⟩:=(show zbl X.prog X.w H s.heap a (.tup xs) from I.hok a _ ea);obtain ⟨o,h1,h2,_⟩:=p;exact PySem.W.kia_one PySem.W.kitx_tuple I.kIn ⟨o,h1,h2⟩ e (fun z=>nomatch z) h
  | @dK a kvs ea=>
    cases (show u=Value.ref a from rx)
    obtain ⟨_,_,vs,_,p⟩:=(show zbl X.prog X.w H s.heap a (.dK kvs) from I.hok a _ ea);obtain ⟨o,es,ep,h1,h2,_⟩:=p;exact PySem.W.kia_one PySem.W.kitx_dict I.kIn ⟨o,h1,h2.1⟩ e (fun z=>nomatch z) h
  | @dT a kvs ea=>
    cases (show u=Value.ref a from rx)
    obtain ⟨_,_,xs,_,o,es,ep,h1,h2,_⟩:=(show zbl X.prog X.w H s.heap a (.dT kvs) from I.hok a _ ea);exact PySem.W.kia_one PySem.W.kitx_dict I.kIn ⟨o,h1,h2.1⟩ e (fun z=>nomatch z) h
  | @ins a C dx fs ea cl ha hn htk hm=>
    cases (show u=Value.ref a from rx)
    obtain ⟨mA,O,_⟩:=zhu I.hok ea;obtain ⟨od,J,_⟩:=O.look;exact PySem.W.kia_one (PySem.W.kitx_own (cl.get _) cl.hd ha hn htk hm) I.kIn J e (fun z=>nomatch z) h
end
end L2
namespace L2
open PySem PySem.Spec PyProof.Rows
structure Room (k:Nat)(A:Around):Prop where
  hd:A.handled=none
  dp:A.depth+3 * k+5 < recursionLimit
  un:A.units+16 * k+200 < cLine
  gd:A.guards=some []
theorem Room.mono {j k:Nat}{A:Around}(r:Room k A)(h:j≤k):Room j A:=⟨r.hd,by have:=r.dp;omega,by have:=r.un;omega,r.gd⟩
theorem Room.deeper {k:Nat}{A:Around}(r:Room (k+1) A)(env:Env):Room k (A.deeper env):=
  ⟨r.hd,by have:=r.dp;show A.depth+1+3 * k+5 < _;omega,by have:=r.un;show A.units+3+16 * k+200 < _;omega,r.gd⟩
theorem zkG {A:Around}{C:Addr}{us:List Value}{kw:List (Str×Value)}:(A.under (.builtin "type.__call__" ⟨.ref C::us,kw⟩)).depth=A.depth+1:=by
  first | rfl | simp[Around.under,Code.weight,Code.isCreation,Code.isGuard,Code.isCaller,Code.frames,Code.isFrame,guardIds]
theorem zkF {A:Around}{C:Addr}{us:List Value}{kw:List (Str×Value)}:(A.under (.builtin "type.__call__" ⟨.ref C::us,kw⟩)).units=A.units+1:=by
  first | rfl | simp[Around.under,Code.cUnits,Code.frames,Code.isFrame]
theorem Room.make {k:Nat}{A:Around}(r:Room (k+1) A)(C:Addr)(us:List Value)(kw:List (Str×Value)):Room k (A.under (.builtin "type.__call__" ⟨.ref C::us,kw⟩)):=
  ⟨r.hd,by have:=r.dp;rw[zkG];omega,by have:=r.un;rw[zkF];omega,by have h:=r.gd;simp[Around.under,Code.guards,Code.isGuard,guardIds,pushGuards,h]⟩
theorem Room.depth {k:Nat}{A:Around}(r:Room k A):A.depth < recursionLimit:=by have:=r.dp;omega
theorem Room.units {k:Nat}{A:Around}(r:Room k A):A.units+64 < cLine:=by have:=r.un;omega
def tNil:TA:=fun _ H Q=>Q [] H
def zr1 (ta:TE)(tr:TA):TA:=fun σ H Q=>ta σ H fun x H1=>tr σ H1 fun xs H2=>Q (x::xs) H2
section
variable {X:Cx}{e:Expr}{es:List Expr}{te:TE}{t:TA}{pos:Pos}
theorem zac:PA X [] tNil:=fun _ _ _ _ H Q I h=>Calls.spliced_nil ⟨[],H,I,.nil,h⟩
theorem zaa (ha:PE X e te)(hr:PA X es t)(hs:starEach (e::es) X.env=(false,eval e X.env)::starEach es X.env:=by rfl):PA X (e::es) (zr1 te t):=by
  intro pos pins s σ H Q I h;rw[hs];show wpAny _ _ (spliced ((false,eval e X.env)::backTo pos (starEach es X.env))) _ _ s;refine Calls.spliced_cons (thn (ha pins s σ H _ I h) fun u s1 zq0=>?_);obtain ⟨x,H1,I1,r1,q1⟩:=zq0;exact thn (hr pos pins s1 σ H1 _ I1 q1) fun us s2 zq0=>(by obtain ⟨xs,H2,I2,r2,q2⟩:=zq0;exact ⟨x::xs,H2,I2,.cons r1 r2,q2⟩)
def tTup (t:TA):TE:=fun σ H Q=>t σ H fun xs H1=>xs.length≤sizeLine∧∀ p,H1 p=none→Q (.ref p) (upd H1 p (.tup xs))
def tLst (t:TA):TE:=fun σ H Q=>t σ H fun xs H1=>xs.length≤sizeLine∧∀ p,H1 p=none→Q (.ref p) (upd H1 p (.lst xs))
theorem zbO {x1}(h:PA X es t):PE X (.Tuple es x1 pos) (tTup t):=by
  intro pins s σ H Q I hq;refine wpAny_Tuple_spliced (thn (h pos pins s σ H _ I hq) fun us s1 zq0=>?_);obtain ⟨xs,H1,I1,r,z,q⟩:=zq0;refine ⟨by rw[← r.length];exact z,?_⟩;have hf:H1 s1.heap.objs.size=none:=I1.hok.fresh (yaa _);refine ⟨.ref s1.heap.objs.size,upd H1 s1.heap.objs.size (.tup xs),I1.laid (t':=s1.toks) (fun b u e=>yal _ e) (yaa _) ?_,rfl,q _ hf⟩;exact ⟨z,us,r,⟨_,yaB _ rfl,rfl,_,rfl⟩⟩
theorem zbP (h:PA X es t):PE X (.List es pos) (tLst t):=by
  intro pins s σ H Q I hq;refine wpAny_List_spliced (thn (h pos pins s σ H _ I hq) fun us s1 zq0=>?_);obtain ⟨xs,H1,I1,r,z,q⟩:=zq0;refine ⟨by rw[← r.length];exact z,?_⟩;have hf:H1 s1.heap.objs.size=none:=I1.hok.fresh (yaa _);refine ⟨.ref s1.heap.objs.size,upd H1 s1.heap.objs.size (.lst xs),I1.laid (t':=s1.toks) (fun b u e=>yal _ e) (yaa _) ?_,rfl,q _ hf⟩;exact ⟨z,us,0,r,yaB _ rfl⟩
end
abbrev Sp:=List V→Hp→VK→XK→Prop
abbrev CXT:=List Env→Hp→Shared→XK→Value→Shared→Prop
structure Env0 (P:Program)(w:World)(K:Frag)(mg:Str→Option Value)(base:Heap)(A:Around)(outer:List Env)(s:Shared)(H:Hp):Prop where
  frames:A.frames=some outer
  mod:Mod K mg base
  bs:∀ b o,base.get? b=some o→s.heap.get? b=some o∧H b=none
  bsz:base.objs.size≤s.heap.objs.size
  funs:s.heap.FunFrames base outer
  frf:∀ b∈frs outer,H b=none
  hok:HOk P w H s.heap
  bare:AllBare s.gens
def CE (outer:List Env)(P:Program)(w:World)(H:Hp)(s:Shared)(Q:VK)(u:Value)(s':Shared):Prop:=
  ∃ v H',s'.os=s.os∧AllBare s'.gens∧Un (frs outer) [] H H' s.heap s'.heap∧HOk P w H' s'.heap∧RelV v u∧Q v H'
def CR (CX:CXT)(outer:List Env)(P:Program)(w:World)(H:Hp)(s:Shared)(Q:VK)(E:XK)(r:Result)(s':Shared):Prop:=
  match r with
  | .ok (.ret u)=>CE outer P w H s Q u s'
  | .ok _=>False
  | .error e=>CX outer H s E e s'
structure FnOk (P:Program)(w:World)(K:Frag)(mg:Str→Option Value)(base:Heap)(CX:CXT)(k:Nat)(f:Addr)(fd:FuncData)(ps:List Str)(sp:Sp):Prop where
  len:∀ vs H Q E,sp vs H Q E→vs.length=ps.length
  run:∀(A:Around) (outer:List Env) (s:Shared) (H:Hp) (args:Args) (us:List Value) (vs:List V) (Q:VK) (E:XK),Room k A→Env0 P w K mg base A outer s H→BindsTo s fd args (ps.zip us)→Vals vs us→sp vs H Q E→
    codeAny (model P w) A (.call (.ref f) args) (CR CX outer P w H s Q E) s
theorem Env0.make {P:Program}{w:World}{K:Frag}{mg:Str→Option Value}{base:Heap}{A:Around}{outer:List Env}{s:Shared}{H:Hp}(e:Env0 P w K mg base A outer s H)(C:Addr)(us:List Value)(kw:List (Str×Value)) :
    Env0 P w K mg base (A.under (.builtin "type.__call__" ⟨.ref C::us,kw⟩)) outer s H:=⟨by first | exact e.frames | (simpa [Around.under,Code.envs,Code.isFrame,pushEnvs] using e.frames),e.mod,e.bs,e.bsz,e.funs,e.frf,e.hok,e.bare⟩
section
variable {X:Cx}{pins:List (Addr×Obj)}{σ:St}{H:Hp}{s s':Shared}
theorem Inv.env0 (I:Inv X pins σ H s):Env0 X.prog X.w X.K X.mg X.base X.A X.stack s H:=
  ⟨I.ok.frames,I.ok.mod,I.bs,yaw I.ok.bsz I.sz,I.stack,I.stkFree,I.hok,I.bare⟩
theorem Inv.after {Q:VK}{u:Value}(I:Inv X pins σ H s)(h:CE X.stack X.prog X.w H s Q u s'):EP X pins σ Q u s':=by
  obtain ⟨v,H',os,bare,un,hok,r,q⟩:=h;obtain ⟨hh,g,d,t,os'⟩:=s';obtain rfl:os'=s.os:=os;exact ⟨v,H',I.call (h':=hh) (g':=g) (d':=d) (t':=t) (ch:=[]) un hok bare (fun b z=>absurd z (by simp)),r,q⟩
end
def zqI (sp:Sp)(dvs:List V)(E:XK)(t:TA):TE:=fun σ H Q=>t σ H fun vs H1=>sp (vs++dvs) H1 Q E
def znv (C:Addr)(m:Str)(sp:Sp)(dvs:List V)(E:XK)(ta:TE)(t:TA):TE:=fun σ H Q=>ta σ H fun x H1=>∃ a dx fs,x=.ref a∧H1 a=some (.ins C dx fs)∧fs.lookup m=none∧
  t σ H1 fun vs H2=>sp (x::(vs++dvs)) H2 Q E
def zqD (C:Addr)(sp:Sp)(dvs:List V)(E:XK)(t:TA):TE:=fun σ H Q=>t σ H fun vs H1=>∀ x dx,H1 x=none→H1 dx=none→dx≠x→
  sp (.ref x::(vs++dvs)) (upd (upd H1 dx (.own x)) x (.ins C dx [])) (fun v H2=>v=.non∧Q (.ref x) H2) E
def zdw (K:Frag)(fd:FuncData)(ps:List Str)(ds:List Value):Prop:=
  ∀(s:Shared) (us:List Value),K.In s.heap→(us++ds).length=ps.length→BindsTo s fd ⟨us,[]⟩ (ps.zip (us++ds))
theorem zdw.all {K:Frag}{fd:FuncData}{ps:List Str}(h:∀ us:List Value,us.length=ps.length→bindArgs fd ⟨us,[]⟩=pure (ps.zip us)):zdw K fd ps []:=fun s us _ hl=>by
  rw[yaJ]at hl ⊢;exact .of_eq (h us hl)
def zgk (CX:CXT)(X:Cx)(E:XK):Prop:=∀(pins:List (Addr×Obj)) (σ:St) (H:Hp) (s:Shared) (e:Value) (s':Shared),Inv X pins σ H s→CX X.stack H s E e s'→X.xe e s'
section
variable {X:Cx}{CX:CXT}{k:Nat}{f C:Addr}{fd:FuncData}{ps:List Str}{sp:Sp}{dvs:List V}{ds:List Value}{E:XK}{x m:Str}{p pos apos:Pos}{e o:Expr}{es:List Expr}{ta:TE}{t:TA}
theorem zjD {pins:List (Addr×Obj)}{σ:St}{H:Hp}{s:Shared}{Q:VK}{us:List Value}{vs:List V}(F:FnOk X.prog X.w X.K X.mg X.base CX k f fd ps sp)(hr:Room k X.A)(hb:zdw X.K fd ps ds)(hd:Vals dvs ds)(hx:zgk CX X E)
    (I:Inv X pins σ H s) (r:Vals vs us) (h:sp (vs++dvs) H Q E):wpAny (model X.prog X.w) X.A (call (.ref f) us) (EP X pins σ Q) X.xe s:=by
  have r2:Vals (vs++dvs) (us++ds):=r.append hd;have hl:(us++ds).length=ps.length:=by rw[← r2.length];exact F.len _ _ _ _ h
  refine wpAny_call (codeAny_mono (F.run X.A X.stack s H ⟨us,[]⟩ (us++ds) (vs++dvs) Q E hr I.env0 (hb s us I.kIn hl) r2 h) fun r s' hq=>?_);cases r with
  | error e=>exact hx pins σ H s e s' I hq
  | ok fl=>
    cases fl with
    | ret u=>exact I.after hq
    | next=>exact False.elim hq
    | brk=>exact False.elim hq
    | cont=>exact False.elim hq
theorem zpJ (F:FnOk X.prog X.w X.K X.mg X.base CX k f fd ps sp)(hr:Room k X.A)(hg:Gl X x)(hm:X.mg x=some (.ref f))(hk:keepIn X.K (.ref f)=true)(hb:zdw X.K fd ps ds)(hd:Vals dvs ds)(hx:zgk CX X E)
    (ha:PA X (e::es) t) (hdb:(x == ("__debug__" : Str))=false:=by decide) (he:starEach (e::es) X.env=(false,eval e X.env)::starEach es X.env:=by rfl) (hpl:(backTo pos (starEach es X.env)).any (·.1)=false:=by rfl) :
    PE X (.Call (.Name x p) (e::es) [] pos) (zqI sp dvs E t):=by
  intro pins s σ H Q I h;refine wpAny_Call_Name_kw (zhr I hg hm ?_ hdb);refine PySem.W.callWith_K (h₀:=X.base) I.ok.mod.kin hk (thn (ha pos pins s σ H _ I h) fun us s1 zq0=>?_) he hpl;obtain ⟨vs,H1,I1,r,q⟩:=zq0;refine ⟨I1.kIn,?_⟩;exact zjD F hr hb hd hx I1 r q
theorem zpE {pl:Sem Bool}(he:PE X o ta)(c:Cls X.K C)(hm:Meth X.K C m f)(F:FnOk X.prog X.w X.K X.mg X.base CX k f fd ps sp)(hr:Room k X.A)(hb:zdw X.K fd ps ds)(hd:Vals dvs ds)(hx:zgk CX X E)(ha:PA X (e::es) t)
    (hst:starEach (e::es) X.env=(false,eval e X.env)::starEach es X.env:=by rfl) (hpl:(backTo pos (starEach es X.env)).any (·.1)=false:=by rfl)
    (ht:eval (.Call (.Attribute o m apos) (e::es) [] pos) X.env=(do
      let ov ← eval o X.env
      standAt apos.atName
      let (f,first) ← holding [ov] (getMethod ov m pl)
      callWith pos f first (backTo pos (starEach (e::es) X.env)) (backToKw pos (keywordEach [] X.env))):=by rfl) :
    PE X (.Call (.Attribute o m apos) (e::es) [] pos) (znv C m sp dvs E ta t):=by
  intro pins s σ H Q I h;refine PySem.W.methodCall_KW (pl:=pl) (thn (he pins s σ H _ I h) fun u s1 zq0=>?_) ht;obtain ⟨x,H1,I1,rx,a,dx,fs,ex,ea,l,q⟩:=zq0;subst ex;obtain rfl:u=Value.ref a:=rx;refine zgH I1 ea c hm l ?_;refine PySem.W.callWith_K (first:=[.ref a]) (h₀:=X.base) I.ok.mod.kin hm.kp (thn (ha pos pins s1 σ H1 _ I1 q) fun us s2 zq0=>?_) hst hpl
  obtain ⟨vs,H2,I2,r,q2⟩:=zq0;refine ⟨I2.kIn,?_⟩;exact zjD (us:=.ref a::us) (vs:=.ref a::vs) F hr hb hd hx I2 (.cons rfl r) q2
theorem znL {pl:Sem Bool}(he:PE X o ta)(c:Cls X.K C)(hm:Meth X.K C m f)(F:FnOk X.prog X.w X.K X.mg X.base CX k f fd ps sp)(hr:Room k X.A)(hb:zdw X.K fd ps ds)(hd:Vals dvs ds)(hx:zgk CX X E)
    (ht:eval (.Call (.Attribute o m apos) [] [] pos) X.env=(do
      let ov ← eval o X.env
      standAt apos.atName
      let (f,first) ← holding [ov] (getMethod ov m pl)
      callWith pos f first (backTo pos (starEach [] X.env)) (backToKw pos (keywordEach [] X.env))):=by rfl) :
    PE X (.Call (.Attribute o m apos) [] [] pos) (znv C m sp dvs E ta tNil):=by
  intro pins s σ H Q I h;refine PySem.W.methodCall_KW (pl:=pl) (thn (he pins s σ H _ I h) fun u s1 zq0=>?_) ht;obtain ⟨x,H1,I1,rx,a,dx,fs,ex,ea,l,q⟩:=zq0;subst ex;obtain rfl:u=Value.ref a:=rx;refine zgH I1 ea c hm l ?_;exact PySem.W.callWith_K0 (first:=[.ref a]) I1.kIn hm.kp (zjD (us:=[.ref a]) (vs:=[.ref a]) F hr hb hd hx I1 (.cons rfl .nil) q)
structure Mk (K:Frag)(C f:Addr):Prop where
  makes:PySem.W.makesIn K C=true
  init:findIn K (.ref C) "__init__" = some (some (.ref f))
  fn:PySem.W.isFn K (.ref f)=true
  kp:keepIn K (.ref C)=true
theorem znE {pins:List (Addr×Obj)}{σ:St}{H:Hp}{s:Shared}{Q:VK}{us:List Value}{vs:List V}(M:Mk X.K C f)(F:FnOk X.prog X.w X.K X.mg X.base CX k f fd ps sp)(hr:Room (k+1) X.A)(hb:zdw X.K fd ps ds)(hd:Vals dvs ds)
    (hx:zgk CX X E) (I:Inv X pins σ H s) (r:Vals vs us)
    (h:∀ x dx,H x=none→H dx=none→dx≠x→sp (.ref x::(vs++dvs)) (upd (upd H dx (.own x)) x (.ins C dx [])) (fun v H2=>v=.non∧Q (.ref x) H2) E) :
    wpAny (model X.prog X.w) X.A (call (.ref C) us) (EP X pins σ Q) X.xe s:=by
  have hq:=h (s.heap.objs.size+1) s.heap.objs.size (I.hok.fresh (ybd _)) (I.hok.fresh (yaa _)) (yas (yb4 _));have I2:=Inv.made (C:=C) I;have r2:Vals (V.ref (s.heap.objs.size+1)::(vs++dvs)) (Value.ref (s.heap.objs.size+1)::(us++ds)):=.cons rfl (r.append hd);have hl:(Value.ref (s.heap.objs.size+1)::us++ds).length=ps.length:=by
    have e:=r2.length;rw[F.len _ _ _ _ hq]at e;exact e.symm
  refine wpAny_call (zoe (f:=f) I.kIn M.makes M.init (beq_iff_eq.mp M.fn) (codeAny_mono (F.run _ X.stack _ _ ⟨Value.ref (s.heap.objs.size+1)::us,[]⟩ (Value.ref (s.heap.objs.size+1)::(us++ds)) _ _ E (hr.make C us [])
    (I2.env0.make C us []) (hb _ (Value.ref (s.heap.objs.size+1)::us) I2.kIn hl) r2 hq) fun r s' hq'=>?_))
  cases r with
  | error e=>exact hx pins σ _ _ e s' I2 hq'
  | ok fl=>
    cases fl with
    | ret u=>
      obtain ⟨v,H',I3,rv,ev,q3⟩:=I2.after hq';subst ev;exact ⟨rv,⟨V.ref (s.heap.objs.size+1),H',I3,rfl,q3⟩⟩
    | next=>exact False.elim hq'
    | brk=>exact False.elim hq'
    | cont=>exact False.elim hq'
theorem zpF (M:Mk X.K C f)(F:FnOk X.prog X.w X.K X.mg X.base CX k f fd ps sp)(hr:Room (k+1) X.A)(hg:Gl X x)(hm:X.mg x=some (.ref C))(hb:zdw X.K fd ps ds)(hd:Vals dvs ds)(hx:zgk CX X E)
    (ha:PA X (e::es) t) (hdb:(x == ("__debug__" : Str))=false:=by decide) (he:starEach (e::es) X.env=(false,eval e X.env)::starEach es X.env:=by rfl) (hpl:(backTo pos (starEach es X.env)).any (·.1)=false:=by rfl) :
    PE X (.Call (.Name x p) (e::es) [] pos) (zqD C sp dvs E t):=by
  intro pins s σ H Q I h;refine wpAny_Call_Name_kw (zhr I hg hm ?_ hdb);refine PySem.W.callWith_K (h₀:=X.base) I.ok.mod.kin M.kp (thn (ha pos pins s σ H _ I h) fun us s1 zq0=>?_) he hpl;obtain ⟨vs,H1,I1,r,q⟩:=zq0;refine ⟨I1.kIn,?_⟩;exact znE M F hr hb hd hx I1 r q
end
structure zao (N P:List Str)(sc:Scope):Prop where
  kind:sc.kind=.function
  co:sc.isCoroutine=false
  gen:sc.isGenerator=false
  nd:N.Nodup
  pre:N.take P.length=P
  par:∀ x∈P,sc.names.lookup x=some .local∨sc.names.lookup x=some .cell
  nofree:∀ y∈sc.names,y.2≠.free
theorem zim {kindOf:Str→Option NameKind}{x:Str}:∀{binds:List (Str×Value)} {m:Str→Option Value},(∀ v,(x,v)∉binds)→bindL kindOf binds m x=m x
  | [],_,_=>rfl
  | (n,v)::r,m,h=>by
    unfold bindL;rw[zim fun w hw=>h w (yaA _ hw)];split
    · have:x≠n:=by rintro rfl;exact h v yaL
      simp[this]
    · rfl
theorem zio {kindOf:Str→Option NameKind}{x:Str}:∀{binds:List (Str×Value)} {m:Str→Option Value},(∀ v,(x,v)∉binds)→bindC kindOf binds m x=m x
  | [],_,_=>rfl
  | (n,v)::r,m,h=>by
    unfold bindC;rw[zio fun w hw=>h w (yaA _ hw)];split
    · rfl
    · have:x≠n:=by rintro rfl;exact h v yaL
      simp[this]
theorem zin {kindOf:Str→Option NameKind}{x:Str}{v:Value}:∀{P:List Str} {vs:List Value} {i:Nat} {m:Str→Option Value},P.Nodup→P[i]?=some x→vs[i]?=some v→kindOf x=some .local→
    bindL kindOf (P.zip vs) m x=some v
  | [],_,_,_,_,h,_,_=>by simp at h
  | _::_,[],_,_,_,_,h,_=>by simp at h
  | p::P,w::vs,0,m,nd,h1,h2,hk=>by
    simp at h1 h2;subst h1;subst h2;show bindL kindOf ((p,w)::P.zip vs) m p=_;unfold bindL;rw[zim fun v hv=>(yaO.mp nd).1 (ybT hv).1,if_pos hk];simp
  | p::P,w::vs,i+1,m,nd,h1,h2,hk=>by
    show bindL kindOf ((p,w)::P.zip vs) m x=_;unfold bindL;exact zin (i:=i) (yaO.mp nd).2 (by simpa using h1) (by simpa using h2) hk
theorem ziq {kindOf:Str→Option NameKind}{x:Str}{v:Value}:∀{P:List Str} {vs:List Value} {i:Nat} {m:Str→Option Value},P.Nodup→P[i]?=some x→vs[i]?=some v→kindOf x≠some .local→
    bindC kindOf (P.zip vs) m x=some v
  | [],_,_,_,_,h,_,_=>by simp at h
  | _::_,[],_,_,_,_,h,_=>by simp at h
  | p::P,w::vs,0,m,nd,h1,h2,hk=>by
    simp at h1 h2;subst h1;subst h2;show bindC kindOf ((p,w)::P.zip vs) m p=_;unfold bindC;rw[zio fun v hv=>(yaO.mp nd).1 (ybT hv).1,if_neg hk];simp
  | p::P,w::vs,i+1,m,nd,h1,h2,hk=>by
    show bindC kindOf ((p,w)::P.zip vs) m x=_;unfold bindC;exact ziq (i:=i) (yaO.mp nd).2 (by simpa using h1) (by simpa using h2) hk
def zdf (N:List Str)(vs:List V):St:=vs.map some++List.replicate (N.length - vs.length) none
def cxOf (CX:CXT)(P:Program)(w:World)(K:Frag)(mg:Str→Option Value)(base:Heap)(N:List Str)(qual:Str)(scope:Scope)(f:Addr)(cd:Value)(A:Around)(outer:List Env)(s:Shared)(H:Hp)(E:XK):Cx where
  prog:=P
  w:=w
  K:=K
  mg:=mg
  base:=base
  A:=A.deeper (envOfC qual scope s.heap.objs.size f cd)
  N:=N
  s₀:=s
  H₀:=H
  env:=envOfC qual scope s.heap.objs.size f cd
  outer:=outer
  stack:=envOfC qual scope s.heap.objs.size f cd::outer
  ex:=[]
  calm:=true
  fn:=fun _=>true
  pn:=[]
  xe:=fun e s'=>wpAny (model P w) (A.deeper (envOfC qual scope s.heap.objs.size f cd)) (leaving (envOfC qual scope s.heap.objs.size f cd) e) (fun _ s''=>CX outer H s E e s'') (fun e' s''=>CX outer H s E e' s'') s'
theorem zj9 {sc:Scope}{n:Nat}{x:Str}(h:sc.names.lookup x=some .cell):∃ c,(cellsFrom n sc.names []).lookup x=some c:=by
  have q:=PySem.W.cellsFrom_some sc.names n [] (.inl h);exact Option.isSome_iff_exists.mp q
theorem zmB {CX:CXT}{P:Program}{w:World}{K:Frag}{mg:Str→Option Value}{base:Heap}{N ps:List Str}{qual:Str}{scope:Scope}{f:Addr}{cd:Value}{A:Around}{outer:List Env}{s s1:Shared}{H:Hp}{E:XK}{us:List Value}{vs:List V}
    (S:zao N ps scope) (hd:A.handled=none) (e0:Env0 P w K mg base A outer s H) (hl:vs.length=ps.length) (r:Vals vs us)
    (x:InCallC s s.heap.objs.size (bindL (envOfC qual scope s.heap.objs.size f cd).kindOf (ps.zip us) fun _=>none) (cellsFrom (s.heap.objs.size+1) scope.names []) (bindC (envOfC qual scope s.heap.objs.size f cd).kindOf (ps.zip us) fun _=>none) s1) :
    Inv (cxOf CX P w K mg base N qual scope f cd A outer s H E) [] (zdf N vs) H s1:=by
  have hpl:ps.length≤N.length:=by have:=congrArg List.length S.pre;rw[yan]at this;omega
  obtain ⟨h1,tk,rfl,hk⟩:=x.done;have noA:∀ b:Addr,b∉(cxOf CX P w K mg base N qual scope f cd A outer s H E).ex:=fun b z=>absurd (show b∈([]:List Addr) from z) (by simp);refine ⟨⟨e0.mod,S.kind,rfl,rfl,yaa _,fun y z c h1 h2=>?_,fun y hy=>?_,fun y c _ h=>?_,fun _=>hd,Around.frames_deeper e0.frames,.inr ⟨rfl,rfl⟩,fun b z=>absurd z (noA b),e0.bs,e0.bsz,fun b _ _=>noA b,fun b z=>absurd z (noA b),e0.funs,e0.frf⟩,
    rfl,e0.bare,Un.kept hk,⟨_,x.toInCall.ns,fun i y v h1 h2 h3=>?_⟩,fun y c h=>⟨_,x.cell y c h⟩,e0.hok.fresh (yaa _),fun y c h=>?_,fun p hp=>absurd (show p∈([]:List (Addr×Obj)) from hp) (by simp),e0.hok.kept hk,?_⟩
  · exact name_of_addr x.apart (PySem.mem_of_lookup h1) (PySem.mem_of_lookup h2)
  · have hy:scope.names.lookup y=some .cell∨scope.names.lookup y=some .free:=hy
    rcases hy with hy | hy
    · exact zj9 hy
    · exact absurd rfl (S.nofree _ (PySem.mem_of_lookup hy))
  · exact ya8 (x.above y c (PySem.mem_of_lookup h))
  · have hi:i < vs.length:=by
      unfold zdf at h2;by_cases hi:i < vs.length
      · exact hi
      · rw[ybe (by simpa using hi)]at h2
        rw[yct]at h2;split at h2 <;> cases h2
    have ha:vs[i]?=some v:=by
      unfold zdf at h2;rw[ybl (by simpa using hi),yat]at h2;cases e:vs[i]? with
      | none=>rw[e]at h2;cases h2
      | some a=>rw[e]at h2;cases h2;rfl
    obtain ⟨u,hu,rv⟩:=r.get ha;have hp:ps[i]?=some y:=by
      rw[← S.pre,List.getElem?_take_of_lt (by omega)];exact h1
    have ndP:ps.Nodup:=by rw[← S.pre];exact S.nd.sublist (List.take_sublist _ _)
    refine ⟨u,rv,?_⟩;rcases S.par y (yaD hp) with k | k
    · exact .inl ⟨k,zin ndP hp hu k⟩
    · obtain ⟨c,e⟩:=zj9 (n:=s.heap.objs.size+1) k
      refine .inr ⟨.inl k,c,e,?_⟩;have q:=x.cell y c e;rw[ziq ndP hp hu (by show scope.names.lookup y≠_;rw[k];decide)]at q;exact q
  · exact e0.hok.fresh (ya8 (x.above y c (PySem.mem_of_lookup h)))
  · unfold zdf
    show _=N.length;rw[yap,yab,ybm];omega
theorem zrG {CX:CXT}{P:Program}{w:World}{K:Frag}{mg:Str→Option Value}{base:Heap}{k:Nat}{f:Addr}{name qual:Str}{params:Arguments}{body:List Stmt}{scope:Scope}{dV kV doc pm cdv ct oc:Value}{an od:Option Addr}
    {osl:Array (Option Value)} {N ps:List Str} {sp:Sp} (lk:K.lookup f=some ⟨oc,od,.func (fnOf name qual params body scope dV kV doc pm an cdv ct),osl⟩) (hcd:codeIn K cdv qual=true) (S:zao N ps scope)
    (len:∀ vs H Q E,sp vs H Q E→vs.length=ps.length)
    (hbody:∀(A:Around) (outer:List Env) (s:Shared) (H:Hp) (vs:List V) (Q:VK) (E:XK),Room k (A.deeper (envOfC qual scope s.heap.objs.size f cdv))→sp vs H Q E→
      ∃ t,PSs (cxOf CX P w K mg base N qual scope f cdv A outer s H E) body t∧t { nx:=fun _ H'=>Q .non H',rt:=Q } (zdf N vs) H) :
    FnOk P w K mg base CX (k+1) f (fnOf name qual params body scope dV kV doc pm an cdv ct) ps sp:=by
  refine ⟨len,fun A outer s H args us vs Q E hr e0 hb r hsp=>?_⟩;have hl:=len _ _ _ _ hsp;have KX:K.In s.heap:=e0.mod.kin.keeps fun b o e=>(e0.bs b o e).1;have lim:s.heap.NoLimit:=e0.mod.nolimit.keeps fun b o e=>(e0.bs b o e).1;have hkind:∀ y∈ps.zip us,scope.names.lookup y.1=some .local∨(scope.names.lookup y.1=some .cell∧((cellsFrom (s.heap.objs.size+1) scope.names []).lookup y.1).isSome=true):=fun ⟨n,v⟩ hy=>by
    rcases S.par n (ybT hy).1 with q | q
    · exact .inl q
    · exact .inr ⟨q,PySem.W.cellsFrom_some _ _ _ (.inl q)⟩
  refine codeAny_call_function hr.depth (KX _ _ lk) rfl S.co S.gen rfl (PySem.W.codeRec_of KX hcd) (hb _ _ _ _ ?_);refine wpAny_newFunctionEnv_cells S.kind hkind fun env he s1 x=>?_;subst he;refine ⟨lim.keeps x.toInCall.keep,codeAny_func ?_⟩;obtain ⟨t,ht,hq⟩:=hbody A outer s H vs Q E (hr.deeper _) hsp;have I:Inv (cxOf CX P w K mg base N qual scope f cdv A outer s H E) [] (zdf N vs) H s1:=zmB S hr.hd e0 hl r x;refine wpAny_mono (ht [] s1 (zdf N vs) H _ I hq) (fun fl s' hs=>?_) fun e s' hs=>hs;have fin:∀{σ':St} {H':Hp} {v:V} {u:Value},Inv (cxOf CX P w K mg base N qual scope f cdv A outer s H E) [] σ' H' s'→RelV v u→Q v H'→CE outer P w H s Q u s':=
    fun {σ' H' v u} J rv q=>⟨v,H',J.os,J.bare,J.base,J.hok,rv,q⟩
  cases fl with
  | ret u=>
    obtain ⟨v,σ',H',J,rv,q⟩:=hs;exact fin J rv q
  | next=>
    obtain ⟨σ',H',J,q⟩:=hs;exact fin (v:=V.non) (u:=Value.none) J rfl q
  | brk=>
    obtain ⟨_,_,_,q⟩:=hs;exact False.elim q
  | cont=>
    obtain ⟨_,_,_,q⟩:=hs;exact False.elim q
end L2
namespace L2
open PySem PySem.Spec PyProof.Rows
section
variable {X:Cx}{x:Str}{p pos:Pos}{e:Expr}{es:List Expr}{t:TA}{id T:String}{r:List V→Hp→VK→Prop}
def tCB (r:List V→Hp→VK→Prop)(t:TA):TE:=fun σ H Q=>t σ H fun vs H1=>r vs H1 Q
theorem zap (hc:zb1 X (.builtin id) r)(hg:Gl X x)(hm:X.mg x=none)(hv:bootBuiltins x=some (.builtin id))(ha:PA X (e::es) t)(hn:x ≠ "__name__":=by decide)(hdb:(x == ("__debug__" : Str))=false:=by decide)
    (he:starEach (e::es) X.env=(false,eval e X.env)::starEach es X.env:=by rfl) (hpl:(backTo pos (starEach es X.env)).any (·.1)=false:=by rfl):PE X (.Call (.Name x p) (e::es) [] pos) (tCB r t):=by
  intro pins s σ H Q I h;refine wpAny_Call_Name_kw (zfi I hg hm hv ?_ hn hdb);exact PyProof.Rows.callWith_builtin1 (thn (ha pos pins s σ H _ I h) fun us s1 zq0=>(by obtain ⟨vs,H1,I1,r1,q1⟩:=zq0;exact hc pins s1 σ H1 vs us Q I1 r1 q1)) he hpl
theorem zbn (hc:zb1 X (.type T) r)(hg:Gl X x)(hm:X.mg x=none)(hv:bootBuiltins x=some (.type T))(ha:PA X (e::es) t)(hn:x ≠ "__name__":=by decide)(hdb:(x == ("__debug__" : Str))=false:=by decide)
    (he:starEach (e::es) X.env=(false,eval e X.env)::starEach es X.env:=by rfl) (hpl:(backTo pos (starEach es X.env)).any (·.1)=false:=by rfl):PE X (.Call (.Name x p) (e::es) [] pos) (tCB r t):=by
  intro pins s σ H Q I h;refine wpAny_Call_Name_kw (zfi I hg hm hv ?_ hn hdb);exact PyProof.Rows.callWith_type1 (thn (ha pos pins s σ H _ I h) fun us s1 zq0=>(by obtain ⟨vs,H1,I1,r1,q1⟩:=zq0;exact hc pins s1 σ H1 vs us Q I1 r1 q1)) he hpl
end
end L2
namespace HT
open PySem PyProof.Rows
section
variable {prog:Program}{w:World}{A:Around}{E:Value→Shared→Prop}{s:Shared}
theorem cat_tup {t b:Addr}{vs ws:List Value}{Q:Value→Shared→Prop}(ht:IsTup s.heap t vs.toArray)(hb:IsTup s.heap b ws.toArray)(hv:vs≠[])
    (h1:ws=[]→Q (.ref t) s) (h2:ws≠[]→Q (.ref s.heap.objs.size) { s with heap:=s.heap.push { cls:=.type "tuple",data:=.seq (vs++ws).toArray } })
    (hsz:vs.length+ws.length≤sizeLine):wpAny (model prog w) A (binaryOp .Add (.ref t) (.ref b)) Q E s:=by
  obtain ⟨⟨cls,dd,data,sl⟩,ho,hc,n,hd⟩:=id ht;obtain ⟨⟨cls2,dd2,data2,sl2⟩,ho2,hc2,n2,hd2⟩:=id hb;simp only at hc hd hc2 hd2;subst hc hd hc2 hd2;have e:vs.toArray++ws.toArray=(vs++ws).toArray:=by simp
  by_cases hw:ws=[]
  · exact concat_meets ⟨_,ho,rfl⟩ ⟨_,ho2,rfl⟩ noFill_tuple_add seq_tuple_add PySem.F.slot_tuple_add PySem.F.entry_tuple_add (PySem.F.args_tuple_add_2 _ _)
      (tuple_addW1 t b vs.toArray ws.toArray n n2 dd dd2 sl sl2 (by simpa using hv) (by simp[hw])) ⟨ho,ho2,h1 hw⟩
  · refine concat_meets ⟨_,ho,rfl⟩ ⟨_,ho2,rfl⟩ noFill_tuple_add seq_tuple_add PySem.F.slot_tuple_add PySem.F.entry_tuple_add (PySem.F.args_tuple_add_2 _ _)
      (tuple_addW2 t b vs.toArray ws.toArray n n2 dd dd2 sl sl2 (by simpa using hv) (by simpa using hw) (by rw[yaq,yaq];exact hsz)) ⟨ho,ho2,?_⟩
    rw[e];exact h2 hw
def sIx (n d:Nat):Option Int→Nat
  | none=>d
  | some v=>if v < 0 then (v+(n:Int)).toNat else min v.toNat n
theorem zcH (n d k:Nat):sIx n d (some (k:Int))=min k n:=by
  show (if (k:Int) < 0 then ((k:Int)+(n:Int)).toNat else min (k:Int).toNat n)=min k n
  rw[if_neg (by omega),ya9]
theorem zqP (n d:Nat)(hd:d≤n)(o:Option Int):sIx n d o≤n:=by
  cases o with
  | none=>exact hd
  | some v=>
    show (if v < 0 then (v+(n:Int)).toNat else min v.toNat n)≤n
    by_cases hv:v < 0
    · rw[if_pos hv];omega
    · rw[if_neg hv];exact Nat.min_le_right _ _
theorem zm3 (v:Int)(n d:Nat):(if v < 0 then max (v+(n:Int)) 0 else min v (n:Int))=((sIx n d (some v):Nat):Int):=by
  show (if v < 0 then max (v+(n:Int)) 0 else min v (n:Int))=(((if v < 0 then (v+(n:Int)).toNat else min v.toNat n):Nat):Int)
  by_cases hv:v < 0
  · simp only[if_pos hv];omega
  · simp only[if_neg hv];omega
theorem zkX (lo hi:Option Int)(n:Nat):Builtin.Slice.sliceAdjust lo hi 1 (n:Int)=(((sIx n 0 lo:Nat):Int),((sIx n n hi:Nat):Int)):=by
  have h1:¬ ((1:Int) < 0):=by omega
  unfold Builtin.Slice.sliceAdjust;simp only[h1,if_false];refine Prod.ext ?_ ?_
  · cases lo with
    | none=>rfl
    | some v=>exact zm3 v n 0
  · cases hi with
    | none=>rfl
    | some v=>exact zm3 v n n
theorem zkp (i j:Nat):Builtin.Slice.slicePlaces (i:Int) (j:Int) 1=j - i:=by
  unfold Builtin.Slice.slicePlaces;have h1:(1:Int) > 0:=by omega
  simp only[h1,if_true,Int.ediv_one];split <;> omega
theorem zgx {v:Value}{o:Option Int}{Q:Option Int→Shared→Prop}(p:IsPart v o)(h:Q o s):wpAny (model prog w) A (Builtin.Slice.slicePartIndex v) Q E s:=by
  cases p with
  | none=>exact slicePart_none h
  | int i t=>exact slicePart_int h
theorem zc8 {sl:Addr}{vl vu:Value}{lo hi:Option Int}{n:Nat}{Q:Int×Int×Nat→Shared→Prop}(hs:s.heap.IsSliceOf sl vl vu .none)(pl:IsPart vl lo)(pu:IsPart vu hi)
    (h:Q (((sIx n 0 lo:Nat):Int),1,sIx n n hi - sIx n 0 lo) s):wpAny (model prog w) A (Builtin.Slice.sliceApplied (.ref sl) (pure (n:Int))) Q E s:=by
  obtain ⟨os,hos,hcs,hds⟩:=id hs;unfold Builtin.Slice.sliceApplied Builtin.Slice.sliceFields;refine wpAny_bind (wpAny_bind (wpAny_field hos hds (x:=vl) rfl (wpAny_bind (wpAny_field hos hds (x:=vu) rfl (wpAny_bind (wpAny_field hos hds (x:=.none) rfl (wpAny_pure ?_)))))));refine wpAny_bind (slicePart_none ?_);show wpAny _ _ (if ((1:Int) == 0)=true then _ else _) _ _ s
  rw[if_neg (by decide)];refine wpAny_bind (zgx pl (wpAny_bind (zgx pu (wpAny_bind (wpAny_pure ?_)))));show wpAny _ _ (match Builtin.Slice.sliceAdjust lo hi 1 (n:Int) with | (lo,hi)=>pure (lo,(1:Int),Builtin.Slice.slicePlaces lo hi 1)) _ _ s
  rw[zkX lo hi n];show wpAny _ _ (pure (((sIx n 0 lo:Nat):Int),(1:Int),Builtin.Slice.slicePlaces ((sIx n 0 lo:Nat):Int) ((sIx n n hi:Nat):Int) 1)) _ _ s;rw[zkp];exact wpAny_pure h
theorem znK (xs:Array Value)(i k:Nat):((List.range k).filterMap fun (m:Nat)=>xs[((i:Int)+(m:Int) * 1).toNat]?).toArray=((xs.toList.drop i).take k).toArray:=by
  have e:(fun (m:Nat)=>xs[((i:Int)+(m:Int) * 1).toNat]?)=fun m=>xs[i+m]?:=by
    funext m
    have:((i:Int)+(m:Int) * 1).toNat=i+m:=by omega
    rw[this]
  rw[e];have:=pick_run xs i k;rw[List.filterMap_map]at this;have e2:((fun x=>xs[x]?) ∘ fun x=>i+x)=fun m=>xs[i+m]?:=rfl;rw[e2]at this;rw[this]
theorem getItem_tuple_cut {t sl:Addr}{items:Array Value}{vl vu:Value}{lo hi:Option Int}{Q:Value→Shared→Prop}(ht:IsTup s.heap t items)(hs:s.heap.IsSliceOf sl vl vu .none)(pl:IsPart vl lo)(pu:IsPart vu hi)
    (hw:¬ (sIx items.size 0 lo=0∧sIx items.size items.size hi=items.size))
    (h:Q (.ref s.heap.objs.size) { s with heap:=s.heap.push { cls:=.type "tuple",data:=.seq ((items.toList.drop (sIx items.size 0 lo)).take (sIx items.size items.size hi - sIx items.size 0 lo)).toArray } })
    (hsz:items.size≤sizeLine):wpAny (model prog w) A (getItem (.ref t) (.ref sl)) Q E s:=by
  have htake:sizeOk (.seq ((items.toList.drop (sIx items.size 0 lo)).take (sIx items.size items.size hi - sIx items.size 0 lo)).toArray):=by
    show ((items.toList.drop (sIx items.size 0 lo)).take (sIx items.size items.size hi - sIx items.size 0 lo)).toArray.size≤sizeLine;rw[yaq,yan,yaM,yau];omega
  have hj:sIx items.size items.size hi≤items.size:=zqP _ _ (yaa _) hi;obtain ⟨os,hos,hcs,hds⟩:=id hs;have hTs:s.TypeIs (.ref sl) "slice":=⟨os,hos,hcs⟩;unfold getItem
  try with_reducible refine wpAny_holding ?_
  first | refine wpAny_bind (wpAny_pure ?_) | skip
  refine wpAny_bind (wpAny_sequenceKey ht.typeIs (by decide) ?_);refine wpAny_bind (wpAny_callSpecial?_slot (name:=Str.ofString "__getitem__") ht.typeIs PyProof.Rows.slot_tuple_getitem
    (wpAny_call_entry PyProof.Rows.slot_tuple_getitem ht.typeIs entry_tuple_getitem ?_ (args_tuple_getitem _ _)))
  show wpAny _ _ (Builtin.Tuple.tupleItemsOf (.ref t) >>= _) _ _ s;refine wpAny_bind (tupleItemsOf_ ht ?_);refine wpAny_bind (wpAny_typeOf hTs ?_);rw[if_pos (by decide)];refine wpAny_bind (zc8 hs pl pu ?_);have hno:¬ ((((sIx items.size 0 lo:Nat):Int) == 0 && (1:Int) == 1 && (sIx items.size items.size hi - sIx items.size 0 lo) == items.size)=true):=by
    intro q;rw[ybs,ybs]at q;have q1:((sIx items.size 0 lo:Nat):Int)=0:=eq_of_beq q.1.1;have q2:sIx items.size items.size hi - sIx items.size 0 lo=items.size:=eq_of_beq q.2;exact hw ⟨by omega,by omega⟩
  show wpAny _ _ (if (((sIx items.size 0 lo:Nat):Int) == 0 && (1:Int) == 1 && (sIx items.size items.size hi - sIx items.size 0 lo) == items.size)=true then _ else _) _ _ s
  rw[if_neg hno,znK]
  first
    | exact wpAny_bind (m:=Builtin.Tuple.tupleExact _) (wpAny_newObj_type (wpAny_pure ⟨_,rfl,wpAny_pure h⟩) htake)
    | exact wpAny_bind (m:=Builtin.Tuple.tupleExact _) (wpAny_newObj_type (wpAny_bind (wpAny_pure (wpAny_pure ⟨_,rfl,wpAny_pure h⟩))) htake)
    | exact wpAny_bind (wpAny_bind (m:=Builtin.Tuple.tupleExact _) (wpAny_newObj_type (wpAny_pure (wpAny_pure ⟨_,rfl,wpAny_pure h⟩)) htake))
    | exact wpAny_bind (wpAny_bind (m:=Builtin.Tuple.tupleExact _) (wpAny_newObj_type (wpAny_pure ⟨_,rfl,wpAny_pure h⟩) htake))
end
end HT
namespace L2
open PySem PySem.Spec PyProof.Rows
abbrev TO:=St→Hp→(Option Int→Hp→Prop)→Prop
def PO (X:Cx)(e:Option Expr)(t:TO):Prop:=
  ∀(pins:List (Addr×Obj)) (s:Shared) (σ:St) (H:Hp) (Q:Option Int→Hp→Prop),Inv X pins σ H s→t σ H Q→
    wpAny (model X.prog X.w) X.A (evalPart e X.env) (fun u s'=>∃ o H',Inv X pins σ H' s'∧IsPart u o∧Q o H') X.xe s
def ziz:TO:=fun _ H Q=>Q none H
def zrV (t:TE):TO:=fun σ H Q=>t σ H fun x H1=>∃ i,x=.int i∧Q (some i) H1
section
variable {X:Cx}{e:Expr}{te:TE}{lo hi:Option Expr}{tl th:TO}{pos p2:Pos}
theorem zd4:PO X none ziz:=by
  intro pins s σ H Q I h;rw[evalPart_none];exact wpAny_pure ⟨none,H,I,.none,h⟩
theorem zcl (h:PE X e te):PO X (some e) (zrV te):=by
  intro pins s σ H Q I hw;rw[evalPart_some];refine thn (h pins s σ H _ I hw) fun u s1 zq0=>?_;obtain ⟨x,H1,I1,r1,q1⟩:=zq0;obtain ⟨i,rfl,q⟩:=q1;obtain ⟨t,rfl⟩:=r1;exact ⟨some i,H1,I1,.int i t,q⟩
def SlR (X:Cx)(r:V→Option Int→Option Int→Hp→VK→Prop):Prop:=
  ∀(pins:List (Addr×Obj)) (s:Shared) (σ:St) (H:Hp) (x:V) (v vl vu:Value) (lo hi:Option Int) (sl:Addr) (Q:VK),Inv X pins σ H s→RelV x v→s.heap.IsSliceOf sl vl vu .none→IsPart vl lo→IsPart vu hi→r x lo hi H Q→
    ∃ T id,typeLookup (.type T) "__getitem__" = pure (some (.builtin id))∧s.TypeIs v T∧wpAny (model X.prog X.w) X.A (getItem v (.ref sl)) (EP X pins σ Q) X.xe s
def tSl (r:V→Option Int→Option Int→Hp→VK→Prop)(te:TE)(tl th:TO):TE:=fun σ H Q=>te σ H fun x H1=>tl σ H1 fun l H2=>th σ H2 fun u H3=>r x l u H3 Q
theorem zcb {r:V→Option Int→Option Int→Hp→VK→Prop}(hr:SlR X r)(he:PE X e te)(hl:PO X lo tl)(hu:PO X hi th):PE X (.Subscript e (.Slice lo hi none p2) pos) (tSl r te tl th):=by
  intro pins s σ H Q I h;refine Subscript_ (thn (he pins s σ H _ I h) fun v s1 zq0=>?_);obtain ⟨x,H1,I1,r1,q1⟩:=zq0;refine wpAny_Slice (thn (hl pins s1 σ H1 _ I1 q1) fun vl s2 zq0=>?_);obtain ⟨l,H2,I2,pl,q2⟩:=zq0;refine thn (hu pins s2 σ H2 _ I2 q2) fun vu s3 zq1=>?_;obtain ⟨u,H3,I3,pu,q3⟩:=zq1;rw[evalPart_none];refine wpAny_pure ?_;have I4:Inv X pins σ H3 { s3 with heap:=s3.heap.push { cls:=.type "slice",data:=.fields #[vl,vu,.none] } }:=I3.kept (t':=s3.toks) fun b ob q=>yal _ q;obtain ⟨T,id,hT,ht,hg⟩:=hr pins { s3 with heap:=s3.heap.push { cls:=.type "slice",data:=.fields #[vl,vu,.none] } } σ H3 x v vl vu l u s3.heap.objs.size Q I4 r1 (Heap.IsSliceOf.new ..) pl pu q3;show wpAny (model X.prog X.w) X.A (subscriptTail e (.Slice lo hi none p2) v (.ref s3.heap.objs.size)) (EP X pins σ Q) X.xe { s3 with heap:=s3.heap.push { cls:=.type "slice",data:=.fields #[vl,vu,.none] } };exact tail_any (ops:=[.ref s3.heap.objs.size,v]) ht hT hg (by with_unfolding_all rfl)
def cutV (xs:List V)(lo hi:Option Int):List V:=(xs.drop (HT.sIx xs.length 0 lo)).take (HT.sIx xs.length xs.length hi - HT.sIx xs.length 0 lo)
theorem zgb (xs:List V)(lo hi:Option Int):(cutV xs lo hi).length≤xs.length:=by
  unfold cutV;rw[yan,yaM];omega
def rSlT (K:Frag):V→Option Int→Option Int→Hp→VK→Prop:=fun x lo hi H Q=>∃ a xs,x=.ref a∧SqT K H a xs∧
  ¬ (HT.sIx xs.length 0 lo=0∧HT.sIx xs.length xs.length hi=xs.length)∧∀ p,H p=none→Q (.ref p) (upd H p (.tup (cutV xs lo hi)))
theorem zqO:SlR X (rSlT X.K):=by
  intro pins s σ H x v vl vu lo hi sl Q I rx hs pl pu h;obtain ⟨a,xs,rfl,hx,hw,q⟩:=h;cases rx
  obtain ⟨its,r,ht,hz⟩:=I.tuple hx;have hlen:its.toArray.size=xs.length:=by rw[yaq];exact r.length.symm
  refine ⟨"tuple",_,PyProof.Rows.slot_tuple_getitem.lookup,ht.typeIs,?_⟩;refine HT.getItem_tuple_cut ht hs pl pu (by rw[hlen];exact hw) ?_ (by rw[hlen];exact hz);rw[hlen];refine ⟨.ref s.heap.objs.size,_,I.laid (t':=s.toks) (o:=.tup (cutV xs lo hi)) (fun b ob q=>yal _ q) (yaa _) ?_,rfl,q _ (I.hok.fresh (yaa _))⟩;exact ⟨yaw (zgb xs lo hi) hz,_,(r.drop (HT.sIx xs.length 0 lo)).take (HT.sIx xs.length xs.length hi - HT.sIx xs.length 0 lo),IsTup.new _ _⟩
def zpx (K:Frag):R2:=fun x y H Q=>∃ a b xs ys,x=.ref a∧y=.ref b∧SqT K H a xs∧SqT K H b ys∧xs≠[]∧xs.length+ys.length≤sizeLine∧
  (ys=[]→Q (.ref a) H)∧(ys≠[]→∀ p,H p=none→Q (.ref p) (upd H p (.tup (xs++ys))))
theorem Vals.nil_iff {xs:List V}{us:List Value}(r:Vals xs us):us=[]↔xs=[]:=by
  cases r with
  | nil=>simp
  | cons _ _=>simp
theorem zhh:OpR X (binaryOp .Add) (zpx X.K):=by
  intro pins s σ H x y v u Q I rx ry h;obtain ⟨a,b,xs,ys,rfl,rfl,ha,hb,hx,hz,q1,q2⟩:=h;cases rx
  cases ry
  obtain ⟨its,r1,p1,_⟩:=I.tuple ha;obtain ⟨its2,r2,p2,_⟩:=I.tuple hb;refine HT.cat_tup p1 p2 (fun z=>hx (r1.nil_iff.mp z)) (fun z=>⟨.ref a,H,I,rfl,q1 (r2.nil_iff.mp z)⟩) (fun z=>?_) (by rw[← r1.length,← r2.length];exact hz);refine ⟨.ref s.heap.objs.size,_,I.laid (t':=s.toks) (o:=.tup (xs++ys)) (fun b ob q=>yal _ q) (yaa _) ?_,rfl,q2 (fun w=>z (r2.nil_iff.mpr w)) _ (I.hok.fresh (yaa _))⟩;exact ⟨by rw[yap];exact hz,_,r1.append r2,IsTup.new _ _⟩
end
end L2
namespace L2
open PySem PySem.Spec PyProof.Rows
def ixN (n:Nat)(i:Int):Option Nat:=if 0≤i then (if i < n then some i.toNat else none) else if -(n:Int)≤i then some (i+n).toNat else none
def atI {α:Type}(xs:List α)(i:Int):Option α:=(ixN xs.length i).bind fun j=>xs[j]?
theorem zmy {n:Nat}{i:Int}{j:Nat}(h:ixN n i=some j):seqIndex? i n=some j∧j < n∧-(n:Int)≤i∧i < n:=by
  unfold ixN at h;by_cases h0:0≤i
  · rw[if_pos h0]at h
    by_cases h1:i < n
    · rw[if_pos h1]at h
      have e:i.toNat=j:=yad h;exact ⟨by rw[seqIndex_of h0 h1,e],by omega,by omega,h1⟩
    · rw[if_neg h1]at h;cases h
  · rw[if_neg h0]at h
    by_cases h1:-(n:Int)≤i
    · rw[if_pos h1]at h
      have e:(i+n).toNat=j:=yad h;exact ⟨by rw[seqIndex_neg (by omega) h1,e],by omega,h1,by omega⟩
    · rw[if_neg h1]at h;cases h
theorem znd {α:Type}{xs:List α}{i:Int}{v:α}(h:atI xs i=some v):∃ j,seqIndex? i xs.length=some j∧xs[j]?=some v∧j < xs.length∧-(xs.length:Int)≤i∧i < xs.length:=by
  unfold atI at h;cases e:ixN xs.length i with
  | none=>rw[e]at h;cases h
  | some j=>
    rw[e]at h;obtain ⟨h1,h2,h3,h4⟩:=zmy e;exact ⟨j,h1,h,h2,h3,h4⟩
theorem ze8 {α:Type}{xs:List α}{j:Nat}{v:α}(h:xs[j]?=some v):atI xs (j:Int)=some v:=by
  have hj:j < xs.length:=(yam.mp h).1;have e:ixN xs.length (j:Int)=some j:=by
    unfold ixN;rw[if_pos (by omega),if_pos (by omega)];simp
  unfold atI;rw[e];exact h
def zqv (b:Expr):Prop:=∀ o i,subscripted b false o i=operate [o,i] (getItem o i)
def IxR (X:Cx)(r:R2):Prop:=
  ∀(value slice:Expr) (pins:List (Addr×Obj)) (s:Shared) (σ:St) (H:Hp) (x y:V) (v u:Value) (Q:VK),Inv X pins σ H s→RelV x v→RelV y u→r x y H Q→
    subscripted slice false v u=operate [v,u] (getItem v u)→wpAny (model X.prog X.w) X.A (subscriptTail value slice v u) (EP X pins σ Q) X.xe s
def MtR (X:Cx)(id:String)(r:V→List V→Hp→VK→Prop):Prop:=
  ∀(pins:List (Addr×Obj)) (s:Shared) (σ:St) (H:Hp) (x:V) (xs:List V) (v:Value) (us:List Value) (Q:VK),Inv X pins σ H s→RelV x v→Vals xs us→r x xs H Q→
    wpAny (model X.prog X.w) X.A (call (.builtin id) (v::us)) (EP X pins σ Q) X.xe s
section
variable {X:Cx}{a b:Expr}{ta tb:TE}{pos:Pos}
theorem zaO {r:R2}(hr:IxR X r)(ha:PE X a ta)(hb:PE X b tb)(hs:zqv b):PE X (.Subscript a b pos) (tOp r ta tb):=by
  intro pins s σ H Q I h;exact Subscript_ (binT ha hb I h fun v u s2 x y H2 I2 rx ry q=>hr a b pins s2 σ H2 x y v u Q I2 rx ry q (hs _ _))
def rIxL (K:Frag):R2:=fun x y H Q=>∃ p xs i v,x=.ref p∧y=.int i∧SqL K H p xs∧atI xs i=some v∧Q v H
def rIxT (K:Frag):R2:=fun x y H Q=>∃ p xs i v,x=.ref p∧y=.int i∧SqT K H p xs∧atI xs i=some v∧Q v H
theorem zbe:IxR X (rIxL X.K):=by
  intro value slice pins s σ H x y v u Q I rx ry h hs;obtain ⟨p,xs,i,z,rfl,rfl,hq,he,q⟩:=h;cases rx
  obtain ⟨t,rfl⟩:=ry;obtain ⟨its,r,pl,hz⟩:=I.list hq;obtain ⟨j,h1,h2,h3,h4,h5⟩:=znd he;obtain ⟨w,ew,rw'⟩:=r.get h2;have hl:=r.length;have hn:=zjX;have fin:EP X pins σ Q w s:=⟨z,H,I,rw',q⟩;by_cases h0:0≤i
  · have hj:i.toNat=j:=by
      rw[seqIndex_of h0 h5]at h1;exact yad h1
    exact item_listR pl.isList h0 (by omega) (by rw[hj];simpa using ew) fin hs
  · have hj:(i+(its.toArray.size:Int)).toNat=j:=by
      rw[seqIndex_neg (by omega) h4]at h1;rw[yaq,← hl];exact yad h1
    exact subscriptTail_builtinR (x:=w) pl.isList.typeIs slot_list_getitem.lookup
      (wpAny_getItem_list_neg (Q:=fun r s'=>r=w∧EP X pins σ Q r s') pl.isList (by omega) (by rw[yaq] <;> omega) (by omega) (by rw[hj];simpa using ew) ⟨rfl,fin⟩) hs
theorem za0:IxR X (rIxT X.K):=by
  intro value slice pins s σ H x y v u Q I rx ry h hs;obtain ⟨p,xs,i,z,rfl,rfl,hq,he,q⟩:=h;cases rx
  obtain ⟨t,rfl⟩:=ry;obtain ⟨its,r,pl,hz⟩:=I.tuple hq;obtain ⟨j,h1,h2,h3,h4,h5⟩:=znd he;obtain ⟨w,ew,rw'⟩:=r.get h2;have hl:=r.length;have hn:=zjX;have fin:EP X pins σ Q w s:=⟨z,H,I,rw',q⟩;exact subscriptTail_builtinR (x:=w) pl.typeIs slot_tuple_getitem.lookup
    (getItem_tuple (j:=j) (Q:=fun r s'=>r=w∧EP X pins σ Q r s') pl (by omega) (by omega) (by rw[yaq,← hl];exact h1) (by simpa using ew) ⟨rfl,fin⟩) hs
theorem zkE (its:List Value)(n j:Nat)(u:Value):Obj.mapSeq (·.setIfInBounds j u) { cls:=.type "list",data:=.seq its.toArray n }={ cls:=.type "list",data:=.seq (its.set j u).toArray n }:=by
  simp[Obj.mapSeq]
theorem Inv.lst {pins:List (Addr×Obj)}{σ:St}{H:Hp}{s:Shared}{p:Addr}{xs:List V}(I:Inv X pins σ H s)(h:H p=some (.lst xs)) :
    ∃(its:List Value) (n:Nat),Vals xs its∧s.heap.get? p=some { cls:=.type "list",data:=.seq its.toArray n }∧xs.length≤sizeLine:=by
  obtain ⟨z,its,n,r,e⟩:=I.hok p _ h;exact ⟨its,n,r,e,z⟩
theorem Inv.lstUpd {pins:List (Addr×Obj)}{σ:St}{H:Hp}{s:Shared}{p:Addr}{xs ys:List V}{its its':List Value}{n n':Nat}{f:Obj→Obj}(I:Inv X pins σ H s)(h:H p=some (.lst xs))
    (ho:s.heap.get? p=some { cls:=.type "list",data:=.seq its.toArray n }) (hf:f { cls:=.type "list",data:=.seq its.toArray n }={ cls:=.type "list",data:=.seq its'.toArray n' }) (r:Vals ys its') (hz:ys.length≤sizeLine) (t:Nat) :
    Inv X pins σ (upd H p (.lst ys)) { s with heap:=s.heap.update p f,toks:=t }:=by
  have e:(s.heap.update p f).get? p=some { cls:=.type "list",data:=.seq its'.toArray n' }:=by
    rw[Heap.get?_update_self f ho (by rw[hf] <;> rfl),hf]
  refine I.write (x:=p) (e:=p) (by rw[h];trivial) (.inl rfl) (fun b u hb q=>(ybt _ _ (Ne.symm hb)).trans q) ⟨_,e⟩ ?_;exact ⟨hz,its',n',r,e⟩
def zr4:V→V→V→Hp→(Hp→Prop)→Prop:=fun o i v H Q=>∃ p xs k j,o=.ref p∧i=.int k∧H p=some (.lst xs)∧ixN xs.length k=some j∧Q (upd H p (.lst (xs.set j v)))
theorem zfr:PSet X zr4:=by
  intro pins s σ H o i v ov iv u Q I ro ri rv h;obtain ⟨p,xs,k,j,rfl,rfl,hp,hj,q⟩:=h;cases ro
  obtain ⟨t,rfl⟩:=ri;obtain ⟨its,n,r,ho,hz⟩:=I.lst hp;obtain ⟨h1,h2,h3,h4⟩:=zmy hj;have hl:=r.length;have hn:=zjX;have I':Inv X pins σ (upd H p (.lst (xs.set j v))) { s with heap:=s.heap.update p (Obj.mapSeq (·.setIfInBounds j u)) }:=
    I.lstUpd hp ho (zkE its n j u) (r.set rv j) (by rw[ybU];exact hz) s.toks
  by_cases h0:0≤k
  · have hk:k.toNat=j:=by
      rw[seqIndex_of h0 h4]at h1;exact yad h1
    exact PySem.W.ki_setAt ho h0 (by omega) (by rw[yaq,← hl];exact h4) (by rw[hk];exact ⟨_,I',q⟩)
  · have hk:(k+(its.toArray.size:Int)).toNat=j:=by
      rw[seqIndex_neg (by omega) h3]at h1;rw[yaq,← hl];exact yad h1
    exact PySem.W.ki_setBack ho (by omega) (by rw[yaq,← hl];exact h3) (by omega) (by rw[hk];exact ⟨_,I',q⟩)
theorem zhU (lo hi:Option Int)(n:Nat):(sliceBounds lo hi none n).1=((HT.sIx n 0 lo:Nat):Int)∧(sliceBounds lo hi none n).2.1=((HT.sIx n n hi:Nat):Int)∧(sliceBounds lo hi none n).2.2=1:=by
  refine ⟨?_,?_,rfl⟩
  · cases lo with
    | none=>simp[sliceBounds,HT.sIx]
    | some i=>
      simp only[sliceBounds,HT.sIx,Option.getD_none,show (1:Int) > 0 by decide,if_true];by_cases h:i < 0
      · simp only[h,if_true] <;> omega
      · simp only[h,if_false] <;> omega
  · cases hi with
    | none=>simp[sliceBounds,HT.sIx]
    | some i=>
      simp only[sliceBounds,HT.sIx,Option.getD_none,show (1:Int) > 0 by decide,if_true];by_cases h:i < 0
      · simp only[h,if_true] <;> omega
      · simp only[h,if_false] <;> omega
theorem zg0 (its:List Value)(lo hi:Option Int):slicePick its.toArray lo hi none=((its.drop (HT.sIx its.length 0 lo)).take (HT.sIx its.length its.length hi - HT.sIx its.length 0 lo)).toArray:=by
  obtain ⟨h1,h2,h3⟩:=zhU lo hi its.toArray.size;unfold slicePick;rw[h1,h2,h3];simp only[sliceRange_one,pick_run,yaq] <;> rfl
def rSlL (K:Frag):V→Option Int→Option Int→Hp→VK→Prop:=fun x lo hi H Q=>∃ a xs,x=.ref a∧SqL K H a xs∧∀ p,H p=none→Q (.ref p) (upd H p (.lst (cutV xs lo hi)))
theorem zlD:SlR X (rSlL X.K):=by
  intro pins s σ H x v vl vu lo hi sl Q I rx hs pl pu h;obtain ⟨a,xs,rfl,hx,q⟩:=h;cases rx
  obtain ⟨its,r,ht,hz⟩:=I.list hx;have hlen:=r.length;refine ⟨"list",_,slot_list_getitem.lookup,ht.isList.typeIs,?_⟩;refine wpAny_getItem_list_slice ht.isList hs pl pu .none (by simp) ?_ (by rw[yaq] <;> omega)
  rw[zg0,← hlen];refine ⟨.ref s.heap.objs.size,_,I.laid (t':=s.toks) (o:=.lst (cutV xs lo hi)) (fun b ob q=>yal _ q) (yaa _) ?_,rfl,q _ (I.hok.fresh (yaa _))⟩;exact ⟨yaw (zgb xs lo hi) hz,_,0,(r.drop (HT.sIx xs.length 0 lo)).take (HT.sIx xs.length xs.length hi - HT.sIx xs.length 0 lo),yaB _ rfl⟩
def zeZ:V→Bool
  | .non=>true
  | .bl _=>true
  | .int _=>true
  | .str _=>true
  | _=>false
def eqV:V→V→Bool
  | .non,.non=>true
  | .bl a,.bl b=>a == b
  | .bl a,.int b=>(if a then 1 else 0) == b
  | .int a,.bl b=>a == (if b then 1 else 0)
  | .int a,.int b=>a == b
  | .str a,.str b=>a == b
  | _,_=>false
theorem zrL {A:Around}{s:Shared}{y x:V}{u v:Value}(ry:RelV y u)(rx:RelV x v)(fy:zeZ y=true)(fx:zeZ x=true):SeqAt.EqAt A s u v (eqV y x):=by
  cases y with
  | non=>
    cases ry
    cases x with
    | non=>cases rx;exact SeqAt.EqAt.same _
    | bl b=>cases rx;exact SeqAt.EqAt.none_bool b
    | int b=>obtain ⟨t,rfl⟩:=rx;exact SeqAt.EqAt.none_int b t
    | str b=>obtain ⟨t,rfl⟩:=rx;exact SeqAt.EqAt.none_str b t
    | _=>exact absurd (show false=true from fx) yay
  | bl a=>
    cases ry
    cases x with
    | non=>cases rx;exact SeqAt.EqAt.bool_none a
    | bl b=>cases rx;exact SeqAt.EqAt.bool_bool a b
    | int b=>obtain ⟨t,rfl⟩:=rx;exact SeqAt.EqAt.bool_int a b t
    | str b=>obtain ⟨t,rfl⟩:=rx;exact SeqAt.EqAt.bool_str a b t
    | _=>exact absurd (show false=true from fx) yay
  | int a=>
    obtain ⟨t',rfl⟩:=ry;cases x with
    | non=>cases rx;exact SeqAt.EqAt.int_none a t'
    | bl b=>cases rx;exact SeqAt.EqAt.int_bool a t' b
    | int b=>obtain ⟨t,rfl⟩:=rx;exact SeqAt.EqAt.int_int a t' b t
    | str b=>obtain ⟨t,rfl⟩:=rx;exact SeqAt.EqAt.int_str a t' b t
    | _=>exact absurd (show false=true from fx) yay
  | str a=>
    obtain ⟨t',rfl⟩:=ry;cases x with
    | non=>cases rx;exact SeqAt.EqAt.str_none a t'
    | bl b=>cases rx;exact SeqAt.EqAt.str_bool a t' b
    | int b=>obtain ⟨t,rfl⟩:=rx;exact SeqAt.EqAt.str_int a t' b t
    | str b=>obtain ⟨t,rfl⟩:=rx;exact SeqAt.EqAt.str_str a t' b t
    | _=>exact absurd (show false=true from fx) yay
  | _=>exact absurd (show false=true from fy) yay
def eqU (x:V)(u:Value):Bool:=match u with
  | .none=>eqV .non x
  | .bool b=>eqV (.bl b) x
  | .int i _=>eqV (.int i) x
  | .str z _=>eqV (.str z) x
  | _=>false
theorem zpe {x y:V}{u:Value}(r:RelV y u)(f:zeZ y=true):eqU x u=eqV y x:=by
  cases y with
  | non=>cases r;rfl
  | bl b=>cases r;rfl
  | int i=>obtain ⟨t,rfl⟩:=r;rfl
  | str z=>obtain ⟨t,rfl⟩:=r;rfl
  | _=>exact absurd (show false=true from f) yay
theorem zgj {x:V}:∀{xs:List V} {us:List Value},Vals xs us→xs.all zeZ=true→us.any (eqU x)=xs.any fun y=>eqV y x
  | _,_,.nil,_=>rfl
  | y::xs,u::us,.cons r t,f=>by
    rw[ybV,ybs]at f;rw[yba,yba,zpe r f.1,zgj t f.2]
theorem zey {A:Around}{s:Shared}{x:V}{v:Value}(rx:RelV x v)(fx:zeZ x=true):∀{xs:List V} {us:List Value},Vals xs us→xs.all zeZ=true→∀ u∈us,SeqAt.EqAt A s u v (eqU x u)
  | _,_,.nil,_=>fun u hu=>by cases hu
  | y::xs,u::us,.cons r t,f=>fun u' hu=>by
    rw[ybV,ybs]at f;rcases yak.mp hu with rfl | hu
    · rw[zpe r f.1];exact zrL r rx f.1 fx
    · exact zey rx fx t f.2 u' hu
def inV (x:V)(xs:List V):Bool:=xs.any fun y=>eqV y x
def rIn (K:Frag)(neg:Bool):R2:=fun x y H Q=>∃ p xs,y=.ref p∧(SqL K H p xs∨SqT K H p xs)∧zeZ x=true∧xs.all zeZ=true∧Q (.bl (if neg then !inV x xs else inV x xs)) H
theorem zh2:OpR X (compareOp .In) (rIn X.K false):=by
  intro pins s σ H x y v u Q I rx ry h;obtain ⟨p,xs,rfl,hq,fx,fs,q⟩:=h;cases ry
  rcases hq with hq | hq
  · obtain ⟨its,r,pl,hz⟩:=I.list hq
    refine SeqAt.in_listAt (eqU x) pl.isList (fun w hw=>zey rx fx r fs w (by simpa using hw)) ⟨.bl _,H,I,rfl,?_⟩;rw[show its.toArray.any (eqU x)=its.any (eqU x) by simp,zgj r fs];exact q
  · obtain ⟨its,r,pl,hz⟩:=I.tuple hq
    refine SeqAt.in_tupleAt (eqU x) pl (fun w hw=>zey rx fx r fs w (by simpa using hw)) ⟨.bl _,H,I,rfl,?_⟩;rw[show its.toArray.any (eqU x)=its.any (eqU x) by simp,zgj r fs];exact q
theorem zbZ:OpR X (compareOp .NotIn) (rIn X.K true):=by
  intro pins s σ H x y v u Q I rx ry h;obtain ⟨p,xs,rfl,hq,fx,fs,q⟩:=h;cases ry
  rcases hq with hq | hq
  · obtain ⟨its,r,pl,hz⟩:=I.list hq
    refine SeqAt.notIn_listAt (eqU x) pl.isList (fun w hw=>zey rx fx r fs w (by simpa using hw)) ⟨.bl _,H,I,rfl,?_⟩;rw[show its.toArray.any (eqU x)=its.any (eqU x) by simp,zgj r fs];exact q
  · obtain ⟨its,r,pl,hz⟩:=I.tuple hq
    refine SeqAt.notIn_tupleAt (eqU x) pl (fun w hw=>zey rx fx r fs w (by simpa using hw)) ⟨.bl _,H,I,rfl,?_⟩;rw[show its.toArray.any (eqU x)=its.any (eqU x) by simp,zgj r fs];exact q
theorem zan:zb1 X (.builtin "len") (fun xs H Q=>∃ p ys,xs=[.ref p]∧(SqL X.K H p ys∨SqT X.K H p ys)∧Q (.int ys.length) H):=by
  intro pins s σ H xs us Q I r h;obtain ⟨p,ys,rfl,hq,q⟩:=h;obtain ⟨u,rfl,rx⟩:=zfm r;cases rx
  have hn:=zjX;rcases hq with hq | hq
  · obtain ⟨its,r',pl,hz⟩:=I.list hq
    have hlen:=r'.length;exact Calls.call_len_list pl.isList (by simp only[yaq] <;> omega) ⟨.int ys.length,H,I.tok _,⟨s.toks+1,by rw[yaq,hlen]⟩,q⟩
  · obtain ⟨its,r',pl,hz⟩:=I.tuple hq
    have hlen:=r'.length;exact len_tuple pl (by simp only[yaq] <;> omega) ⟨.int ys.length,H,I.tok _,⟨s.toks+1,by rw[yaq,hlen]⟩,q⟩
theorem zb1.or {f:Value}{r r':List V→Hp→VK→Prop}(h:zb1 X f r)(h':zb1 X f r'):zb1 X f (fun xs H Q=>r xs H Q∨r' xs H Q):=by
  intro pins s σ H xs us Q I rs q;rcases q with q | q
  · exact h pins s σ H xs us Q I rs q
  · exact h' pins s σ H xs us Q I rs q
theorem zfk:zb1 X (.type "list") (fun xs H Q=>∃ p ys,xs=[.ref p]∧(SqL X.K H p ys∨SqT X.K H p ys)∧∀ l,H l=none→Q (.ref l) (upd H l (.lst ys))):=by
  intro pins s σ H xs us Q I r h;obtain ⟨p,ys,rfl,hq,q⟩:=h;obtain ⟨u,rfl,rx⟩:=zfm r;cases rx
  have fin:∀(its:List Value),Vals ys its→ys.length≤sizeLine→∀(h':Heap) (c':Nat),(∀ b o',s.heap.get? b=some o'→h'.get? b=some o')→
      h'.get? s.heap.objs.size=some { cls:=.type "list",dict:=none,data:=.seq its.toArray c',slots:=#[] }→EP X pins σ Q (.ref s.heap.objs.size) { s with heap:=h' }:=fun its r' hz h' c' kp e=>
    ⟨.ref s.heap.objs.size,_,I.laid (t':=s.toks) kp (yaa _) (show zbl X.prog X.w _ h' _ (.lst ys) from ⟨hz,its,c',r',e⟩),rfl,q _ (I.hok.fresh (yaa _))⟩
  rcases hq with hq | hq
  · obtain ⟨its,r',pl,hz⟩:=I.list hq
    have hlen:=r'.length;obtain ⟨o,ho,hc,n,hd⟩:=pl.isList;exact call_list_seq p (.inl rfl) ho hc hd (fun h' c' kp e=>fin its r' hz h' c' kp e) (by simp only[yaq] <;> omega)
  · obtain ⟨its,r',pl,hz⟩:=I.tuple hq
    have hlen:=r'.length;obtain ⟨o,ho,hc,n,hd⟩:=pl;exact call_list_seq p (.inr rfl) ho hc hd (fun h' c' kp e=>fin its r' hz h' c' kp e) (by simp only[yaq] <;> omega)
theorem zbk:zb1 X (.type "tuple") (fun xs H Q=>∃ p ys,xs=[.ref p]∧((SqL X.K H p ys∧∀ l,H l=none→Q (.ref l) (upd H l (.tup ys)))∨(SqT X.K H p ys∧Q (.ref p) H))):=by
  intro pins s σ H xs us Q I r h;obtain ⟨p,ys,rfl,h⟩:=h;obtain ⟨u,rfl,rx⟩:=zfm r;cases rx
  rcases h with ⟨hq,q⟩ | ⟨hq,q⟩
  · obtain ⟨its,r',pl,hz⟩:=I.list hq
    have hlen:=r'.length;refine call_tuple_list pl.isList (fun h' kp=>?_) (by simp only[yaq] <;> omega)
    have I1:Inv X pins σ H { s with heap:=h' }:=I.kept (t':=s.toks) kp;have I2:Inv X pins σ (upd H h'.objs.size (.tup ys)) { s with heap:=h'.push { cls:=.type "tuple",data:=.seq its.toArray } }:=
      I1.laid (t':=s.toks) (fun b o e=>yal _ e) (yaa _) (show zbl X.prog X.w _ _ _ (.tup ys) from ⟨hz,its,r',IsTup.new _ _⟩)
    exact ⟨.ref h'.objs.size,_,I2,rfl,q _ (I1.hok.fresh (yaa _))⟩
  · obtain ⟨its,r',pl,hz⟩:=I.tuple hq
    exact call_tuple_same pl ⟨.ref p,H,I,rfl,q⟩
def tyV (K:Frag)(T:String)(x:V)(H:Hp):Prop:=match x with
  | .str _=>T = "str"
  | .int _=>T = "int"
  | .ref p=>(T = "list"∧∃ xs,SqL K H p xs)∨(T = "tuple"∧∃ o,K.lookup p=some o∧o.cls=.type "tuple"∧o.dict=none)∨
      (T = "dict"∧((∃ kvs,H p=some (.dK kvs))∨∃ kvs,H p=some (.dT kvs)))∨(T = "set"∧∃ S n,H p=some (.set S n))
  | _=>False
theorem zoW {pins:List (Addr×Obj)}{σ:St}{H:Hp}{s:Shared}{T:String}{x:V}{v:Value}(I:Inv X pins σ H s)(r:RelV x v)(ty:tyV X.K T x H) :
    s.TypeIs v T∧∀ a,v=.ref a→∃ ob,s.heap.get? a=some ob∧ob.dict=none:=by
  cases x with
  | str z=>
    obtain ⟨t,rfl⟩:=r;cases (show T = "str" from ty)
    exact ⟨typeIs_str s z t,fun _ e=>nomatch e⟩
  | int i=>
    obtain ⟨t,rfl⟩:=r;cases (show T = "int" from ty)
    exact ⟨typeIs_int s i t,fun _ e=>nomatch e⟩
  | ref p=>
    cases r
    rcases ty with ⟨rfl,xs,hq⟩ | ⟨rfl,o,hk,hc,hd⟩ | ⟨rfl,hk⟩ | ⟨rfl,S,n,hk⟩
    · obtain ⟨its,_,pl,_⟩:=I.list hq
      refine ⟨pl.isList.typeIs,fun a e=>?_⟩;cases e
      obtain ⟨o,n,e,c,hd,_⟩:=pl;exact ⟨o,e,hd⟩
    · refine ⟨⟨o,I.kIn p o hk,hc⟩,fun a e=>?_⟩
      cases e
      exact ⟨o,I.kIn _ o hk,hd⟩
    · have z:∃ o,s.heap.get? p=some o∧o.ExactDict:=by
        rcases hk with ⟨kvs,hk⟩ | ⟨kvs,hk⟩
        · obtain ⟨_,_,_,_,o,_,_,e,ex,_⟩:=I.hok p _ hk
          exact ⟨o,e,ex⟩
        · obtain ⟨_,_,_,_,o,_,_,e,ex,_⟩:=I.hok p _ hk
          exact ⟨o,e,ex⟩
      obtain ⟨o,e,ex⟩:=z;refine ⟨⟨o,e,ex.1⟩,fun a e2=>?_⟩;cases e2
      exact ⟨o,e,ex.2.1⟩
    · obtain ⟨o,_,_,_,e,ex,_⟩:=I.hok p _ hk
      refine ⟨⟨o,e,ex.1⟩,fun a e2=>?_⟩;cases e2
      exact ⟨o,e,ex.2.1⟩
  | _=>exact False.elim ty
def tBM0 (K:Frag)(T:String)(r:V→List V→Hp→VK→Prop)(to:TE):TE:=fun σ H Q=>to σ H fun x H1=>tyV K T x H1∧r x [] H1 Q
def tBM (K:Frag)(T:String)(r:V→List V→Hp→VK→Prop)(to:TE)(t:TA):TE:=fun σ H Q=>to σ H fun x H1=>tyV K T x H1∧t σ H1 fun xs H2=>r x xs H2 Q
variable {o e:Expr}{es:List Expr}{to:TE}{t:TA}{name:Str}{apos cpos:Pos}{T id:String}{r:V→List V→Hp→VK→Prop}
theorem zq5 (pa:PlainAttrs T)(slot:Slot T name id)(hty:typeOf (.builtin id)=pure (.type "method_descriptor"))(hm:MtR X id r)(ho:PE X o to)
    (hbase:attributeBase o name X.env (eval o X.env)=eval o X.env:=by rfl) (hline:(apos.endLine == cpos.line)=true:=by rfl):PE X (.Call (.Attribute o name apos) [] [] cpos) (tBM0 X.K T r to):=by
  intro pins s σ H Q I h;refine wpAny_Call_method0_late hbase hline (thn (ho pins s σ H _ I h) fun v s1 zq0=>?_);obtain ⟨x,H1,I1,r1,ty,q1⟩:=zq0;obtain ⟨h1,h2⟩:=zoW I1 r1 ty;exact ⟨T,id,pa,slot,hty,h1,h2,Calls.callWith_builtin rfl (PySem.evalArgs_none (hm pins s1 σ H1 x [] v [] Q I1 r1 .nil q1))⟩
theorem zfn (pa:PlainAttrs T)(slot:Slot T name id)(hty:typeOf (.builtin id)=pure (.type "method_descriptor"))(hm:MtR X id r)(ho:PE X o to)(ha:PA X (e::es) t)
    (hbase:attributeBase o name X.env (eval o X.env)=eval o X.env:=by rfl)
    (hfew:((backTo cpos (starEach (e::es) X.env)).all (fun x=>!x.1) && (backToKw cpos (keywordEach [] X.env)).all (fun x=>x.1.isSome)
      && decide ((e::es).length+([]:List Keyword).length+(if ([]:List Keyword).isEmpty then 0 else 1) < 30))=true:=by rfl)
    (hline:(apos.endLine == cpos.line)=true:=by rfl) (hs:starEach (e::es) X.env=(false,eval e X.env)::starEach es X.env:=by rfl) (hplain:(backTo cpos (starEach es X.env)).any (·.1)=false:=by rfl) :
    PE X (.Call (.Attribute o name apos) (e::es) [] cpos) (tBM X.K T r to t):=by
  intro pins s σ H Q I h;refine wpAny_Call_method_late hbase hfew hline rfl (thn (ho pins s σ H _ I h) fun v s1 zq0=>?_);obtain ⟨x,H1,I1,r1,ty,q1⟩:=zq0;obtain ⟨h1,h2⟩:=zoW I1 r1 ty;refine ⟨T,id,pa,slot,hty,h1,h2,?_⟩;have hA:=ha cpos pins s1 σ H1 _ I1 q1;rw[hs]at hA ⊢;refine Calls.callWith_builtin (by show (false || (backTo cpos (starEach es X.env)).any (·.1))=false;rw[hplain] <;> rfl) (Calls.evalArgs_plain ?_)
  exact thn hA fun us s2 zq0=>(by obtain ⟨vs,H2,I2,r2,q2⟩:=zq0;exact hm pins s2 σ H2 x vs v us Q I2 r1 r2 q2)
end
end L2
namespace L2
open PySem PySem.Spec PyProof.Rows
def MtM (X:Cx)(id:String)(r:V→List V→Hp→VK→Prop):Prop:=
  ∀(pins:List (Addr×Obj)) (s:Shared) (σ:St) (H:Hp) (x:V) (xs:List V) (v:Value) (us:List Value) (Q:VK),Inv X pins σ H s→RelV x v→Vals xs us→r x xs H Q→
    wpAny (model X.prog X.w) X.A (call (.builtin id) (v::us)) (EP X pins σ Q) X.xe s
theorem Vals.one:∀{x:V} {us:List Value},Vals [x] us→∃ u,us=[u]∧RelV x u
  | _,_,.cons r .nil=>⟨_,rfl,r⟩
section
variable {X:Cx}{pins:List (Addr×Obj)}{σ:St}{H:Hp}{s:Shared}{l b:Addr}{xs ys zs:List V}
theorem Inv.lset {its its':List Value}{n:Nat}{f:Array Value→Array Value}{t':Nat}(I:Inv X pins σ H s)(hH:H l=some (.lst xs))
    (e:s.heap.get? l=some { cls:=.type "list",data:=.seq its.toArray n }) (hf:f its.toArray=its'.toArray) (hv:Vals ys its') (hz:ys.length≤sizeLine) :
    Inv X pins σ (upd H l (.lst ys)) { s with heap:=s.heap.update l (Obj.mapSeq f),toks:=t' }:=by
  have q:=PySem.IsL.update e f;rw[hf]at q;refine I.write (x:=l) (e:=l) (by rw[hH];exact trivial) (.inl rfl) (fun b' u hb hu=>(ybt s.heap (Obj.mapSeq f) (Ne.symm hb)).trans hu) ⟨_,q⟩ ?_;exact ⟨hz,its',_,hv,q⟩
theorem Inv.lnew {its:List Value}{t':Nat}(I:Inv X pins σ H s)(hv:Vals ys its)(hz:ys.length≤sizeLine) :
    Inv X pins σ (upd H s.heap.objs.size (.lst ys)) { s with heap:=s.heap.push { cls:=.type "list",data:=.seq its.toArray },toks:=t' }:=
  I.laid (fun _ _ q=>yal _ q) (yaa _) ⟨hz,its,0,hv,yaB _ rfl⟩
theorem Inv.fresh (I:Inv X pins σ H s):H s.heap.objs.size=none:=I.hok.fresh (yaa _)
theorem Inv.lstM (I:Inv X pins σ H s)(hH:H l=some (.lst xs)):xs.length≤sizeLine∧∃(its:List Value) (n:Nat),Vals xs its∧xs.length=its.length∧s.heap.get? l=some { cls:=.type "list",data:=.seq its.toArray n }:=by
  obtain ⟨z,its,n,r,e⟩:=I.hok l _ hH;exact ⟨z,its,n,r,r.length,e⟩
theorem zn9 {n:Nat}(h:n≤sizeLine):Builtin.List.listTooLong n=false:=by
  unfold Builtin.List.listTooLong;exact yah (by omega)
end
section
variable {X:Cx}
def zpz:V→List V→Hp→VK→Prop:=fun x vs H Q=>∃ l xs y,x=.ref l∧vs=[y]∧H l=some (.lst xs)∧xs.length < sizeLine∧Q .non (upd H l (.lst (xs++[y])))
theorem zbo:MtM X "list.append" zpz:=by
  intro pins s σ H x vs v us Q I rx rv h;obtain ⟨l,xs,y,rfl,rfl,hH,hz,q⟩:=h;cases rx
  obtain ⟨u,rfl,ru⟩:=rv.one;obtain ⟨z,its,n,r,hl,e⟩:=I.lstM hH;refine call_meets F.slot_list_append ⟨_,e,rfl⟩ F.entry_list_append (F.args_list_append_2 _ _) (PySem.list_append l its.toArray n u (by rw[yaq];omega)) ⟨e,?_⟩;refine ⟨.non,_,I.lset (its':=its++[u]) hH e (by simp) (r.append (.cons ru .nil)) ?_,rfl,q⟩;rw[yap,ybf];omega
def zpw:V→List V→Hp→VK→Prop:=fun x vs H Q=>∃ l b xs zs,x=.ref l∧vs=[.ref b]∧H l=some (.lst xs)∧H b=some (.lst zs)∧xs.length+zs.length≤sizeLine∧Q .non (upd H l (.lst (xs++zs)))
theorem zmb:MtM X "list.extend" zpw:=by
  intro pins s σ H x vs v us Q I rx rv h;obtain ⟨l,b,xs,zs,rfl,rfl,hH,hB,hz,q⟩:=h;cases rx
  obtain ⟨u,rfl,ru⟩:=rv.one;cases ru
  obtain ⟨z,its,n,r,hl,e⟩:=I.lstM hH;obtain ⟨z2,its2,n2,r2,hl2,e2⟩:=I.lstM hB;have hsz:its.toArray.size+its2.toArray.size≤sizeLine:=by rw[yaq,yaq];omega
  have hlong:¬ (!its.toArray.isEmpty && Builtin.List.listTooLong (its.toArray.size+its2.toArray.size))=true:=by
    rw[zn9 hsz,Bool.and_false];exact yay
  refine call_meets F.slot_list_extend ⟨_,e,rfl⟩ F.entry_list_extend (F.args_list_extend_2 _ _)
    (AutoSeq1.list_extend_list_list_0 l its.toArray n b its2.toArray n2 hlong (by rw[yaq];omega) (by omega)) ⟨e,e2,?_⟩
  refine ⟨.non,_,I.lset (its':=its++its2) hH e (by simp) (r.append r2) ?_,rfl,q⟩;rw[yap];omega
def rCat:R2:=fun x y H Q=>∃ l b xs zs,x=.ref l∧y=.ref b∧H l=some (.lst xs)∧H b=some (.lst zs)∧xs.length+zs.length≤sizeLine∧∀ p,H p=none→Q (.ref p) (upd H p (.lst (xs++zs)))
theorem zrb:OpR X (binaryOp .Add) rCat:=by
  intro pins s σ H x y v u Q I rx ry h;obtain ⟨l,b,xs,zs,rfl,rfl,hH,hB,hz,q⟩:=h;cases rx
  cases ry
  obtain ⟨z,its,n,r,hl,e⟩:=I.lstM hH;obtain ⟨z2,its2,n2,r2,hl2,e2⟩:=I.lstM hB;refine PySem.P.add_list e e2 ?_ (by rw[yaq,yaq];omega);have ea:its.toArray++its2.toArray=(its++its2).toArray:=by simp
  rw[ea];exact ⟨.ref _,_,I.lnew (t':=s.toks) (r.append r2) (by rw[yap];omega),rfl,q _ I.fresh⟩
end
end L2
namespace L2
open PySem PySem.Spec PyProof.Rows
section
variable {κ:Type}[DecidableEq κ]
def valV (kvs:List (κ×V))(k:κ):Option V:=(kvs.find? fun kv=>decide (kv.1=k)).map (·.2)
def putK (kvs:List (κ×V))(k:κ)(v:V):List (κ×V):=
  if (kvs.any fun kv=>decide (kv.1=k))=true then kvs.map (fun kv=>if kv.1=k then (kv.1,v) else kv) else kvs++[(k,v)]
theorem zcv {p:κ×V}{r:List (κ×V)}{k:κ}(e:p.1=k):valV (p::r) k=some p.2:=by simp[valV,ybC,e]
theorem zbr {p:κ×V}{r:List (κ×V)}{k:κ}(e:¬ p.1=k):valV (p::r) k=valV r k:=by simp[valV,ybC,e]
theorem zgQ (k:κ):∀ kvs:List (κ×V),(kvs.any fun kv=>decide (kv.1=k))=(valV kvs k).isSome
  | []=>rfl
  | p::r=>by
    rw[yba];by_cases e:p.1=k
    · simp only[zcv e,yae e,Bool.true_or,Option.isSome_some]
    · rw[zbr e,yah e,Bool.false_or];exact zgQ k r
theorem zc5 (kvs:List (κ×V))(k:κ)(v:V):(putK kvs k v).length≤kvs.length+1:=by
  unfold putK;split
  · rw[yab];omega
  · rw[yap,yaI,ybu];omega
theorem zeo {kvs:List (κ×V)}{k:κ}(v:V)(h:valV kvs k=none):putK kvs k v=kvs++[(k,v)]:=by
  unfold putK;rw[zgQ,h];exact if_neg (by decide)
theorem RelO.isSome_eq {o:Option V}{u:Option Value}(r:RelO o u):o.isSome=u.isSome:=by
  cases o with
  | none=>cases u with
    | none=>rfl
    | some _=>exact (show False from r).elim
  | some _=>cases u with
    | none=>exact (show False from r).elim
    | some _=>rfl
theorem KV.val {kvs:List (κ×V)}{vs:List (κ×Value)}(r:KV kvs vs)(k:κ):RelO (valV kvs k) (valueAt vs k):=by
  unfold KV at r
  induction r with
  | nil=>exact True.intro
  | @cons p q ps qs h t ih=>
    obtain ⟨h1,h2⟩:=h;by_cases e:p.1=k
    · have e':q.1=k:=h1.symm.trans e
      have b:valueAt (q::qs) k=some q.2:=by simp[valueAt,ybC,e']
      rw[zcv e,b];exact h2
    · have e':¬ q.1=k:=fun z=>e (h1.trans z)
      have b:valueAt (q::qs) k=valueAt qs k:=by simp[valueAt,ybC,e']
      rw[zbr e,b];exact ih
theorem KV.any {kvs:List (κ×V)}{vs:List (κ×Value)}(r:KV kvs vs)(k:κ):(kvs.any fun kv=>decide (kv.1=k))=vs.any fun kv=>decide (kv.1=k):=by
  unfold KV at r
  induction r with
  | nil=>rfl
  | cons h t ih=>rw[yba,yba,ih,h.1]
theorem KV.repl {kvs:List (κ×V)}{vs:List (κ×Value)}(r:KV kvs vs)(k:κ){y:V}{u:Value}(ry:RelV y u) :
    KV (kvs.map fun kv=>if kv.1=k then (kv.1,y) else kv) (vs.map fun kv=>if kv.1=k then (kv.1,u) else kv):=by
  unfold KV at r ⊢
  induction r with
  | nil=>exact .nil
  | @cons p q ps qs h t ih=>
    rw[yar,yar];refine .cons ?_ ih;obtain ⟨h1,h2⟩:=h;by_cases e:p.1=k
    · rw[if_pos e,if_pos (h1.symm.trans e)];exact ⟨h1,ry⟩
    · rw[if_neg e,if_neg (fun z=>e (h1.trans z))];exact ⟨h1,h2⟩
theorem KV.put {kvs:List (κ×V)}{vs:List (κ×Value)}(r:KV kvs vs)(k:κ){y:V}{u:Value}(ry:RelV y u):KV (putK kvs k y) (stored vs k u):=by
  unfold putK stored;rw[r.any k];by_cases e:(vs.any fun kv=>decide (kv.1=k))=true
  · rw[if_pos e,if_pos e];exact r.repl k ry
  · rw[if_neg e,if_neg e];exact Paired.snoc r ⟨rfl,ry⟩
theorem KV.length {kvs:List (κ×V)}{vs:List (κ×Value)}(r:KV kvs vs):kvs.length=vs.length:=Paired.length r
end
theorem zmw {P:Program}{w:World}{k:Key}{u:Value}(r:RelV (kV k) u):(za6 P w).is k u=true:=by
  cases k with
  | inl i=>obtain ⟨t,e⟩:=(show ∃ t,u=Value.int i t from r);subst e;exact ziT P w i t
  | inr x=>obtain ⟨t,e⟩:=(show ∃ t,u=Value.str x t from r);subst e;exact ziS P w x t
theorem zh8 {P:Program}{w:World}:∀{ks:List Key} {us:List Value},Vals (ks.map kV) us→ItemsAre (za6 P w) ks us
  | [],_,r=>by rw[ybW]at r;cases r;exact .nil
  | k::ks,_,r=>by
    rw[yar]at r;cases r with
    | cons h t=>exact .cons (zmw h) (zh8 t)
abbrev KT (H:Hp):List (List Key×V)→List (List Key×Addr×Value)→Prop:=Paired fun p q=>p.1=q.1∧H q.2.1=some (.tup (p.1.map kV))∧RelV p.2 q.2.2
theorem KT.val {H:Hp}{kvs:List (List Key×V)}{xs:List (List Key×Addr×Value)}(r:KT H kvs xs)(k:List Key):RelO (valV kvs k) ((atKey xs k).map (·.2)):=by
  induction r with
  | nil=>exact True.intro
  | @cons p q ps qs h t ih=>
    obtain ⟨h1,_,h2⟩:=h;by_cases e:p.1=k
    · have e':q.1=k:=h1.symm.trans e
      have b:atKey (q::qs) k=some q.2:=by simp[atKey,ybC,e']
      rw[zcv e,b];exact h2
    · have e':¬ q.1=k:=fun z=>e (h1.trans z)
      have b:atKey (q::qs) k=atKey qs k:=by simp[atKey,ybC,e']
      rw[zbr e,b];exact ih
theorem KT.repl {H:Hp}{kvs:List (List Key×V)}{xs:List (List Key×Addr×Value)}(r:KT H kvs xs)(k:List Key){y:V}{u:Value}(ry:RelV y u) :
    KT H (kvs.map fun kv=>if kv.1=k then (kv.1,y) else kv) (xs.map (putAt k u)):=by
  induction r with
  | nil=>exact .nil
  | @cons p q ps qs h t ih=>
    rw[yar,yar];refine .cons ?_ ih;obtain ⟨h1,h2,h3⟩:=h;unfold putAt;by_cases e:p.1=k
    · rw[if_pos e,if_pos (h1.symm.trans e)];exact ⟨h1,h2,ry⟩
    · rw[if_neg e,if_neg (fun z=>e (h1.trans z))];exact ⟨h1,h2,h3⟩
theorem KT.put {H:Hp}{kvs:List (List Key×V)}{xs:List (List Key×Addr×Value)}(r:KT H kvs xs)(k:List Key){b:Addr}{y:V}{u:Value}(hb:H b=some (.tup (k.map kV)))(ry:RelV y u) :
    KT H (putK kvs k y) (storedH xs k b u):=by
  have e:(kvs.any fun kv=>decide (kv.1=k))=(atKey xs k).isSome:=by
    rw[zgQ,(r.val k).isSome_eq,Option.isSome_map]
  unfold putK storedH;rw[e];by_cases q:(atKey xs k).isSome=true
  · rw[if_pos q,if_pos q];exact r.repl k ry
  · rw[if_neg q,if_neg q];exact Paired.snoc r ⟨rfl,hb,ry⟩
theorem KT.keeps {H H':Hp}{kvs:List (List Key×V)}{xs:List (List Key×Addr×Value)}(r:KT H kvs xs)(ht:∀ b ys,H b=some (.tup ys)→H' b=some (.tup ys)):KT H' kvs xs:=
  Paired.mapP r fun _ _ z=>⟨z.1,ht _ _ z.2.1,z.2.2⟩
section
variable {P:Program}{w:World}{H:Hp}{h:Heap}{a:Addr}
theorem zqS {u:HO}(ok:HOk P w H h)(e:Rd H a u):zbl P w H h a u:=e.ok ok
theorem zox {kvs:List (Key×V)}(ok:HOk P w H h)(e:Rd H a (.dK kvs)):kvs.length≤sizeLine∧(a == sysModules)=false∧∃ vs,KV kvs vs∧h.DictOf (za6 P w) a vs:=
  show zbl P w H h a (.dK kvs) from zqS ok e
theorem zqj {kvs:List (Key×V)}(ok:HOk P w H h)(e:H a=some (.dK kvs)):kvs.length≤sizeLine∧(a == sysModules)=false∧∃ vs,KV kvs vs∧h.DictOf (za6 P w) a vs:=zox ok (.inl e)
theorem zj1 {ks:List Key}(ok:HOk P w H h)(e:H a=some (.tup (ks.map kV))):(tupleKind (za6 P w)).is h ks a:=by
  obtain ⟨_,its,r,o,h1,h2,n,h3⟩:=(show zbl P w H h a (.tup (ks.map kV)) from ok a _ e);exact ⟨o,its.toArray,n,h1,h2,h3,by simpa using zh8 r⟩
theorem zou {kvs:List (List Key×V)}(ok:HOk P w H h)(e:Rd H a (.dT kvs)):kvs.length≤sizeLine∧(a == sysModules)=false∧
    ∃ xs,KT H kvs xs∧h.DictOfH (tupleKind (za6 P w)) a xs:=by
  obtain ⟨z,y,xs,r,o,es,ep,h1,h2,h3,h4,h5⟩:=(show zbl P w H h a (.dT kvs) from zqS ok e);refine ⟨z,y,xs,r,o,es,ep,h1,h2,h3,h4,fun x hx=>?_,h5⟩;have all:∀{l:List (List Key×V)} {m:List (List Key×Addr×Value)},KT H l m→∀ x∈m,(tupleKind (za6 P w)).is h x.1 x.2.1:=by
    intro l m q
    induction q with
    | nil=>intro x hx;exact nomatch hx
    | @cons p q ps qs hq t ih=>
      intro x hx;rcases yak.mp hx with e | hx
      · subst e
        exact zj1 ok (by rw[← hq.1];exact hq.2.1)
      · exact ih x hx
  exact all r x hx
theorem zsd {kvs:List (List Key×V)}(ok:HOk P w H h)(e:H a=some (.dT kvs)):kvs.length≤sizeLine∧(a == sysModules)=false∧
    ∃ xs,KT H kvs xs∧h.DictOfH (tupleKind (za6 P w)) a xs:=zou ok (.inl e)
end
def DGet (H:Hp)(a:Addr)(y:V)(r:Option V):Prop:=
  (∃ kvs k,Rd H a (.dK kvs)∧y=kV k∧r=valV kvs k)∨∃ kvs k b,Rd H a (.dT kvs)∧y=.ref b∧H b=some (.tup (k.map kV))∧r=valV kvs k
def DPut (H:Hp)(a:Addr)(y v:V)(H':Hp):Prop:=
  (∃ kvs k,H a=some (.dK kvs)∧y=kV k∧kvs.length < sizeLine∧H'=upd H a (.dK (putK kvs k v)))∨
  ∃ kvs k b,H a=some (.dT kvs)∧y=.ref b∧H b=some (.tup (k.map kV))∧kvs.length < sizeLine∧H'=upd H a (.dT (putK kvs k v))
theorem DGet.k {H:Hp}{a:Addr}{kvs:List (Key×V)}{k:Key}(e:H a=some (.dK kvs)):DGet H a (kV k) (valV kvs k):=.inl ⟨kvs,k,.inl e,rfl,rfl⟩
theorem DGet.t {H:Hp}{a b:Addr}{kvs:List (List Key×V)}{k:List Key}(e:H a=some (.dT kvs))(eb:H b=some (.tup (k.map kV))):DGet H a (.ref b) (valV kvs k):=.inr ⟨kvs,k,b,.inl e,rfl,eb,rfl⟩
theorem DPut.k {H:Hp}{a:Addr}{kvs:List (Key×V)}{k:Key}{v:V}(e:H a=some (.dK kvs))(hl:kvs.length < sizeLine):DPut H a (kV k) v (upd H a (.dK (putK kvs k v))):=.inl ⟨kvs,k,e,rfl,hl,rfl⟩
theorem DPut.t {H:Hp}{a b:Addr}{kvs:List (List Key×V)}{k:List Key}{v:V}(e:H a=some (.dT kvs))(eb:H b=some (.tup (k.map kV)))(hl:kvs.length < sizeLine) :
    DPut H a (.ref b) v (upd H a (.dT (putK kvs k v))):=.inr ⟨kvs,k,b,e,rfl,eb,hl,rfl⟩
section
variable {X:Cx}{pins:List (Addr×Obj)}{σ:St}{H:Hp}{s:Shared}{a:Addr}{y v:V}{u r:Value}{o:Option V}{A:Around}{E:Value→Shared→Prop}
theorem Inv.big (I:Inv X pins σ H s):sysModules < s.heap.objs.size:=by
  have h:mainGlobals < s.heap.objs.size:=(I.mod.glob.keeps I.bk).lt;exact Nat.lt_trans (by decide) h
theorem zmY {Q:Value→Shared→Prop}(hu:A.units+1 < cLine)(I:Inv X pins σ H s)(g:DGet H a y (some v))(ry:RelV y u)(h:∀ w' s',Inv X pins σ H s'→RelV v w'→Q w' s') :
    wpAny (model X.prog X.w) A (getItem (.ref a) u) Q E s:=by
  rcases g with ⟨kvs,k,e,ey,l⟩ | ⟨kvs,k,b,e,ey,eb,l⟩
  · subst ey
    obtain ⟨z,hd,vs,rel,dd⟩:=zox I.hok e;obtain ⟨w',hw,rw'⟩:=RelO.some_of (v:=v) (o:=valueAt vs k) (by rw[l];exact rel.val k);exact wpAny_getItem_of (zmw ry) dd.mapOf hw (h w' _ (I.tok _) rw')
  · subst ey
    cases (show u=Value.ref b from ry)
    obtain ⟨z,hd,xs,rel,dd⟩:=zou I.hok e;obtain ⟨w',hw,rw'⟩:=RelO.some_of (v:=v) (o:=(atKey xs k).map (·.2)) (by rw[l];exact rel.val k);obtain ⟨p,hp,hp2⟩:=ybD.mp hw;refine wpAny_getItem_heap (tupleKind_room_in1 hu) (zj1 I.hok eb) dd hp ?_;rw[hp2];exact h w' _ (I.tok _) rw'
theorem zqk {Q:Value→Shared→Prop}(hu:A.units+1 < cLine)(I:Inv X pins σ H s)(g:DGet H a y o)(ry:RelV y u)(h:∀ s',Inv X pins σ H s'→Q (.bool (!o.isSome)) s') :
    wpAny (model X.prog X.w) A (compareOp .NotIn u (.ref a)) Q E s:=by
  rcases g with ⟨kvs,k,e,ey,l⟩ | ⟨kvs,k,b,e,ey,eb,l⟩
  · subst ey
    obtain ⟨z,hd,vs,rel,dd⟩:=zox I.hok e;refine wpAny_notIn_of (zmw ry) hd dd.mapOf ?_;rw[← (rel.val k).isSome_eq,← l];exact h _ (I.tok _)
  · subst ey
    cases (show u=Value.ref b from ry)
    obtain ⟨z,hd,xs,rel,dd⟩:=zou I.hok e;refine wpAny_notIn_heap (tupleKind_room_in1 hu) (zj1 I.hok eb) hd dd ?_;have q:=(rel.val k).isSome_eq;rw[Option.isSome_map]at q;rw[← q,← l];exact h _ (I.tok _)
theorem zi9 {h':Heap}{t':Nat}{ob:HO}(I:Inv X pins σ H s)(mu:Mut (H a))(hs:Heap.SameBut a s.heap h')(he:∃ q,h'.get? a=some q)(new:zbl X.prog X.w (upd H a ob) h' a ob) :
    Inv X pins σ (upd H a ob) { s with heap:=h',toks:=t' }:=
  I.write (x:=a) (e:=a) mu (.inl rfl) (fun b q hb z=>(hs.2 b hb).trans z) he new
theorem zpf {P:Program}{w:World}{H':Hp}{h':Heap}{kvs:List (Key×V)}{vs:List (Key×Value)}(z:kvs.length≤sizeLine)(hd:(a == sysModules)=false)(rel:KV kvs vs)(dd:h'.DictOf (za6 P w) a vs) :
    zbl P w H' h' a (.dK kvs):=⟨z,hd,vs,rel,dd⟩
theorem zmX {H':Hp}{Q:Unit→Shared→Prop}(hu:A.units+1 < cLine)(I:Inv X pins σ H s)(g:DPut H a y v H')(ry:RelV y u)(rv:RelV v r)(h:∀ s',Inv X pins σ H' s'→Q () s') :
    wpAny (model X.prog X.w) A (setItem (.ref a) u r) Q E s:=by
  rcases g with ⟨kvs,k,e,ey,l,eH⟩ | ⟨kvs,k,b,e,ey,eb,l,eH⟩
  · subst ey eH
    obtain ⟨z,hd,vs,rel,dd⟩:=zqj I.hok e;have hz:vs.length≤sizeLine:=by rw[← rel.length];exact z
    have hl:(putK kvs k v).length≤sizeLine:=by have:=zc5 kvs k v;omega
    refine wpAny_setItem_pairs (hsz:=hz) (zmw ry) dd fun h' dd' hs=>h _ ?_;have he:∃ q,h'.get? a=some q:=let ⟨q,_,_,hq,_⟩:=dd';⟨q,hq⟩;exact zi9 I (by rw[e];exact True.intro) hs he (zpf hl hd (rel.put k rv) dd')
  · subst ey eH
    cases (show u=Value.ref b from ry)
    obtain ⟨z,hd,xs,rel,dd⟩:=zsd I.hok e;have hz:xs.length≤sizeLine:=by rw[← Paired.length rel];exact z
    have hl:(putK kvs k v).length≤sizeLine:=by have:=zc5 kvs k v;omega
    refine wpAny_setItem_heap (hsz:=hz) (tupleKind_room_in1 hu) (zj1 I.hok eb) dd fun h' dd' hs=>h _ ?_;obtain ⟨q,es,ep,hq,h2,h3,h4,_,h5⟩:=dd';refine zi9 I (by rw[e];exact True.intro) hs ⟨q,hq⟩ ⟨hl,hd,_,(rel.put k eb rv).keeps fun c ys ec=>?_,q,es,ep,hq,h2,h3,h4,h5⟩;rw[zaf (zrl ec e (fun z=>nomatch z))];exact ec
end
def NoSl (i:Expr):Prop:=∀ ov iv,subscripted i false ov iv=operate [ov,iv] (getItem ov iv)
theorem zps {prog:Program}{w:World}{A:Around}{E:Value→Shared→Prop}{s:Shared}{env:Env}{value slice:Expr}{pos:Pos}{T id:String}{Q:Value→Shared→Prop}
    (hl:typeLookup (.type T) "__getitem__" = pure (some (.builtin id))) (hs:NoSl slice)
    (h:wpAny (model prog w) A (eval value env) (fun o s₁=>wpAny (model prog w) A (eval slice env) (fun i s₂=>s₂.TypeIs o T∧wpAny (model prog w) A (getItem o i) Q E s₂) E s₁) E s) :
    wpAny (model prog w) A (eval (.Subscript value slice pos) env) Q E s:=by
  refine Subscript_ (wpAny_mono h (fun o s₁ h₁=>wpAny_mono h₁ (fun i s₂ h₂=>?_) fun _ _ x=>x) fun _ _ x=>x);obtain ⟨hT,h₂⟩:=h₂;unfold subscriptTail;refine wpAny_bind ?_;rw[getitemInPython_of_ne hT.not_modules];refine wpAny_bind (wpAny_specialOf hT hl ?_);have fin:wpAny (model prog w) A (subscripted slice false o i) (fun r s₃=>wpAny (model prog w) A (letTemporaryGo value o r >>= fun _=>pure r) Q E s₃) E s₂:=by
    rw[hs o i];exact wpAny_operating (wpAny_mono h₂ (fun r s₃ h₃=>wpAny_bind (wpAny_letTemporaryGo (wpAny_pure h₃))) fun _ _ x=>x)
  first
    | exact wpAny_pure (wpAny_bind fin)
    | exact wpAny_bind (wpAny_pure (wpAny_bind fin))
    | exact wpAny_bind fin
theorem zi7 {X:Cx}{pins:List (Addr×Obj)}{σ:St}{H:Hp}{s:Shared}{a:Addr}{y:V}{o:Option V}(I:Inv X pins σ H s)(g:DGet H a y o):s.TypeIs (.ref a) "dict":=by
  rcases g with ⟨kvs,k,e,_,_⟩ | ⟨kvs,k,b,e,_,_,_⟩
  · obtain ⟨_,_,vs,_,dd⟩:=zox I.hok e
    exact dd.typeIs
  · obtain ⟨_,_,xs,_,dd⟩:=zou I.hok e
    exact dd.typeIs
def zr0 (td ty:TE):TE:=fun σ H Q=>td σ H fun x H1=>ty σ H1 fun y H2=>∃ a v,x=.ref a∧DGet H2 a y (some v)∧Q v H2
def zr3 (td ty tv:TE):TS:=fun D σ H=>tv σ H fun v H1=>td σ H1 fun x H2=>ty σ H2 fun y H3=>∃ a H4,x=.ref a∧DPut H3 a y v H4∧D.nx σ H4
section
variable {X:Cx}{o i e value:Expr}{pos pos' tpos:Pos}{td ty tv:TE}
theorem zd5 (hu:X.A.units+1 < cLine)(ho:PE X o td)(hi:PE X i ty)(hs:NoSl i):PE X (.Subscript o i pos) (zr0 td ty):=by
  intro pins s σ H Q I h;refine zps PySem.F.slot_dict_getitem.lookup hs (thn (ho pins s σ H _ I h) fun u s1 zq0=>?_);obtain ⟨x,H1,I1,rx,q1⟩:=zq0;refine thn (hi pins s1 σ H1 _ I1 q1) fun iv s2 zq1=>?_;obtain ⟨y,H2,I2,ry,a,v,ex,g,q2⟩:=zq1;subst ex;obtain rfl:u=Value.ref a:=rx;exact ⟨zi7 I2 g,zmY hu I2 g ry fun w' s3 I3 rw'=>⟨v,H2,I3,rw',q2⟩⟩
theorem zeQ (hu:X.A.units+1 < cLine)(ho:PE X o td)(hi:PE X i ty)(hv:PE X value tv)(hs:swapsWith value (some (.Subscript o i pos')) pos.line X.env=pure false) :
    PS X (.Assign [.Subscript o i pos'] value pos) (zr3 td ty tv):=by
  intro pins s σ H D I h;refine wpAny_Assign_Subscript (thn (hv pins s σ H _ I h) fun r s1 zq0=>?_) hs;obtain ⟨v,H1,I1,rv,q1⟩:=zq0;refine thn (ho pins s1 σ H1 _ I1 q1) fun u s2 zq1=>?_;obtain ⟨x,H2,I2,rx,q2⟩:=zq1;refine thn (hi pins s2 σ H2 _ I2 q2) fun iv s3 zq2=>?_;obtain ⟨y,H3,I3,ry,a,H4,ex,g,q3⟩:=zq2;subst ex;obtain rfl:u=Value.ref a:=rx;exact zmX hu I3 g ry rv fun s4 I4=>⟨σ,H4,I4,q3⟩
end
theorem zj7 {P:Program}{w:World}{H:Hp}(h:Heap)(hb:sysModules < h.objs.size):zbl P w H (h.push { cls:=.type "dict",data:=.dict #[] }) h.objs.size (.dK []):=
  ⟨yaF _,beq_eq_false_iff_ne.mpr (Ne.symm (yas hb)),[],.nil,Heap.DictOf.new h⟩
theorem zov {P:Program}{w:World}{H:Hp}(h:Heap)(hb:sysModules < h.objs.size):zbl P w H (h.push { cls:=.type "dict",data:=.dict #[] }) h.objs.size (.dT []):=
  ⟨yaF _,beq_eq_false_iff_ne.mpr (Ne.symm (yas hb)),[],.nil,_,#[],0,yaB _ rfl,⟨rfl,rfl,rfl⟩,rfl,rfl,ybg⟩
def zqF:TE:=fun _ H Q=>∀ p,H p=none→Q (.ref p) (upd H p (.dK []))
def zqE:TE:=fun _ H Q=>∀ p,H p=none→Q (.ref p) (upd H p (.dT []))
section
variable {X:Cx}{pos:Pos}
theorem zjP:PE X (.Dict [] [] pos) zqF:=fun pins s σ H Q I h=>
  wpAny_Dict_empty ⟨.ref s.heap.objs.size,_,I.laid (a:=s.heap.objs.size) (o:=.dK []) (t':=s.toks) (fun _ _ q=>yal _ q) (yaa _) (zj7 s.heap I.big),rfl,h _ (I.hok.fresh (yaa _))⟩
theorem znN:PE X (.Dict [] [] pos) zqE:=fun pins s σ H Q I h=>
  wpAny_Dict_empty ⟨.ref s.heap.objs.size,_,I.laid (a:=s.heap.objs.size) (o:=.dT []) (t':=s.toks) (fun _ _ q=>yal _ q) (yaa _) (zov s.heap I.big),rfl,h _ (I.hok.fresh (yaa _))⟩
end
def zlk:List (TE×TE)→St→Hp→(List (V×V)→Hp→Prop)→Prop
  | [],_,H,Q=>Q [] H
  | (tk,tv)::r,σ,H,Q=>tk σ H fun x H1=>tv σ H1 fun y H2=>zlk r σ H2 fun ps H3=>Q ((x,y)::ps) H3
abbrev VV:List (V×V)→List (Value×Value)→Prop:=Paired fun p q=>RelV p.1 q.1∧RelV p.2 q.2
def PPs (X:Cx)(pos:Pos)(keys:List (Option Expr))(values:List Expr)(trs:List (TE×TE)):Prop:=
  ∀(pins:List (Addr×Obj)) (s:Shared) (σ:St) (H:Hp) (Q:List (V×V)→Hp→Prop),Inv X pins σ H s→zlk trs σ H Q→
    wpAny (model X.prog X.w) X.A (evalPairs (pairTrees keys values X.env pos)) (fun vs s'=>∃ ps H',Inv X pins σ H' s'∧VV ps vs∧Q ps H') X.xe s
theorem zpB {X:Cx}{pos:Pos}:PPs X pos [] [] []:=fun pins s σ H Q I h=>pairTrees_nil_walk ⟨[],H,I,.nil,h⟩
theorem zhc {X:Cx}{pos:Pos}{k v:Expr}{ks:List (Option Expr)}{vs:List Expr}{tk tv:TE}{trs:List (TE×TE)}(hk:PE X k tk)(hv:PE X v tv)(hr:PPs X pos ks vs trs) :
    PPs X pos (some k::ks) (v::vs) ((tk,tv)::trs):=fun pins s σ H Q I h=>
  pairTrees_cons_walk (thn (hk pins s σ H _ I h) fun u s1 ⟨x,H1,I1,rx,q1⟩=>thn (hv pins s1 σ H1 _ I1 q1) fun w2 s2 ⟨y,H2,I2,ry,q2⟩=>
    thn (hr pins s2 σ H2 _ I2 q2) fun ws s3 ⟨ps,H3,I3,rel,q3⟩=>⟨(x,y)::ps,H3,I3,.cons ⟨rx,ry⟩ rel,q3⟩)
def zff (kvs more:List (Key×V)):List (Key×V):=more.foldl (fun acc kv=>putK acc kv.1 kv.2) kvs
theorem KV.merge:∀{more:List (Key×V)} {rs:List (Key×Value)} {kvs:List (Key×V)} {vs:List (Key×Value)},KV more rs→KV kvs vs→KV (zff kvs more) (merged vs rs):=by
  intro more rs kvs vs r;unfold KV at r
  induction r generalizing kvs vs with
  | nil=>intro q;exact q
  | @cons p q ps qs h t ih=>
    intro r0;have e:KV (putK kvs p.1 p.2) (stored vs q.1 q.2):=by
      have:=r0.put p.1 h.2;rw[← h.1];exact this
    exact ih e
theorem zeA:∀(more kvs:List (Key×V)),(zff kvs more).length≤kvs.length+more.length
  | [],kvs=>by show kvs.length≤kvs.length+0;omega
  | p::r,kvs=>by
    have h1:=zeA r (putK kvs p.1 p.2);have h2:=zc5 kvs p.1 p.2;show (zff (putK kvs p.1 p.2) r).length≤_;rw[yaI];omega
theorem zgM {P:Program}{w:World}:∀{kvs:List (Key×V)} {ws:List (Value×Value)},VV (kvs.map fun kv=>(kV kv.1,kv.2)) ws→∃ rs,Carries (za6 P w) ws rs∧KV kvs rs
  | [],_,r=>by rw[ybW]at r;cases r;exact ⟨[],True.intro,.nil⟩
  | p::kvs,_,r=>by
    rw[yar]at r;cases r with
    | @cons a b as bs h t=>
      obtain ⟨rs,c,q⟩:=zgM (P:=P) (w:=w) t;obtain ⟨b1,b2⟩:=b;exact ⟨(p.1,b2)::rs,⟨zmw h.1,rfl,c⟩,.cons ⟨rfl,h.2⟩ q⟩
def zrZ (trs:List (TE×TE)):TE:=fun σ H Q=>∀ p,H p=none→zlk trs σ (upd H p (.dK [])) fun ps H2=>H2 p=some (.dK [])∧∃ kvs:List (Key×V),ps=kvs.map (fun kv=>(kV kv.1,kv.2))∧kvs.length≤15∧Q (.ref p) (upd H2 p (.dK (zff [] kvs)))
theorem zpI {X:Cx}{pos:Pos}{keys:List (Option Expr)}{values:List Expr}{trs:List (TE×TE)}(h:PPs X pos keys values trs)(hall:keys.all (·.isSome)=true)(hl:keys.length=values.length)(h0:keys≠[])
    (h15:keys.length≤15):PE X (.Dict keys values pos) (zrZ trs):=by
  intro pins s σ H Q I q;have hn:=I.hok.fresh (yaa s.heap.objs.size);have I1:=I.laid (a:=s.heap.objs.size) (o:=.dK []) (h':=s.heap.push { cls:=.type "dict",data:=.dict #[] }) (t':=s.toks) (fun _ _ q=>yal _ q) (yaa _) (zj7 s.heap I.big);refine wpAny_Dict_walk (knd:=za6 X.prog X.w) hall hl h0 h15 (thn (h pins _ σ _ _ I1 (q _ hn)) fun ws s2 zq0=>?_);obtain ⟨ps,H2,I2,rel,e,kvs,ep,lk,q2⟩:=zq0;subst ep;obtain ⟨rs,c,rk⟩:=zgM (P:=X.prog) (w:=X.w) rel;obtain ⟨z,hd,vs0,r0,dd⟩:=zqj I2.hok e;cases r0
  refine ⟨rs,c,dd,fun h' dd' hs=>⟨.ref s.heap.objs.size,_,?_,rfl,q2⟩⟩;have hz:(zff [] kvs).length≤sizeLine:=by
    have h1:=zeA kvs [];rw[ybu]at h1;rw[sizeLine_eq];omega
  have he:∃ q,h'.get? s.heap.objs.size=some q:=let ⟨q,_,_,hq,_⟩:=dd';⟨q,hq⟩;exact zi9 I2 (by rw[e];exact True.intro) hs he (zpf hz hd (rk.merge .nil) dd')
end L2
namespace Att
open PySem PySem.W PySem.Calls PyProof.Rows
theorem zf6 {P:Params}{h:Heap}:∀(ns:List Int) (vs:List Value),WellAll P h vs (ns.map WData.int)→IntsAre vs ns:=by
  intro ns
  induction ns with
  | nil=>
    intro vs w;rw[ybW]at w;cases w
    exact .nil
  | cons n ns ih=>
    intro vs w;rw[yar]at w;cases w with
    | cons a b=>
      cases a
      exact .cons _ _ (ih _ b)
theorem zlH {l:OpenLaw}{n:Nat}(hn:l.most=some n){P:Params}{h:Heap}{args:List WData}{vals:List Value}
    (hpre:l.row.toRowW.claim.pre args=true) (hwl:WellAll P h vals args) :
    ∃ a vs ns,vals=[Value.ref a]∧args=[WData.list (ns.map WData.int)]∧h.get? a=some { cls:=.type "list",data:=.seq vs.toArray }∧IntsAre vs ns∧ns.length≤n:=by
  have hsh:WShape.hasAll [] args [.list .int]=true:=(pre_splitW hpre).1;have hc:l.pre.holds [] { args:=args }=true:=(pre_splitW hpre).2;obtain ⟨d,r,rfl,h1,h2⟩:=hasAllW_cons hsh;obtain rfl:=hasAllW_nil h2;obtain ⟨xs,rfl,h3⟩:=hasW_list h1;obtain ⟨ns,rfl⟩:=items_int h3;have hlen:ns.length≤n:=by
    unfold OpenLaw.pre at hc;have h4:(WTm.not (.lt (.lit (.int (n:Int))) (.len (.arg 0)))).holds [] { args:=[.list (ns.map .int)] }=true:=by
      have h4:=(holds_andW hc).1;rw[hn]at h4;exact h4
    have h5:=condW_of h4 (w_not (w_lt w_lit (w_len_list (w_arg rfl))));rw[yab]at h5;refine Nat.le_of_not_lt fun q=>?_;have q':(n:Int) < ((ns.length:Nat):Int):=by omega
    first
      | (rw[yae q']at h5;exact absurd h5 (by decide))
      | (simp at h5;omega)
  cases hwl with
  | cons w1 w2=>
    cases w2
    cases w1 with
    | list ho hall=>exact ⟨_,_,ns,rfl,rfl,ho,zf6 ns _ hall,hlen⟩
theorem zlN (l:OpenLaw)(args:List WData):l.row.toRowW.claim.post args (.bool true) args=true:=
  postW_of (r:=l.row.toRowW) (X:=(true == true))
    (show WShape.has [] (.bool true) .bool=true by first | rfl | decide | simp[WShape.has,WShape.arms,WShape.armsAll])
    (show (WTm.eq .res (.lit (.bool true))).value [] { args:=args,res:=some (.bool true),after:=args }=some (.bool (true == true)) from w_eq_bool (w_res rfl) w_lit) rfl
theorem attach_call {l:OpenLaw}{n:Nat}{q:Program}{loose:List Str}{XP:(Str→Option Value)→Heap→Prop}{YP:World→Heap→Prop}{d:DefRec}
    (hn:l.most=some n) (hdf:d.params.defaults=[])
    (call:∀(w:World) (s₀ s₁:Shared) (mg mb:Str→Option Value) (fa:Addr) (o:Obj) (pm cd doc:Value) (a:Addr) (vs:List Value) (ns:List Int),
      Ground q loose [] XP w s₀ mg mb s₁.heap→YP w s₁.heap→
      s₁.heap.get? fa=some o→o.data=.func (docDef d.name d.params d.body d.scope pm cd doc)→s₁.heap.CodeRec cd d.name→mg d.name=some (.ref fa)→
      s₁.heap.get? a=some { cls:=.type "list",data:=.seq vs.toArray }→IntsAre vs ns→ns.length≤n→s₁.gens=#[]→
      codeAny (model l.prog w) callerA (.call (.ref fa) ⟨[.ref a],[]⟩) (fun r s'=>r=.ok (.ret (.bool true))∧OldK s₁.heap s'.heap∧s'.os=s₁.os∧AllBare s'.gens) s₁) :
    WalkO q loose XP YP l.row.toRowW d [] (fun f vs=>PySem.call f vs):=by
  intro w s₀ s₁ mg mb G Y fa o pm cd doc dV kV ho hd hcd hD hmg hg args vals as hpre hlay hrd hwl hlo;obtain rfl:dV=.none:=Dflts.none hD hdf;obtain rfl:kV=.none:=Dflts.noKw hD;obtain ⟨a,vs,ns,rfl,rfl,hobj,hints,hlen⟩:=zlH hn hpre hwl;refine enter_call (codeAny_mono (call w s₀ s₁ mg mb fa o pm cd doc a vs ns G Y ho (fd_plain hd) hcd hmg hobj hints hlen hg) fun r s' hq=>?_);obtain ⟨rfl,h2,h3,h4⟩:=hq;exact ⟨.inl ⟨.bool true,.bool true,[],rfl,fun _=>rfl,.bool true,zlN l _,fun _=>⟨List.Pairwise.nil,fun _ hm=>(nomatch hm)⟩⟩,h2,h3,h4⟩
end Att
namespace L2
open PySem PySem.Spec PyProof.Rows
theorem zhH:∀{vs:List Value} {ns:List Int},IntsAre vs ns→Vals (ns.map V.int) vs
  | _,_,.nil=>.nil
  | _,_,.cons n t h=>.cons ⟨t,rfl⟩ (zhH h)
end L2
namespace L2
open PySem PySem.Spec PyProof.Rows
def zd8 (s:Stmt)(j:Nat):Stmt:=match s with
  | .ClassDef _ _ _ body _ _ _ _ _ _ _=>body.getD j (.Pass ⟨0,0,0,0⟩)
  | _=>.Pass ⟨0,0,0,0⟩
def zbK (s:Stmt):Arguments:=match s with
  | .FunctionDef _ a _ _ _ _ _ _ _ _=>a
  | _=>{ posonlyargs:=[],args:=[],vararg:=none,kwonlyargs:=[],kw_defaults:=[],kwarg:=none,defaults:=[] }
def za8 (s:Stmt):List Stmt:=match s with
  | .FunctionDef _ _ b _ _ _ _ _ _ _=>b
  | _=>[]
def zag (s:Stmt):Scope:=match s with
  | .FunctionDef _ _ _ _ _ _ sc _ _ _=>sc
  | _=>{ kind:=.function,names:=[],isGenerator:=false,isCoroutine:=false }
abbrev CX0:CXT:=fun _ _ _ _ _ _=>False
abbrev E0:XK:=fun _ _ _=>False
theorem zlP {X:Cx}:zgk CX0 X E0:=fun _ _ _ _ _ _ _ h=>h.elim
structure Fun (K:Frag)(x qual:Str)(st:Stmt)(f:Addr)(fd:FuncData):Prop where
  ex:∃(oc:Value) (od:Option Addr) (kV doc pm:Value) (an:Option Addr) (cdv ct:Value) (osl:Array (Option Value)),
    fd=fnOf x qual (zbK st) (za8 st) (zag st) .none kV doc pm an cdv ct∧K.lookup f=some ⟨oc,od,.func fd,osl⟩∧codeIn K cdv qual=true
  kp:keepIn K (.ref f)=true
section
variable {P:Program}{w:World}{K:Frag}{mg:Str→Option Value}{base:Heap}
theorem Fun.ok {x qual:Str}{st:Stmt}{f:Addr}{fd:FuncData}{N ps:List Str}{k:Nat}{sp:Sp}(F:Fun K x qual st f fd)(S:zao N ps (zag st))(len:∀ vs H Q E,sp vs H Q E→vs.length=ps.length)
    (hbody:∀(cdv:Value) (A:Around) (outer:List Env) (s:Shared) (H:Hp) (vs:List V) (Q:VK) (E:XK),Room k (A.deeper (envOfC qual (zag st) s.heap.objs.size f cdv))→sp vs H Q E→
      ∃ t,PSs (cxOf CX0 P w K mg base N qual (zag st) f cdv A outer s H E).nox (za8 st) t∧t { nx:=fun _ H'=>Q .non H',rt:=Q } (zdf N vs) H):FnOk P w K mg base CX0 (k+1) f fd ps sp:=by
  obtain ⟨oc,od,kV,doc,pm,an,cdv,ct,osl,rfl,lk,hcd⟩:=F.ex;refine zrG lk hcd S len fun A outer s H vs Q E hr hsp=>?_;obtain ⟨t,h,q⟩:=hbody cdv A outer s H vs Q E hr hsp;exact ⟨t,h.nox,q⟩
theorem Fun.binds {x qual:Str}{st:Stmt}{f:Addr}{fd:FuncData}{ps:List Str}(F:Fun K x qual st f fd)
    (h:∀(kV doc pm:Value) (an:Option Addr) (cdv ct:Value) (us:List Value),us.length=ps.length→bindArgs (fnOf x qual (zbK st) (za8 st) (zag st) .none kV doc pm an cdv ct) ⟨us,[]⟩=pure (ps.zip us)):zdw K fd ps []:=by
  obtain ⟨oc,od,kV,doc,pm,an,cdv,ct,osl,rfl,lk,hcd⟩:=F.ex;exact .all (h kV doc pm an cdv ct)
theorem zf7 {x qual:Str}{st:Stmt}{f:Addr}{oc:Value}{od an:Option Addr}{osl:Array (Option Value)}{kV doc pm cdv ct:Value}(l:K.lookup f=some ⟨oc,od,.func (fnOf x qual (zbK st) (za8 st) (zag st) .none kV doc pm an cdv ct),osl⟩)
    (c:codeIn K cdv qual=true) (k:keepIn K (.ref f)=true):Fun K x qual st f (fnOf x qual (zbK st) (za8 st) (zag st) .none kV doc pm an cdv ct):=⟨⟨oc,od,kV,doc,pm,an,cdv,ct,osl,rfl,l,c⟩,k⟩
end
theorem zeC {A:Around}{k:Nat}(hr:Room k A):A.units+1 < cLine:=yaU (ycu (by decide:1≤64) _) hr.units
theorem zaq {n:Nat}(h:n≤1000):n < sizeLine:=yaU h (by decide)
section
variable {X:Cx}
theorem pv (i:Nat){x:Str}{pos:Pos}(hN:X.N[i]?=some x:=by rfl)(hv:Vis X.env.scope x:=by first | exact Or.inl rfl | exact Or.inr (Or.inl rfl) | exact Or.inr (Or.inr rfl))(hd:(x == ("__debug__" : Str))=false:=by decide)
    (hcd:(x == ("__classdict__" : Str))=false:=by decide):PE X (.Name x pos) (tVar i):=zqZ hN hv hd hcd
end
theorem iteF {A B:Prop}(h:B):if false=true then A else B:=by
  rw[if_neg yay];exact h
theorem iteT {A B:Prop}(h:A):if true=true then A else B:=by
  rw[if_pos rfl];exact h
theorem ite2 {c A B:Prop}[Decidable c](h1:c→A)(h2:¬ c→B):if c then A else B:=by
  by_cases h:c
  · rw[if_pos h]
    exact h1 h
  · rw[if_neg h]
    exact h2 h
theorem zh9 {c A B:Prop}[Decidable c](hc:c)(h:B):if (!decide c)=true then A else B:=by
  rw[yae hc];exact iteF h
def Same (H H':Hp):Prop:=∀ b o,H b=some o→H' b=some o
theorem Same.trans {H H1 H2:Hp}(a:Same H H1)(b:Same H1 H2):Same H H2:=fun c o h=>b c o (a c o h)
theorem Same.free {H H':Hp}(e:Same H H'){l:Addr}(h:H' l=Option.none):H l=Option.none:=by
  cases q:H l with
  | none=>rfl
  | some o=>
    rw[e l o q]at h;cases h
theorem Same.seq {K:Frag}{H H':Hp}{a:Addr}{xs:List V}(e:Same H H')(h:SqL K H a xs):SqL K H' a xs:=by
  rcases h with (h | ⟨o,h⟩) | h
  · exact .inl (.inl (e _ _ h))
  · exact .inl (.inr ⟨o,e _ _ h⟩)
  · exact .inr h
end L2
namespace Tim
open PySem PyProof.Rows
set_option autoImplicit false
section
variable {prog:Program}{w:World}{A:Around}{E:Value→Shared→Prop}{s:Shared}{κ:KeyKind}{kd:SortKind}{a₀:Array Keyed}
def LtG (prog:Program)(w:World)(A:Around)(s:Shared)(κ:KeyKind)(kd:SortKind):Prop:=
 ∀(E:Value→Shared→Prop) (x y:Value) (a b:κ.α) (Q:Bool→Shared→Prop),κ.keyOf x=some a→κ.keyOf y=some b→Q (κ.blt a b) s→wpAny (model prog w) A (keyLt' kd x y) Q E s
def ky (κ:KeyKind)(p:Keyed):κ.α:=(κ.keyOf p.1).getD κ.dflt
def Keyd (κ:KeyKind)(p:Keyed):Prop:=∃ a,κ.keyOf p.1=some a
theorem Keyd.eq {p:Keyed}(h:Keyd κ p):κ.keyOf p.1=some (ky κ p):=by
 obtain ⟨a,e⟩:=h;unfold ky;rw[e];rfl
theorem lt_G {x y:Keyed}{st:SortSt}{Q:Option Bool→SortSt→Prop}(hO:LtG prog w A s κ kd)(hk:kindOf st=kd)(hx:Keyd κ x)(hy:Keyd κ y)(h:Q (some (κ.blt (ky κ x) (ky κ y))) st):wpS (model prog w) A E s (lt' x y) Q st:=by
 rw[lt'_eq];refine wpS_bind (wpS_get ?_);rw[hk];refine wpS_bind (wpS_lift (wpAny_attempt (hO _ x.1 y.1 _ _ _ hx.eq hy.eq ⟨rfl,?_⟩)));exact wpS_pure h
theorem zbb {xs:Array Keyed}{i:Nat}{st:SortSt}{Q:Keyed→SortSt→Prop}(hi:i < xs.size)(h:Q xs[i] st):wpS (model prog w) A E s (elem' xs i) Q st:=by
 rw[elem'_eq,ya3 hi];exact wpS_pure h
structure TB (κ:KeyKind)(kd:SortKind)(n:Nat)(st:SortSt):Prop where
 kind:kindOf st=kd
 keys:∀ p∈(arrOf st).toList,Keyd κ p
 failed:failedOf st=none
 size:(arrOf st).size=n
def kAt (κ:KeyKind)(xs:Array Keyed)(i:Nat):κ.α:=match xs[i]? with
 | some p=>ky κ p
 | none=>κ.dflt
theorem zbc {xs:Array Keyed}{i:Nat}(h:i < xs.size):kAt κ xs i=ky κ xs[i]:=by
 unfold kAt;rw[ya3 h]
theorem zbp {xs ys:Array Keyed}{i j:Nat}(h:xs[i]?=ys[j]?):kAt κ xs i=kAt κ ys j:=by
 unfold kAt;rw[h]
theorem zh7 {i j n:Nat}{st:SortSt}{Q:Option Bool→SortSt→Prop}(hO:LtG prog w A s κ kd)(hB:TB κ kd n st)(hi:i < n)(hj:j < n)(h:Q (some (κ.blt (kAt κ (arrOf st) i) (kAt κ (arrOf st) j))) st):wpS (model prog w) A E s (ltAt' i j) Q st:=by
 have hi':i < (arrOf st).size:=by rw[hB.size];exact hi
 have hj':j < (arrOf st).size:=by rw[hB.size];exact hj
 rw[ltAt'_eq];refine wpS_bind (wpS_get ?_);refine wpS_bind (zbb hi' (wpS_bind (zbb hj' ?_)));refine lt_G hO hB.kind (hB.keys _ (by simp)) (hB.keys _ (by simp)) ?_;rw[zbc hi',zbc hj']at h;exact h
def Up (κ:KeyKind)(xs:Array Keyed)(lo hi:Nat):Prop:=∀ i j,lo≤i→i≤j→j < hi→κ.kle (kAt κ xs i) (kAt κ xs j)
def Dn (κ:KeyKind)(xs:Array Keyed)(lo hi:Nat):Prop:=∀ i j,lo≤i→i≤j→j < hi→κ.kle (kAt κ xs j) (kAt κ xs i)
structure Off (xs ys:Array Keyed)(lo hi:Nat):Prop where
 perm:ys.Perm xs
 out:∀ k,k < lo∨hi≤k→ys[k]?=xs[k]?
theorem Off.refl (xs:Array Keyed)(lo hi:Nat):Off xs xs lo hi:=⟨Array.Perm.refl _,fun _ _=>rfl⟩
theorem Off.trans {xs ys zs:Array Keyed}{lo hi:Nat}(a:Off xs ys lo hi)(b:Off ys zs lo hi):Off xs zs lo hi:=⟨b.perm.trans a.perm,fun k h=>(b.out k h).trans (a.out k h)⟩
theorem Off.wide {xs ys:Array Keyed}{lo hi lo' hi':Nat}(a:Off xs ys lo hi)(h1:lo'≤lo)(h2:hi≤hi'):Off xs ys lo' hi':=⟨a.perm,fun k h=>a.out k (by omega)⟩
theorem Off.size {xs ys:Array Keyed}{lo hi:Nat}(a:Off xs ys lo hi):ys.size=xs.size:=a.perm.size_eq
theorem TB.off {n lo hi:Nat}{st:SortSt}{ys:Array Keyed}(hB:TB κ kd n st)(h:Off (arrOf st) ys lo hi):TB κ kd n (setArr st ys):=
 ⟨hB.kind,fun p hp=>hB.keys p ((ycv.mp h.perm).mem_iff.mp hp),hB.failed,h.size.trans hB.size⟩
theorem zcQ {xs:Array Keyed}{i j:Nat}(hj:j≤xs.size):Off xs (mirror xs i j ((j - i) / 2)) i j:=⟨mirror_perm _ _ _ _,fun k hk=>by rw[getElem?_mirror_all hj,if_neg (by omega)]⟩
theorem zeW {xs:Array Keyed}{i j k:Nat}(hj:j≤xs.size)(hk:i≤k∧k < j):kAt κ (mirror xs i j ((j - i) / 2)) k=kAt κ xs (i+j - 1 - k):=by
 apply zbp;rw[getElem?_mirror_all hj,if_pos hk]
theorem zi1 {xs ys:Array Keyed}{lo hi k:Nat}(h:Off xs ys lo hi)(hk:k < lo∨hi≤k):kAt κ ys k=kAt κ xs k:=zbp (h.out k hk)
theorem zhs {xs:Array Keyed}{i j:Nat}(hj:j≤xs.size)(he:∀ k,i≤k→k < j→kAt κ xs k=kAt κ xs (j - 1))(k:Nat):kAt κ (mirror xs i j ((j - i) / 2)) k=kAt κ xs k:=by
 by_cases hk:i≤k∧k < j
 ·rw[zeW hj hk,he _ (by omega) (by omega),he k hk.1 hk.2]
 ·exact zi1 (zcQ hj) (by omega)
theorem zgP {i j:Nat}{st:SortSt}{Q:Unit→SortSt→Prop}(h:Q () (setArr st (mirror (arrOf st) i j ((j - i) / 2)))):wpS (model prog w) A E s (reverseSlice' i j) Q st:=by
 rw[reverseSlice'_eq];exact wpS_modify h
theorem zcV {σ:Type}{n:String}{Q:Unit→σ→Prop}{st:σ}(h:Q () st):wpS (model prog w) A E s (liftM (rule n):StateT σ Sem Unit) Q st:=wpS_lift (wpAny_rule ⟨rfl,h⟩)
end
end Tim
namespace Tim
open PySem PyProof.Rows
set_option autoImplicit false
section
variable {prog:Program}{w:World}{A:Around}{E:Value→Shared→Prop}{s:Shared}{κ:KeyKind}{kd:SortKind}
def zjk (κ:KeyKind)(st:SortSt)(lo least nrem:Nat)(r:Option Nat)(st':SortSt):Prop:=
 ∃ n ys,r=some n∧least≤n∧n≤nrem∧st'=setArr st ys∧Off (arrOf st) ys lo (lo+n)∧Up κ ys lo (lo+n)
theorem zqA {xs:Array Keyed}{lo:Nat}:Up κ xs lo (lo+1):=fun i j h1 h2 h3=>by
 have:i=j:=by omega
 subst this;exact KeyOrd.kle_refl _
theorem Up.more {xs:Array Keyed}{lo hi:Nat}(h:Up κ xs lo hi)(hlo:lo < hi)(hn:κ.kle (kAt κ xs (hi - 1)) (kAt κ xs hi)):Up κ xs lo (hi+1):=fun i j h1 h2 h3=>by
 by_cases hj:j < hi
 ·exact h i j h1 h2 hj
 ·have e:j=hi:=by omega
  subst e;by_cases hi':i=j
  ·subst hi';exact KeyOrd.kle_refl _
  ·exact KeyOrd.kle_trans (h i (j - 1) h1 (by omega) (by omega)) hn
theorem Dn.more {xs:Array Keyed}{lo hi:Nat}(h:Dn κ xs lo hi)(hlo:lo < hi)(hn:κ.kle (kAt κ xs hi) (kAt κ xs (hi - 1))):Dn κ xs lo (hi+1):=fun i j h1 h2 h3=>by
 by_cases hj:j < hi
 ·exact h i j h1 h2 hj
 ·have e:j=hi:=by omega
  subst e;by_cases hi':i=j
  ·subst hi';exact KeyOrd.kle_refl _
  ·exact KeyOrd.kle_trans hn (h i (j - 1) h1 (by omega) (by omega))
theorem zoS {st:SortSt}{N lo n nrem:Nat}{Q:Option (Option Nat)×Nat→SortSt→Prop}(hO:LtG prog w A s κ kd)(hB:TB κ kd N st)(hlo:lo+nrem≤N)(h1:1≤n)(hn:n≤nrem)(hU:Up κ (arrOf st) lo (lo+n))
  (h:∀ m,n≤m→m≤nrem→Up κ (arrOf st) lo (lo+m)→(m < nrem→κ.klt (kAt κ (arrOf st) (lo+m)) (kAt κ (arrOf st) (lo+m - 1)))→Q (none,m) st) :
  wpS (model prog w) A E s (forIn [n:nrem] ((none,n):Option (Option Nat)×Nat) fun _ __s=>do
   let __x ← ltAt' (lo+__s.snd) (lo+__s.snd - 1)
   match __x with
   | some smaller=>if smaller=true then pure (ForInStep.done (none,__s.snd)) else pure (ForInStep.yield (none,__s.snd+1))
   | _=>pure (ForInStep.done (some none,__s.snd))) Q st:=by
 refine wpS_forRange (I:=fun i c st'=>st'=st∧c=(none,i)∧n≤i∧i≤nrem∧Up κ (arrOf st) lo (lo+i)) ?_ ?_ ⟨rfl,rfl,yaa _,hn,hU⟩
 ·rintro i c st' hi1 hi2 ⟨rfl,rfl,h3,h4,hU'⟩;refine wpS_bind (zh7 hO hB (by omega) (by omega) ?_);dsimp only;cases e:κ.blt (kAt κ (arrOf st') (lo+i)) (kAt κ (arrOf st') (lo+i - 1)) with
  | true=>exact wpS_pure (h i h3 h4 hU' fun _=>e)
  | false=>exact wpS_pure ⟨rfl,rfl,by omega,by omega,hU'.more (by omega) e⟩
 ·rintro c st' ⟨rfl,rfl,h3,h4,hU'⟩;exact h _ h3 h4 hU' fun z=>absurd z (by omega)
theorem zk2 {st:SortSt}{N lo n nrem:Nat}{Q:Option Nat→SortSt→Prop}{k:Option (Option Nat)×Nat→StateT SortSt Sem (Option Nat)}(hk:∀ m,k (none,m)=pure (some m))(hO:LtG prog w A s κ kd)(hB:TB κ kd N st)(hlo:lo+nrem≤N)(h1:1≤n)(hn:n≤nrem)(hD:Dn κ (arrOf st) lo (lo+n))
  (h:∀ r st',zjk κ st lo n nrem r st'→Q r st') :
  wpS (model prog w) A E s (do
   reverseSlice' lo (lo+n)
   let c ← forIn [n:nrem] ((none,n):Option (Option Nat)×Nat) fun _ __s=>do
    let __x ← ltAt' (lo+__s.snd) (lo+__s.snd - 1)
    match __x with
    | some smaller=>if smaller=true then pure (ForInStep.done (none,__s.snd)) else pure (ForInStep.yield (none,__s.snd+1))
    | _=>pure (ForInStep.done (some none,__s.snd))
   k c) Q st:=by
 have hz:lo+n≤(arrOf st).size:=by rw[hB.size];omega
 have hoff:=zcQ (xs:=arrOf st) (i:=lo) (j:=lo+n) hz;refine wpS_bind (zgP ?_);refine wpS_bind (zoS hO (hB.off hoff) hlo h1 hn (fun i j q1 q2 q3=>?_) fun m m1 m2 hU _=>?_)
 ·rw[zeW hz (by omega),zeW hz (by omega)];exact hD _ _ (by omega) (by omega) (by omega)
 ·rw[hk];exact wpS_pure (h _ _ ⟨m,_,rfl,m1,m2,rfl,hoff.wide (yaa _) (by omega),hU⟩)
theorem zk3 {st:SortSt}{N lo n nrem:Nat}{Q:Option (Option Nat)×Nat×Nat→SortSt→Prop}(hO:LtG prog w A s κ kd)(hB:TB κ kd N st)(hlo:lo+nrem≤N)(h1:1≤n)(hn:n≤nrem)(hD:Dn κ (arrOf st) lo (lo+n))
  (h:∀ m neq ys,n≤m→m≤nrem→neq < m→Off (arrOf st) ys lo (lo+m)→Dn κ ys lo (lo+m)→(∀ k,lo+m - (neq+1)≤k→k < lo+m→kAt κ ys k=kAt κ ys (lo+m - 1))→Q (none,m,neq) (setArr st ys)) :
  wpS (model prog w) A E s (forIn [n:nrem] ((none,n,0):Option (Option Nat)×Nat×Nat) fun _ __s=>do
   let __x ← ltAt' (lo+__s.snd.fst) (lo+__s.snd.fst - 1)
   match __x with
   | some smaller=>
    if smaller=true then
     if __s.snd.snd > 0 then do
      let _ ← reverseSlice' (lo+__s.snd.fst - (__s.snd.snd+1)) (lo+__s.snd.fst)
      pure (ForInStep.yield (none,__s.snd.fst+1,0))
     else pure (ForInStep.yield (none,__s.snd.fst+1,0))
    else do
     let __x ← ltAt' (lo+__s.snd.fst - 1) (lo+__s.snd.fst)
     match __x with
     | some larger=>
      if larger=true then pure (ForInStep.done (none,__s.snd.fst,__s.snd.snd))
      else pure (ForInStep.yield (none,__s.snd.fst+1,__s.snd.snd+1))
     | _=>pure (ForInStep.done (some none,__s.snd.fst,__s.snd.snd))
   | _=>pure (ForInStep.done (some none,__s.snd.fst,__s.snd.snd))) Q st:=by
 refine wpS_forRange (I:=fun i c st'=>∃ neq ys,st'=setArr st ys∧c=(none,i,neq)∧n≤i∧i≤nrem∧neq < i∧Off (arrOf st) ys lo (lo+i)∧Dn κ ys lo (lo+i)∧∀ k,lo+i - (neq+1)≤k→k < lo+i→kAt κ ys k=kAt κ ys (lo+i - 1)) ?_ ?_ ⟨0,arrOf st,rfl,rfl,yaa _,hn,h1,Off.refl _ _ _,hD,fun k q1 q2=>by rw[show k=lo+n - 1 by omega]⟩
 ·rintro i c st' hi1 hi2 ⟨neq,ys,rfl,rfl,h3,h4,h5,ho,hD',he⟩;have hB':TB κ kd N (setArr st ys):=hB.off ho;have hz:lo+i≤ys.size:=by rw[ho.size,hB.size];omega
  dsimp only;refine wpS_bind (zh7 hO hB' (by omega) (by omega) ?_);dsimp only;cases e:κ.blt (kAt κ ys (lo+i)) (kAt κ ys (lo+i - 1)) with
  | true=>
   simp only[if_true];by_cases hq:neq > 0
   ·rw[if_pos hq];have hoff:=zcQ (xs:=ys) (i:=lo+i - (neq+1)) (j:=lo+i) hz;have hk:=zhs (κ:=κ) hz he;refine wpS_bind (zgP (wpS_pure ⟨0,_,rfl,rfl,by omega,by omega,by omega,ho.wide (yaa _) (by omega) |>.trans (hoff.wide (by omega) (by omega)),?_,fun k q1 q2=>by rw[show k=lo+(i+1) - 1 by omega]⟩));have:Dn κ (mirror ys (lo+i - (neq+1)) (lo+i) ((lo+i - (lo+i - (neq+1))) / 2)) lo (lo+i):=fun a b q1 q2 q3=>by rw[hk,hk];exact hD' a b q1 q2 q3
    exact this.more (by omega) (by rw[hk,hk];exact KeyOrd.kle_of_klt e)
   ·rw[if_neg hq];exact wpS_pure ⟨0,ys,rfl,rfl,by omega,by omega,by omega,ho.wide (yaa _) (by omega),hD'.more (by omega) (KeyOrd.kle_of_klt e),fun k q1 q2=>by rw[show k=lo+(i+1) - 1 by omega]⟩
  | false=>
   simp only[yaW,if_false];refine wpS_bind (zh7 hO hB' (by omega) (by omega) ?_);dsimp only;cases e2:κ.blt (kAt κ ys (lo+i - 1)) (kAt κ ys (lo+i)) with
   | true=>exact wpS_pure (h i neq ys h3 h4 h5 ho hD' he)
   | false=>
    have eq:kAt κ ys (lo+i)=kAt κ ys (lo+i - 1):=κ.total _ _ e e2;refine wpS_pure ⟨neq+1,ys,rfl,rfl,by omega,by omega,by omega,ho.wide (yaa _) (by omega),hD'.more (by omega) (by rw[eq];exact KeyOrd.kle_refl _),fun k q1 q2=>?_⟩;rw[show lo+(i+1) - 1=lo+i by omega,eq];by_cases hk:k=lo+i
    ·rw[hk];exact eq
    ·exact he k (by omega) (by omega)
 ·rintro c st' ⟨neq,ys,rfl,rfl,h3,h4,h5,ho,hD',he⟩;exact h _ neq ys h3 h4 h5 ho hD' he
theorem zjo {st:SortSt}{N lo n nrem m neq:Nat}{ys:Array Keyed}{Q:Option Nat→SortSt→Prop}{t:StateT SortSt Sem (Option Nat)}(hB:TB κ kd N st)(hlo:lo+nrem≤N)(m1:n+1≤m)(m2:m≤nrem)(m3:neq < m)
  (ho:Off (arrOf st) ys lo (lo+m)) (hD:Dn κ ys lo (lo+m)) (he:∀ k,lo+m - (neq+1)≤k→k < lo+m→kAt κ ys k=kAt κ ys (lo+m - 1)) (h:∀ r st',zjk κ st lo (n+1) nrem r st'→Q r st')
  (ht:∀ st',TB κ kd N st'→Dn κ (arrOf st') lo (lo+m)→(∀ r st'',zjk κ st' lo m nrem r st''→Q r st'')→wpS (model prog w) A E s t Q st') :
  wpS (model prog w) A E s (if neq > 0 then do
   let _ ← reverseSlice' (lo+m - (neq+1)) (lo+m)
   t else t) Q (setArr st ys):=by
 have hz:lo+m≤ys.size:=by rw[ho.size,hB.size];omega
 have back:∀ zs,Off (arrOf st) zs lo (lo+m)→∀ r st',zjk κ (setArr st zs) lo m nrem r st'→Q r st':=fun zs hz r st' hr=>by
  obtain ⟨q,vs,e1,e2,e3,e4,e5,e6⟩:=hr;exact h r st' ⟨q,vs,e1,by omega,e3,e4,(hz.wide (yaa _) (by omega)).trans e5,e6⟩
 by_cases hq:neq > 0
 ·rw[if_pos hq];have hoff:=zcQ (xs:=ys) (i:=lo+m - (neq+1)) (j:=lo+m) hz;have hk:=zhs (κ:=κ) hz he;have ho2:=ho.trans (hoff.wide (by omega) (yaa _));refine wpS_bind (zgP ?_);refine ht _ (hB.off ho2) (fun a b q1 q2 q3=>?_) (back _ ho2);show κ.kle (kAt κ (mirror ys (lo+m - (neq+1)) (lo+m) ((lo+m - (lo+m - (neq+1))) / 2)) b) (kAt κ (mirror ys (lo+m - (neq+1)) (lo+m) ((lo+m - (lo+m - (neq+1))) / 2)) a);rw[hk,hk];exact hD a b q1 q2 q3
 ·rw[if_neg hq];exact ht _ (hB.off ho) hD (back _ ho)
theorem zix {st:SortSt}{N lo nrem:Nat}{Q:Option Nat→SortSt→Prop}(hO:LtG prog w A s κ kd)(hB:TB κ kd N st)(hlo:lo+nrem≤N)(h1:1≤nrem)(h:∀ r st',zjk κ st lo 1 nrem r st'→Q r st') :
  wpS (model prog w) A E s (countRun' lo nrem) Q st:=by
 rw[countRun'_eq];refine wpS_bind (zoS hO hB hlo (yaa 1) h1 zqA fun m m1 m2 hU hnext=>?_);dsimp only;by_cases hm:m=nrem
 ·rw[if_pos (by simpa using hm)];exact wpS_pure (h _ _ ⟨m,arrOf st,rfl,m1,m2,rfl,Off.refl _ _ _,hU⟩)
 ·rw[if_neg (by simpa using hm)];have hnx:=hnext (by omega);by_cases hm1:m > 1
  ·rw[if_pos hm1];refine wpS_bind (zh7 hO hB (by omega) (by omega) ?_);cases e:κ.blt (kAt κ (arrOf st) lo) (kAt κ (arrOf st) (lo+m - 1)) with
   | true=>
    simp only[if_true];exact wpS_pure (h _ _ ⟨m,arrOf st,rfl,m1,m2,rfl,Off.refl _ _ _,hU⟩)
   | false=>
    simp only[yaW,if_false];have hz:lo+m≤(arrOf st).size:=by rw[hB.size];omega
    have hoff:=zcQ (xs:=arrOf st) (i:=lo) (j:=lo+m) hz;have all:∀ k,lo≤k→k < lo+m→kAt κ (arrOf st) k=kAt κ (arrOf st) (lo+m - 1):=fun k q1 q2=>
     KeyOrd.kle_antisymm (hU k (lo+m - 1) q1 (by omega) (by omega)) (KeyOrd.kle_trans (show κ.kle (kAt κ (arrOf st) (lo+m - 1)) (kAt κ (arrOf st) lo) from e) (hU lo k (yaa _) q1 q2))
    have hk:=zhs (κ:=κ) hz all;refine wpS_bind (zgP ?_);have fin:∀ r st',zjk κ (setArr st (mirror (arrOf st) lo (lo+m) ((lo+m - lo) / 2))) lo (m+1) nrem r st'→Q r st':=fun r st' hr=>by
     obtain ⟨q,vs,e1,e2,e3,e4,e5,e6⟩:=hr;exact h r st' ⟨q,vs,e1,by omega,e3,e4,(hoff.wide (yaa _) (by omega)).trans e5,e6⟩
    refine wpS_bind (zcV (wpS_bind (zk3 hO (hB.off hoff) hlo (by omega) (by omega) ?_ fun m' neq ys p1 p2 p3 ho hD' he=>?_)))
    rotate_left
    ·dsimp only;exact zjo (n:=m) (hB.off hoff) hlo p1 p2 p3 ho hD' he fin fun st' hB' hDD hh=>zk2 (fun _=>rfl) hO hB' hlo (by omega) p2 hDD hh
    ·have d0:Dn κ (arrOf st) lo (lo+m):=fun a b q1 q2 q3=>by rw[all a q1 (by omega),all b (by omega) q3];exact KeyOrd.kle_refl _
     have d1:=d0.more (by omega) (KeyOrd.kle_of_klt hnx);intro a b q1 q2 q3;show κ.kle (kAt κ (mirror (arrOf st) lo (lo+m) ((lo+m - lo) / 2)) b) (kAt κ (mirror (arrOf st) lo (lo+m) ((lo+m - lo) / 2)) a);rw[hk,hk];exact d1 a b q1 q2 (by omega)
  ·rw[if_neg hm1];have e1:m=1:=by omega
   subst e1;have fin:∀ r st',zjk κ st lo (1+1) nrem r st'→Q r st':=fun r st' hr=>by
    obtain ⟨q,vs,e1,e2,e3,e4,e5,e6⟩:=hr;exact h r st' ⟨q,vs,e1,by omega,e3,e4,e5,e6⟩
   refine wpS_bind (zcV (wpS_bind (zk3 hO hB hlo (by omega) (by omega) ?_ fun m' neq ys p1 p2 p3 ho hD' he=>?_)))
   rotate_left
   ·dsimp only;exact zjo (n:=1) hB hlo p1 p2 p3 ho hD' he fin fun st' hB' hDD hh=>zk2 (fun _=>rfl) hO hB' hlo (by omega) p2 hDD hh
   ·intro a b q1 q2 q3;by_cases hab:a=b
    ·subst hab;exact KeyOrd.kle_refl _
    ·have ea:a=lo+1 - 1:=by omega
     have eb:b=lo+1:=by omega
     rw[ea,eb];exact KeyOrd.kle_of_klt hnx
end
end Tim
namespace Tim
open PySem PyProof.Rows
set_option autoImplicit false
section
variable {prog:Program}{w:World}{A:Around}{E:Value→Shared→Prop}{s:Shared}{κ:KeyKind}{kd:SortKind}
theorem zkx {xs:Array Keyed}{src dst hi:Nat}(hs:src < xs.size)(hd:dst≤src)(hh:src < hi):Off xs (bubble xs src (src - dst)) dst hi:=
 ⟨bubble_perm _ _ _,fun k hk=>by
  rw[getElem?_bubble hs _ (by omega)];rw[if_neg (by omega),if_neg (by omega)]⟩
theorem zgG {xs:Array Keyed}{src dst:Nat}(hs:src < xs.size)(hd:dst≤src)(k:Nat):kAt κ (bubble xs src (src - dst)) k=if k=dst then kAt κ xs src else if dst < k∧k≤src then kAt κ xs (k - 1) else kAt κ xs k:=by
 have e:=getElem?_bubble hs (src - dst) (by omega) k;rw[show src - (src - dst)=dst by omega]at e;by_cases h1:k=dst
 ·rw[if_pos h1]at e ⊢;exact zbp e
 ·rw[if_neg h1]at e ⊢;by_cases h2:dst < k∧k≤src
  ·rw[if_pos h2]at e ⊢;exact zbp e
  ·rw[if_neg h2]at e ⊢;exact zbp e
theorem zgO {st:SortSt}{N lo n ok:Nat}{Q:Bool→SortSt→Prop}(hO:LtG prog w A s κ kd)(hB:TB κ kd N st)(hlo:lo+n≤N)(hok:ok≤n)(hU:Up κ (arrOf st) lo (lo+ok))
  (h:∀ ys,Off (arrOf st) ys lo (lo+n)→Up κ ys lo (lo+n)→Q true (setArr st ys)):wpS (model prog w) A E s (binarySort' lo n ok) Q st:=by
 rw[binarySort'_eq];refine wpS_bind (wpS_mono (wpS_forRange (I:=fun k c st'=>c=(none,())∧∃ ys,st'=setArr st ys∧Off (arrOf st) ys lo (lo+n)∧Up κ ys lo (lo+min k n))
  (Q:=fun c st'=>c=(none,())∧∃ ys,st'=setArr st ys∧Off (arrOf st) ys lo (lo+n)∧Up κ ys lo (lo+n)) ?step ?fin ?init) ?post)
 case post=>
  rintro c st' ⟨rfl,ys,rfl,ho,hu⟩;exact wpS_pure (h ys ho hu)
 case init=>
  refine ⟨rfl,arrOf st,rfl,Off.refl _ _ _,fun i j h1 h2 h3=>?_⟩;by_cases hz:j < lo+ok
  ·exact hU i j h1 h2 hz
  ·have:i=j:=by omega
   subst this;exact KeyOrd.kle_refl _
 case fin=>
  rintro c st' ⟨rfl,ys,rfl,ho,hu⟩;refine ⟨rfl,ys,rfl,ho,?_⟩;rwa[show min (max (max ok 1) n) n=n by omega]at hu
 case step=>
  rintro k c st' hk1 hk2 ⟨rfl,ys,rfl,ho,hu⟩;rw[show min k n=k by omega]at hu;have hB':TB κ kd N (setArr st ys):=hB.off ho;have hz:ys.size=N:=by rw[ho.size,hB.size]
  refine wpS_bind (wpS_mono (wpS_forRange (I:=fun x c st''=>st''=setArr st ys∧∃ l r,c=(none,l,r)∧l≤r∧r≤k∧r - l≤k - x∧
    (∀ i,i < l→κ.kle (kAt κ ys (lo+i)) (kAt κ ys (lo+k)))∧(∀ i,r≤i→i < k→κ.klt (kAt κ ys (lo+k)) (kAt κ ys (lo+i))))
   (Q:=fun c st''=>st''=setArr st ys∧∃ l r,c=(none,l,r)∧l≤k∧
    (∀ i,i < l→κ.kle (kAt κ ys (lo+i)) (kAt κ ys (lo+k)))∧(∀ i,l≤i→i < k→κ.klt (kAt κ ys (lo+k)) (kAt κ ys (lo+i)))) ?istep ?ifin ?iinit) ?ipost)
  case iinit=>exact ⟨rfl,0,k,rfl,by omega,by omega,by omega,fun i hi=>by omega,fun i h1 h2=>by omega⟩
  case ifin=>
   rintro c st'' ⟨rfl,l,r,rfl,hlr,hrk,hm,a1,a2⟩;have:l=r:=by omega
   subst this;exact ⟨rfl,l,l,rfl,hrk,a1,a2⟩
  case istep=>
   rintro x c st'' _ hxk ⟨rfl,l,r,rfl,hlr,hrk,hm,a1,a2⟩;dsimp only;by_cases hge:l ≥ r
   ·rw[if_pos hge];have:l=r:=by omega
    subst this;exact wpS_pure ⟨rfl,l,l,rfl,hrk,a1,a2⟩
   ·rw[if_neg hge];refine wpS_bind (zh7 hO hB' (by omega) (by omega) ?_);dsimp only;cases e:κ.blt (kAt κ ys (lo+k)) (kAt κ ys (lo+(l+r) / 2)) with
    | true=>
     refine wpS_pure ⟨rfl,l,(l+r) / 2,rfl,by omega,by omega,by omega,a1,fun i h1 h2=>?_⟩;exact KeyOrd.klt_of_klt_of_kle e (hu _ _ (by omega) (by omega) (by omega))
    | false=>
     refine wpS_pure ⟨rfl,(l+r) / 2+1,r,rfl,by omega,by omega,by omega,fun i h1=>?_,a2⟩;exact KeyOrd.kle_trans (hu (lo+i) (lo+(l+r) / 2) (by omega) (by omega) (by omega)) (show κ.kle (kAt κ ys (lo+(l+r) / 2)) (kAt κ ys (lo+k)) from e)
  case ipost=>
   rintro c st'' ⟨rfl,l,r,rfl,hlk,a1,a2⟩;dsimp only;rw[moveDown'_eq];refine wpS_bind (wpS_modify (wpS_pure ⟨rfl,_,rfl,ho.trans ((zkx (hi:=lo+n) (by rw[hz];omega) (by omega) (by omega)).wide (by omega) (yaa _)),?_⟩));rw[show min (k+1) n=k+1 by omega];intro i j h1 h2 h3;show κ.kle (kAt κ (bubble ys (lo+k) (lo+k - (lo+l))) i) (kAt κ (bubble ys (lo+k) (lo+k - (lo+l))) j);rw[zgG (by rw[hz];omega) (by omega),zgG (by rw[hz];omega) (by omega)];have lowS:∀ i,lo≤i→i < lo+l→κ.kle (kAt κ ys i) (kAt κ ys (lo+k)):=fun i q1 q2=>by
    have:=a1 (i - lo) (by omega);rw[show lo+(i - lo)=i by omega]at this;exact this
   have highS:∀ i,lo+l≤i→i < lo+k→κ.kle (kAt κ ys (lo+k)) (kAt κ ys i):=fun i q1 q2=>by
    have:=a2 (i - lo) (by omega) (by omega);rw[show lo+(i - lo)=i by omega]at this;exact KeyOrd.kle_of_klt this
   by_cases i1:i=lo+l
   ·rw[if_pos i1];by_cases j1:j=lo+l
    ·rw[if_pos j1];exact KeyOrd.kle_refl _
    ·rw[if_neg j1,if_pos (by omega)];exact highS _ (by omega) (by omega)
   ·rw[if_neg i1];by_cases i2:lo+l < i∧i≤lo+k
    ·rw[if_pos i2,if_neg (by omega),if_pos (by omega)];exact hu _ _ (by omega) (by omega) (by omega)
    ·rw[if_neg i2];by_cases j1:j=lo+l
     ·rw[if_pos j1];exact lowS i h1 (by omega)
     ·rw[if_neg j1];by_cases j2:lo+l < j∧j≤lo+k
      ·rw[if_pos j2];exact hu _ _ h1 (by omega) (by omega)
      ·rw[if_neg j2];exact hu _ _ h1 h2 (by omega)
end
end Tim
namespace Tim
open PySem PyProof.Rows
set_option autoImplicit false
section
variable {M:Model}{A:Around}{E:Value→Shared→Prop}{s:Shared}{st:SortSt}{n hint:Nat}{p:Nat→Bool}
abbrev C2:=Option (Option Nat)×Nat×Nat
theorem zni {Q:C2→SortSt→Prop}{f:Nat→C2→StateT SortSt Sem (ForInStep C2)}(hn:hint < n)(hp:p hint=true)
  (f1:∀ x l o,o ≥ n - hint→f x (none,l,o)=pure (.done (none,l,o)))
  (f2:∀ x l o (R:ForInStep C2→SortSt→Prop),o < n - hint→(p (hint+o)=true→R (.yield (none,o,2 * o+1)) st)→(p (hint+o)=false→R (.done (none,l,o)) st)→wpS M A E s (f x (none,l,o)) R st)
  (h:∀ l o,l < o→hint+l < n→p (hint+l)=true→(o < n - hint→p (hint+o)=false)→Q (none,l,o) st):wpS M A E s (forIn [:n] ((none,0,1):C2) f) Q st:=by
 refine wpS_forRange (I:=fun i c st'=>st'=st∧∃ l o,c=(none,l,o)∧l < o∧i+1≤o∧hint+l < n∧p (hint+l)=true) ?_ ?_ ⟨rfl,0,1,rfl,by omega,by omega,by omega,hp⟩
 ·rintro i c st' _ hi ⟨rfl,l,o,rfl,h1,h2,h3,h4⟩;by_cases ho:o ≥ n - hint
  ·rw[f1 i l o ho];exact wpS_pure (h l o h1 h3 h4 fun z=>absurd z (by omega))
  ·refine f2 i l o _ (by omega) (fun e=>?_) fun e=>?_
   ·exact ⟨rfl,o,2 * o+1,rfl,by omega,by omega,by omega,e⟩
   ·exact h l o h1 h3 h4 fun _=>e
 ·rintro c st' ⟨rfl,l,o,rfl,h1,h2,h3,h4⟩;exact h l o h1 h3 h4 fun z=>absurd z (by omega)
theorem zpj {Q:C2→SortSt→Prop}{f:Nat→C2→StateT SortSt Sem (ForInStep C2)}(hn:hint < n)(hp:p hint=false)
  (f1:∀ x l o,o ≥ hint+1→f x (none,l,o)=pure (.done (none,l,o)))
  (f2:∀ x l o (R:ForInStep C2→SortSt→Prop),o < hint+1→(p (hint - o)=false→R (.yield (none,o,2 * o+1)) st)→(p (hint - o)=true→R (.done (none,l,o)) st)→wpS M A E s (f x (none,l,o)) R st)
  (h:∀ l o,l < o→l≤hint→p (hint - l)=false→(o < hint+1→p (hint - o)=true)→Q (none,l,o) st):wpS M A E s (forIn [:n] ((none,0,1):C2) f) Q st:=by
 refine wpS_forRange (I:=fun i c st'=>st'=st∧∃ l o,c=(none,l,o)∧l < o∧i+1≤o∧l≤hint∧p (hint - l)=false) ?_ ?_ ⟨rfl,0,1,rfl,by omega,by omega,by omega,hp⟩
 ·rintro i c st' _ hi ⟨rfl,l,o,rfl,h1,h2,h3,h4⟩;by_cases ho:o ≥ hint+1
  ·rw[f1 i l o ho];exact wpS_pure (h l o h1 h3 h4 fun z=>absurd z (by omega))
  ·refine f2 i l o _ (by omega) (fun e=>?_) fun e=>?_
   ·exact ⟨rfl,o,2 * o+1,rfl,by omega,by omega,by omega,e⟩
   ·exact h l o h1 h3 h4 fun _=>e
 ·rintro c st' ⟨rfl,l,o,rfl,h1,h2,h3,h4⟩;exact h l o h1 h3 h4 fun z=>absurd z (by omega)
theorem zjn {Q:Option Nat→SortSt→Prop}{lo hi:Nat}{f:Nat→C2→StateT SortSt Sem (ForInStep C2)}{k:C2→StateT SortSt Sem (Option Nat)}
  (anti:∀ i j,i≤j→j < n→p j=true→p i=true) (h1:lo≤hi) (h2:hi≤n) (hl:∀ i,i < lo→p i=true) (hh:∀ i,hi≤i→i < n→p i=false)
  (f1:∀ x l r,l ≥ r→f x (none,l,r)=pure (.done (none,l,r)))
  (f2:∀ x l r (R:ForInStep C2→SortSt→Prop),l < r→r≤n→(p (l+(r - l) / 2)=true→R (.yield (none,l+(r - l) / 2+1,r)) st)→(p (l+(r - l) / 2)=false→R (.yield (none,l,l+(r - l) / 2)) st)→wpS M A E s (f x (none,l,r)) R st)
  (hk:∀ l r,k (none,l,r)=pure (some r))
  (h:∀ m,m≤n→(∀ i,i < m→p i=true)→(∀ i,m≤i→i < n→p i=false)→Q (some m) st):wpS M A E s (do let c ← forIn [:n] ((none,lo,hi):C2) f;k c) Q st:=by
 refine wpS_bind (wpS_mono (wpS_forRange (I:=fun x c st'=>st'=st∧∃ l r,c=(none,l,r)∧l≤r∧r≤n∧r - l≤n - x∧(∀ i,i < l→p i=true)∧∀ i,r≤i→i < n→p i=false)
  (Q:=fun c st'=>st'=st∧∃ m,c=(none,m,m)∧m≤n∧(∀ i,i < m→p i=true)∧∀ i,m≤i→i < n→p i=false) ?_ ?_ ⟨rfl,lo,hi,rfl,h1,h2,by omega,hl,hh⟩) ?_)
 ·rintro x c st' _ hx ⟨rfl,l,r,rfl,a1,a2,a3,a4,a5⟩;by_cases hge:l ≥ r
  ·rw[f1 x l r hge];have:l=r:=by omega
   subst this;exact wpS_pure ⟨rfl,l,rfl,a2,a4,a5⟩
  ·refine f2 x l r _ (by omega) a2 (fun e=>?_) fun e=>?_
   ·exact ⟨rfl,_,r,rfl,by omega,a2,by omega,fun i hi=>anti i _ (by omega) (by omega) e,a5⟩
   ·refine ⟨rfl,l,_,rfl,by omega,by omega,by omega,a4,fun i q1 q2=>?_⟩;cases z:p i with
    | false=>rfl
    | true=>rw[anti _ i q1 q2 z]at e;cases e
 ·rintro c st' ⟨rfl,l,r,rfl,a1,a2,a3,a4,a5⟩;have:l=r:=by omega
  subst this;exact ⟨rfl,l,rfl,a2,a4,a5⟩
 ·rintro c st' ⟨rfl,m,rfl,a2,a4,a5⟩;rw[hk];exact wpS_pure (h m a2 a4 a5)
end
def zi3:Bool→Keyed→Array Keyed→Nat→Nat→Nat→StateT SortSt Sem (Option Nat):=sortPriv% PySem.Builtin.gallop
section
variable {prog:Program}{w:World}{A:Around}{E:Value→Shared→Prop}{s:Shared}{κ:KeyKind}{kd:SortKind}
def bey (κ:KeyKind)(left:Bool)(key:Keyed)(arr:Array Keyed)(base i:Nat):Bool:=if left=true then κ.blt (kAt κ arr (base+i)) (ky κ key) else !κ.blt (ky κ key) (kAt κ arr (base+i))
theorem zcK {st:SortSt}{left:Bool}{key:Keyed}{arr:Array Keyed}{base n hint:Nat}{Q:Option Nat→SortSt→Prop}(hO:LtG prog w A s κ kd)(hkd:kindOf st=kd)(hkey:Keyd κ key)(hks:∀ q∈arr.toList,Keyd κ q)
  (hz:base+n≤arr.size) (hn:hint < n) (hU:Up κ arr base (base+n))
  (h:∀ m,m≤n→(∀ i,i < m→bey κ left key arr base i=true)→(∀ i,m≤i→i < n→bey κ left key arr base i=false)→Q (some m) st):wpS (model prog w) A E s (zi3 left key arr base n hint) Q st:=by
 have anti:∀ i j,i≤j→j < n→bey κ left key arr base j=true→bey κ left key arr base i=true:=by
  intro i j hij hj;have hle:=hU (base+i) (base+j) (by omega) (by omega) (by omega);unfold bey;cases left with
  | true=>
   simp only[if_true];intro e;exact KeyOrd.klt_of_kle_of_klt hle e
  | false=>
   simp only[yaW,if_false];intro e;cases z:κ.blt (ky κ key) (kAt κ arr (base+i)) with
   | false=>rfl
   | true=>
    have:κ.blt (ky κ key) (kAt κ arr (base+j))=true:=KeyOrd.klt_of_klt_of_kle z hle;rw[this]at e;cases e
 have hb:∀ i (R:Option Bool→SortSt→Prop),i < n→R (some (bey κ left key arr base i)) st→wpS (model prog w) A E s (do
   let x ← elem' arr (base+i)
   if left=true then lt' x key else do
    let r ← lt' key x
    pure (Option.map (fun b=>!b) r)) R st:=fun i R hi hR=>by
  have hi':base+i < arr.size:=by omega
  refine wpS_bind (zbb hi' ?_);have hkx:Keyd κ arr[base+i]:=hks _ (by simp);unfold bey at hR;rw[zbc hi']at hR;cases left with
  | true=>
   rw[if_pos rfl]at hR ⊢;exact lt_G hO hkd hkx hkey hR
  | false=>
   rw[if_neg (by decide)]at hR ⊢;exact wpS_bind (lt_G hO hkd hkey hkx (wpS_pure hR))
 refine wpS_bind (hb hint _ hn ?_);dsimp only;generalize bey κ left key arr base=p at *;cases e0:p hint with
 | true=>
  simp only[if_true];refine wpS_bind (zni (p:=p) hn e0 (fun x l o ho=>?_) (fun x l o R ho r1 r2=>?_) fun l o a1 a2 a3 a4=>?_)
  ·dsimp only;rw[if_pos ho]
  ·dsimp only;rw[if_neg (by omega)];refine wpS_bind (hb (hint+o) _ (by omega) ?_);dsimp only;cases e:p (hint+o) with
   | true=>exact wpS_pure (r1 e)
   | false=>exact wpS_pure (r2 e)
  ·dsimp only;refine zjn (p:=p) anti (by omega) (by omega) (fun i hi=>anti i (hint+l) (by omega) a2 a3) (fun i q1 q2=>?_) (fun x l r hge=>?_) (fun x l r R q1 q2 r1 r2=>?_) (fun _ _=>rfl) h
   ·by_cases ho:o < n - hint
    ·cases z:p i with
     | false=>rfl
     | true=>
      have:=anti (hint+o) i (by omega) q2 z;rw[a4 ho]at this;cases this
    ·exact absurd q2 (by omega)
   ·dsimp only;rw[if_pos hge]
   ·dsimp only;rw[if_neg (by omega)];refine wpS_bind (hb _ _ (by omega) ?_);dsimp only;cases e:p (l+(r - l) / 2) with
    | true=>exact wpS_pure (r1 e)
    | false=>exact wpS_pure (r2 e)
 | false=>
  simp only[yaW,if_false];refine wpS_bind (zpj (p:=p) hn e0 (fun x l o ho=>?_) (fun x l o R ho r1 r2=>?_) fun l o a1 a2 a3 a4=>?_)
  ·dsimp only;rw[if_pos ho]
  ·dsimp only;rw[if_neg (by omega)];refine wpS_bind (hb (hint - o) _ (by omega) ?_);dsimp only;cases e:p (hint - o) with
   | true=>exact wpS_pure (r2 e)
   | false=>exact wpS_pure (r1 e)
  ·dsimp only;refine zjn (p:=p) anti (by omega) (by omega) (fun i hi=>?_) (fun i q1 q2=>?_) (fun x l r hge=>?_) (fun x l r R q1 q2 r1 r2=>?_) (fun _ _=>rfl) h
   ·by_cases ho:o < hint+1
    ·exact anti i (hint - o) (by omega) (by omega) (a4 ho)
    ·exact absurd hi (by omega)
   ·cases z:p i with
    | false=>rfl
    | true=>
     have:=anti (hint - l) i (by omega) q2 z;rw[a3]at this;cases this
   ·dsimp only;rw[if_pos hge]
   ·dsimp only;rw[if_neg (by omega)];refine wpS_bind (hb _ _ (by omega) ?_);dsimp only;cases e:p (l+(r - l) / 2) with
    | true=>exact wpS_pure (r1 e)
    | false=>exact wpS_pure (r2 e)
end
end Tim
namespace Tim
open PySem PyProof.Rows
set_option autoImplicit false
section
variable {κ:KeyKind}
def le (κ:KeyKind)(x y:Keyed):Prop:=κ.kle (ky κ x) (ky κ y)
theorem le_refl (x:Keyed):le κ x x:=KeyOrd.kle_refl _
theorem le_trans {x y z:Keyed}(h1:le κ x y)(h2:le κ y z):le κ x z:=KeyOrd.kle_trans h1 h2
abbrev SL (κ:KeyKind)(l:List Keyed):Prop:=l.Pairwise (le κ)
theorem SL.drop {l:List Keyed}(h:SL κ l)(n:Nat):SL κ (l.drop n):=h.sublist (yb5 n l)
theorem SL.take {l:List Keyed}(h:SL κ l)(n:Nat):SL κ (l.take n):=h.sublist (List.take_sublist n l)
theorem zeD {xs:Array Keyed}{i:Nat}(h:i < xs.size):xs.toList.drop i=xs[i]::xs.toList.drop (i+1):=by
 have h':i < xs.toList.length:=by simpa using h
 rw[yb6 h'];simp
theorem zdt {xs:Array Keyed}{i:Nat}(hs:SL κ xs.toList)(h:i < xs.size):∀ y∈xs.toList.drop i,le κ xs[i] y:=by
 intro y hy;have q:=hs.drop i;rw[zeD h]at q hy;rcases yak.mp hy with rfl | hy
 ·exact le_refl _
 ·exact (yb7.mp q).1 y hy
theorem zee {xs:Array Keyed}{i k:Nat}{x:Keyed}(h:x∈(xs.toList.drop i).take k):∃ j,j < k∧i+j < xs.size∧xs[i+j]?=some x:=by
 obtain ⟨j,hj,e⟩:=List.mem_iff_getElem.mp h;have hj':=hj;rw[yan,yaM,yau]at hj';refine ⟨j,by omega,by omega,?_⟩;rw[ybn,List.getElem_drop]at e;rw[ya3 (by omega)];simpa using e
theorem zc7 {xs:Array Keyed}{i:Nat}{x:Keyed}(h:xs[i]?=some x):kAt κ xs i=ky κ x:=by
 unfold kAt;rw[h]
theorem zgS {xs:Array Keyed}(hs:SL κ xs.toList)(lo hi:Nat)(hh:hi≤xs.size):Up κ xs lo hi:=by
 intro i j h1 h2 h3;have hj:j < xs.size:=by omega
 have hi:i < xs.size:=by omega
 rw[zbc hi,zbc hj];refine zdt hs hi _ ?_;rw[List.mem_iff_getElem];refine ⟨j - i,by rw[yaM,yau];omega,?_⟩;rw[List.getElem_drop];simp[show i+(j - i)=j by omega]
theorem zp1 {xs:Array Keyed}(h:Up κ xs 0 xs.size):SL κ xs.toList:=by
 rw[SL,yaV];intro i j hi hj hij;have hi':i < xs.size:=by simpa using hi
 have hj':j < xs.size:=by simpa using hj
 have:=h i j (yaF _) (by omega) hj';rw[zbc hi',zbc hj']at this;simpa [le] using this
structure MI (κ:KeyKind)(a b:Array Keyed)(out:Array Keyed)(ia ib:Nat):Prop where
 perm:(out.toList++(a.toList.drop ia++b.toList.drop ib)).Perm (a.toList++b.toList)
 srt:SL κ out.toList
 low:∀ x∈out.toList,∀ y∈a.toList.drop ia++b.toList.drop ib,le κ x y
variable {a b out:Array Keyed}{ia ib:Nat}
theorem MI.goA {out':Array Keyed}{k:Nat}(h:MI κ a b out ia ib)(sa:SL κ a.toList)(ho:out'.toList=out.toList++(a.toList.drop ia).take k)(hle:∀ x∈(a.toList.drop ia).take k,∀ y∈b.toList.drop ib,le κ x y):MI κ a b out' (ia+k) ib:=by
 have e:a.toList.drop ia=(a.toList.drop ia).take k++a.toList.drop (ia+k):=by
  rw[← ybE,yaP]
 have s1:=sa.drop ia;rw[e]at s1;obtain ⟨p1,p2,p3⟩:=yaG.mp s1;refine ⟨?_,?_,?_⟩
 ·have q:=h.perm;rw[e]at q;rw[ho];simpa [yaQ] using q
 ·rw[ho];exact yaG.mpr ⟨h.srt,p1,fun x hx y hy=>h.low x hx y (yaZ _ (ybv hy))⟩
 ·intro x hx y hy;rw[ho]at hx;rcases yai.mp hx with hx | hx
  ·refine h.low x hx y ?_;rcases yai.mp hy with hy | hy
   ·refine yaZ _ ?_;rw[e];exact yaC _ hy
   ·exact yaC _ hy
  ·rcases yai.mp hy with hy | hy
   ·exact p3 x hx y hy
   ·exact hle x hx y hy
theorem MI.goB {out':Array Keyed}{k:Nat}(h:MI κ a b out ia ib)(sb:SL κ b.toList)(ho:out'.toList=out.toList++(b.toList.drop ib).take k)(hle:∀ x∈(b.toList.drop ib).take k,∀ y∈a.toList.drop ia,le κ x y):MI κ a b out' ia (ib+k):=by
 have e:b.toList.drop ib=(b.toList.drop ib).take k++b.toList.drop (ib+k):=by
  rw[← ybE,yaP]
 have s1:=sb.drop ib;rw[e]at s1;obtain ⟨p1,p2,p3⟩:=yaG.mp s1;refine ⟨?_,?_,?_⟩
 ·have q:=h.perm;rw[e]at q;rw[ho];refine List.Perm.trans ?_ q;rw[yaQ];refine List.Perm.append_left _ ?_;rw[← yaQ,← yaQ];exact List.Perm.append_right _ yb8
 ·rw[ho];exact yaG.mpr ⟨h.srt,p1,fun x hx y hy=>h.low x hx y (yaC _ (ybv hy))⟩
 ·intro x hx y hy;rw[ho]at hx;rcases yai.mp hx with hx | hx
  ·refine h.low x hx y ?_;rcases yai.mp hy with hy | hy
   ·exact yaZ _ hy
   ·refine yaC _ ?_;rw[e];exact yaC _ hy
  ·rcases yai.mp hy with hy | hy
   ·exact hle x hx y hy
   ·exact p3 x hx y hy
theorem zed {xs:Array Keyed}{i:Nat}(h:i < xs.size):(xs.toList.drop i).take 1=[xs[i]]:=by
 rw[zeD h];rfl
theorem MI.pa (h:MI κ a b out ia ib)(sa:SL κ a.toList)(hia:ia < a.size)(hle:∀ y∈b.toList.drop ib,le κ a[ia] y):MI κ a b (out.push a[ia]) (ia+1) ib:=
 h.goA (k:=1) sa (by rw[zed hia,ybX]) (by
  rw[zed hia];intro x hx;rw[yaj.mp hx];exact hle)
theorem MI.pb (h:MI κ a b out ia ib)(sb:SL κ b.toList)(hib:ib < b.size)(hle:∀ y∈a.toList.drop ia,le κ b[ib] y):MI κ a b (out.push b[ib]) ia (ib+1):=
 h.goB (k:=1) sb (by rw[zed hib,ybX]) (by
  rw[zed hib];intro x hx;rw[yaj.mp hx];exact hle)
structure zb4 (κ:KeyKind)(a b m:Array Keyed):Prop where
 perm:m.toList.Perm (a.toList++b.toList)
 srt:SL κ m.toList
theorem ze0 {xs:Array Keyed}{i k:Nat}:(xs.extract i (i+k)).toList=(xs.toList.drop i).take k:=by
 rw[yb9,yca,Nat.add_sub_cancel_left]
theorem ze1 {xs:Array Keyed}{i:Nat}:(xs.extract i xs.size).toList=xs.toList.drop i:=by
 rw[yb9,yca];exact yao (by rw[yaM,yau];exact yaa _)
theorem MI.done (h:MI κ a b out ia ib)(sa:SL κ a.toList)(hib:b.size≤ib):zb4 κ a b (out++a.extract ia a.size++b.extract ib b.size):=by
 have e:b.toList.drop ib=[]:=yaX (by rw[yau];exact hib);have e2:(out++a.extract ia a.size++b.extract ib b.size).toList=out.toList++(a.toList.drop ia++b.toList.drop ib):=by
  rw[yaR,yaR,ze1,ze1,yaQ]
 refine ⟨by rw[e2];exact h.perm,?_⟩;rw[e2,e,yaJ];refine yaG.mpr ⟨h.srt,sa.drop ia,fun x hx y hy=>h.low x hx y (yaZ _ hy)⟩
theorem MI.doneA (h:MI κ a b out ia ib)(sb:SL κ b.toList)(hia:a.size≤ia):zb4 κ a b (out++a.extract ia a.size++b.extract ib b.size):=by
 have e:a.toList.drop ia=[]:=yaX (by rw[yau];exact hia);have e2:(out++a.extract ia a.size++b.extract ib b.size).toList=out.toList++(a.toList.drop ia++b.toList.drop ib):=by
  rw[yaR,yaR,ze1,ze1,yaQ]
 refine ⟨by rw[e2];exact h.perm,?_⟩;rw[e2,e,List.nil_append];refine yaG.mpr ⟨h.srt,sb.drop ib,fun x hx y hy=>h.low x hx y (yaC _ hy)⟩
theorem MI.last (h:MI κ a b out ia ib)(sa:SL κ a.toList)(sb:SL κ b.toList)(hl:∀ y∈b.toList,∀ x∈a.toList.drop ia,le κ y x):zb4 κ a b (out++b.extract ib b.size++a.extract ia a.size):=by
 have e2:(out++b.extract ib b.size++a.extract ia a.size).toList=out.toList++(b.toList.drop ib++a.toList.drop ia):=by
  rw[yaR,yaR,ze1,ze1,yaQ]
 refine ⟨?_,?_⟩
 ·rw[e2];exact (List.Perm.append_left _ yb8).trans h.perm
 ·rw[e2];refine yaG.mpr ⟨h.srt,yaG.mpr ⟨sb.drop ib,sa.drop ia,fun x hx y hy=>hl x (ybF hx) y hy⟩,fun x hx y hy=>h.low x hx y ?_⟩;rcases yai.mp hy with q | q
  ·exact yaC _ q
  ·exact yaZ _ q
end
end Tim
namespace Tim
open PySem PyProof.Rows
set_option autoImplicit false
def zjV:Array Keyed→Array Keyed→StateT SortSt Sem (Array Keyed):=sortPriv% PySem.Builtin.mergeLo
def zkm:Nat→StateT SortSt Sem Unit:=sortPriv% PySem.Builtin.setMinGallop
structure SG (st st':SortSt):Prop where
 kind:kindOf st'=kindOf st
 arr:arrOf st'=arrOf st
 pend:pendingOf st'=pendingOf st
 failed:failedOf st'=failedOf st
theorem SG.refl (st:SortSt):SG st st:=⟨rfl,rfl,rfl,rfl⟩
theorem SG.trans {s1 s2 s3:SortSt}(h:SG s1 s2)(g:SG s2 s3):SG s1 s3:=⟨g.kind.trans h.kind,g.arr.trans h.arr,g.pend.trans h.pend,g.failed.trans h.failed⟩
section
variable {prog:Program}{w:World}{A:Around}{E:Value→Shared→Prop}{s:Shared}{κ:KeyKind}{kd:SortKind}
theorem zcu {g:Nat}{st st0:SortSt}{Q:Unit→SortSt→Prop}(hg:SG st0 st)(h:∀ st',SG st0 st'→Q () st'):wpS (model prog w) A E s (zkm g) Q st:=by
 refine wpS_modify (h _ (hg.trans ⟨rfl,rfl,rfl,rfl⟩))
theorem mp2 {P g:Prop}(k:P)(m:P→g):g:=m k
set_option maxHeartbeats 4000000 in
theorem zke {st:SortSt}{a b:Array Keyed}{Q:Array Keyed→SortSt→Prop}(hO:LtG prog w A s κ kd)(hkd:kindOf st=kd)(ka:∀ q∈a.toList,Keyd κ q)(kb:∀ q∈b.toList,Keyd κ q)(sa:SL κ a.toList)(sb:SL κ b.toList)
  (ha:0 < a.size) (hb:0 < b.size) (h0:∀ y∈a.toList,le κ b[0] y) (hl:∀ y∈b.toList,∀ i,i+1=a.size→∀ x∈a.toList.drop i,le κ y x)
  (h:∀ m st',zb4 κ a b m→SG st st'→Q m st'):wpS (model prog w) A E s (zjV a b) Q st:=by
 have m0:MI κ a b #[b[0]] 0 1:=by
  have z:MI κ a b #[] 0 0:=⟨by simp,by simp,by simp⟩;have:=z.pb sb hb (by simpa using h0);simpa using this
 refine wpS_bind (zcV ?_);dsimp only;refine wpS_bind (zbb hb ?_);by_cases e1:1=b.size
 ·rw[if_pos (by simpa using e1)];exact wpS_pure (h _ _ (m0.done sa (by omega)) (SG.refl st))
 rw[if_neg (by simpa using e1)];by_cases e2:0+1=a.size
 ·rw[if_pos (by simpa using e2)];exact wpS_pure (h _ _ (m0.last sa sb (fun y hy x hx=>hl y hy 0 e2 x hx)) (SG.refl st))
 rw[if_neg (by simpa using e2)];refine wpS_bind (wpS_get ?_);refine wpS_bind (wpS_mono (wpS_forRange (I:=fun i c st'=>SG st st'∧∃ out ia ib g,c=(none,out,ia,ib,g)∧MI κ a b out ia ib∧ia+1 < a.size∧ib < b.size∧i+1≤ia+ib)
  (Q:=fun c st'=>SG st st'∧∃ m r,c=(some m,r)∧zb4 κ a b m) ?step ?fin ⟨SG.refl st,_,0,1,_,rfl,m0,by omega,by omega,by omega⟩) ?post)
 case post=>
  rintro c st' ⟨g,m,r,rfl,hm⟩;exact wpS_pure (h m st' hm g)
 case fin=>
  rintro c st' ⟨g,out,ia,ib,gg,rfl,hm,q1,q2,q3⟩;exact absurd q3 (by omega)
 case step=>
  rintro i c st1 _ hi ⟨g1,out,ia,ib,gg,rfl,hm,q1,q2,q3⟩;dsimp only;refine wpS_bind (wpS_mono (wpS_forRange (I:=fun x c st'=>st'=st1∧∃ out' ia' ib' ca cb,c=(none,out',ia',ib',ca,cb)∧MI κ a b out' ia' ib'∧ia'+1 < a.size∧ib' < b.size∧ia+ib+x≤ia'+ib')
   (Q:=fun c st'=>st'=st1∧((∃ m r,c=(some m,r)∧zb4 κ a b m)∨∃ out' ia' ib' ca cb,c=(none,out',ia',ib',ca,cb)∧MI κ a b out' ia' ib'∧ia'+1 < a.size∧ib' < b.size∧ia+ib+1≤ia'+ib')) ?istep ?ifin ⟨rfl,out,ia,ib,0,0,rfl,hm,q1,q2,by omega⟩) ?ipost)
  case ifin=>
   rintro c st' ⟨rfl,out',ia',ib',ca,cb,rfl,hm',r1,r2,r3⟩;exact ⟨rfl,.inr ⟨out',ia',ib',ca,cb,rfl,hm',r1,r2,by omega⟩⟩
  case istep=>
   rintro x c st' _ hx ⟨rfl,out',ia',ib',ca,cb,rfl,hm',r1,r2,r3⟩;dsimp only;refine wpS_bind (zbb r2 (wpS_bind (zbb (show ia' < a.size by omega) (wpS_bind (lt_G hO (by rw[g1.kind];exact hkd) (kb _ (by simp)) (ka _ (by simp)) ?_)))));dsimp only;cases e:κ.blt (ky κ b[ib']) (ky κ (a[ia']'(by omega))) with
   | true=>
    simp only[if_true];have hm2:=hm'.pb sb r2 (fun y hy=>le_trans (show le κ b[ib'] (a[ia']'(by omega)) from KeyOrd.kle_of_klt e) (zdt sa (by omega) y hy));refine wpS_bind (zbb r2 ?_);by_cases z:ib'+1=b.size
    ·rw[if_pos (by simpa using z)];exact wpS_pure ⟨rfl,.inl ⟨_,_,rfl,hm2.done sa (by omega)⟩⟩
    ·rw[if_neg (by simpa using z)];split
     ·exact wpS_pure ⟨rfl,.inr ⟨_,_,_,_,_,rfl,hm2,by omega,by omega,by omega⟩⟩
     ·exact wpS_pure ⟨rfl,_,_,_,_,_,rfl,hm2,by omega,by omega,by omega⟩
   | false=>
    simp only[yaW,if_false];have hm2:=hm'.pa sa (show ia' < a.size by omega) (fun y hy=>le_trans (show le κ (a[ia']'(by omega)) b[ib'] from e) (zdt sb r2 y hy));refine wpS_bind (zbb (show ia' < a.size by omega) ?_);by_cases z:ia'+1+1=a.size
    ·rw[if_pos (by simpa using z)];exact wpS_pure ⟨rfl,.inl ⟨_,_,rfl,hm2.last sa sb (fun y hy x hx=>hl y hy _ z x hx)⟩⟩
    ·rw[if_neg (by simpa using z)];split
     ·exact wpS_pure ⟨rfl,.inr ⟨_,_,_,_,_,rfl,hm2,by omega,by omega,by omega⟩⟩
     ·exact wpS_pure ⟨rfl,_,_,_,_,_,rfl,hm2,by omega,by omega,by omega⟩
  case ipost=>
   rintro c st' ⟨rfl,⟨m,r,rfl,hmm⟩ | ⟨out,ia',ib',ca,cb,rfl,hm,q1,q2,q4⟩⟩
   ·exact wpS_pure ⟨g1,m,_,rfl,hmm⟩
   dsimp only;refine wpS_bind (zcV ?_);refine wpS_bind (wpS_mono (wpS_forRange (I:=fun x c st''=>SG st st''∧∃ out1 ia1 ib1 gg ca cb,c=(none,out1,ia1,ib1,gg,ca,cb)∧MI κ a b out1 ia1 ib1∧ia1+1 < a.size∧ib1 < b.size∧ia+ib+1≤ia1+ib1)
    (Q:=fun c st''=>SG st st''∧((∃ m r,c=(some m,r)∧zb4 κ a b m)∨∃ out1 ia1 ib1 gg ca cb,c=(none,out1,ia1,ib1,gg,ca,cb)∧MI κ a b out1 ia1 ib1∧ia1+1 < a.size∧ib1 < b.size∧ia+ib+1≤ia1+ib1)) ?jstep ?jfin ⟨g1,_,_,_,_,_,_,rfl,hm,q1,q2,q4⟩) ?jpost)
   case jfin=>
    rintro c st'' ⟨g2,out1,ia1,ib1,gg1,ca1,cb1,rfl,r⟩;exact ⟨g2,.inr ⟨_,_,_,_,_,_,rfl,r⟩⟩
   case jpost=>
    rintro c st'' ⟨g2,⟨m,r,rfl,hmm⟩ | ⟨out1,ia1,ib1,gg1,ca1,cb1,rfl,hm1,t1,t2,t3⟩⟩
    ·exact wpS_pure ⟨g2,m,_,rfl,hmm⟩
    ·dsimp only;exact wpS_bind (zcu g2 fun st3 g3=>wpS_pure ⟨g3,_,_,_,_,rfl,hm1,t1,t2,by omega⟩)
   case jstep=>
    rintro x c st'' _ hx ⟨g2,out1,ia1,ib1,gg1,ca1,cb1,rfl,hm1,t1,t2,t3⟩;dsimp only;apply mp2
    case m=>
     intro key;by_cases hg:gg1 > 1
     ·rw[if_pos hg];generalize gg1 - 1=gg2
      revert gg2
      exact key
     ·rw[if_neg hg];generalize gg1=gg2
      revert gg2
      exact key
    intro gg2;refine wpS_bind (zcu g2 fun st3 g3=>?_);refine wpS_bind (zbb t2 (wpS_bind (zcK hO (by rw[g3.kind];exact hkd) (kb _ (by simp)) ka (by omega) (by omega) (zgS sa _ _ (by omega)) fun k k1 k2 k3=>?_)));dsimp only;have hmk:MI κ a b (out1++a.extract ia1 (ia1+k)) (ia1+k) ib1:=hm1.goA sa (by rw[yaR,ze0]) fun x hx y hy=>by
     obtain ⟨j,j1,j2,j3⟩:=zee hx;have q:=k2 j j1;unfold bey at q;rw[if_neg (by decide),zc7 j3,ybY]at q;exact le_trans (show le κ x b[ib1] from q) (zdt sb t2 y hy)
    have bk:∀ hq:ia1+k < a.size,∀ y∈a.toList.drop (ia1+k),le κ b[ib1] y:=fun hq y hy=>by
     have q:=k3 k (yaa _) (by omega);unfold bey at q;rw[if_neg (by decide),zbc hq,ycw]at q;exact le_trans (show le κ b[ib1] a[ia1+k] from KeyOrd.kle_of_klt q) (zdt sa hq y hy)
    apply mp2
    case m=>
     by_cases hk:k > 0
     ·by_cases z:ia1+k+1=a.size
      ·intro h;clear h;rw[if_pos hk,if_pos (by simpa using z)];exact wpS_pure ⟨g3,.inl ⟨_,_,rfl,hmk.last sa sb (fun y hy x hx=>hl y hy _ z x hx)⟩⟩
      have z0:¬(ia1+k+1 == a.size)=true:=by simpa using z
      by_cases z':ia1+k=a.size
      ·intro h;clear h;rw[if_pos hk,if_neg z0,if_pos (by simpa using z')];exact wpS_pure ⟨g3,.inl ⟨_,_,rfl,hmk.doneA sb (by omega)⟩⟩
      have z1:¬(ia1+k == a.size)=true:=by simpa using z'
      have u2:=bk (by omega);have w1:ia1+k+1 < a.size:=by omega
      have w3:ia+ib+1≤ia1+k+ib1:=by omega
      intro key;rw[if_pos hk,if_neg z0,if_neg z1];refine (?_:MI κ a b (out1++a.extract ia1 (ia1+k)) (ia1+k) ib1→(∀ y∈a.toList.drop (ia1+k),le κ (b[ib1]'t2) y)→ia1+k+1 < a.size→ia+ib+1≤ia1+k+ib1→_) hmk u2 w1 w3;generalize out1++a.extract ia1 (ia1+k)=out2;generalize ia1+k=ja;generalize k=cnt
      revert out2 ja cnt
      exact key
     ·have e0:k=0:=by omega
      have u2:=bk (by omega);rw[e0,ybw]at u2;intro key;rw[if_neg hk];refine (?_:MI κ a b out1 ia1 ib1→(∀ y∈a.toList.drop ia1,le κ (b[ib1]'t2) y)→ia1+1 < a.size→ia+ib+1≤ia1+ib1→_) hm1 u2 t1 t3;generalize k=cnt;generalize ia1=ja;generalize out1=out2;exact key out2 ja cnt
    intro out2 ja cnt hm2 u2 w1 w3;refine wpS_bind (zbb t2 ?_);have hm3:=hm2.pb sb t2 u2;by_cases z2:ib1+1=b.size
    ·rw[if_pos (by simpa using z2)];exact wpS_pure ⟨g3,.inl ⟨_,_,rfl,hm3.done sa (by omega)⟩⟩
    ·rw[if_neg (by simpa using z2)];refine wpS_bind (zbb (show ja < a.size by omega) (wpS_bind (zcK hO (by rw[g3.kind];exact hkd) (ka _ (by simp)) kb (by omega) (by omega) (zgS sb _ _ (by omega)) fun k' c1 c2 c3=>?_)));dsimp only;have ge5:∀ hq:ib1+1+k' < b.size,le κ (a[ja]'(by omega)) b[ib1+1+k']:=fun hq=>by
      have q:=c3 k' (yaa _) (by omega);unfold bey at q;rw[if_pos rfl,zbc hq]at q;exact q
     have hm4:MI κ a b (out2.push b[ib1]++b.extract (ib1+1) (ib1+1+k')) ja (ib1+1+k'):=hm3.goB sb (by rw[yaR (ys:=b.extract (ib1+1) (ib1+1+k')),ze0 (xs:=b)]) fun x hx y hy=>by
      obtain ⟨j,j1,j2,j3⟩:=zee hx;have q:=c2 j j1;unfold bey at q;rw[if_pos rfl,zc7 j3]at q;exact le_trans (show le κ x (a[ja]'(by omega)) from KeyOrd.kle_of_klt q) (zdt sa (by omega) y hy)
     by_cases hk':k' > 0
     ·rw[if_pos hk'];by_cases z3:ib1+1+k'=b.size
      ·rw[if_pos (by simpa using z3)];exact wpS_pure ⟨g3,.inl ⟨_,_,rfl,hm4.done sa (by omega)⟩⟩
      ·rw[if_neg (by simpa using z3)];refine wpS_bind (zbb (show ja < a.size by omega) ?_);have hm5:=hm4.pa sa (show ja < a.size by omega) fun y hy=>le_trans (show le κ (a[ja]'(by omega)) (b[ib1+1+k']'(by omega)) from ge5 (by omega)) (zdt sb (by omega) y hy);by_cases z4:ja+1+1=a.size
       ·rw[if_pos (by simpa using z4)];exact wpS_pure ⟨g3,.inl ⟨_,_,rfl,hm5.last sa sb (fun y hy x hx=>hl y hy _ z4 x hx)⟩⟩
       ·rw[if_neg (by simpa using z4)];split
        ·exact wpS_pure ⟨g3,.inr ⟨_,_,_,_,_,_,rfl,hm5,by omega,by omega,by omega⟩⟩
        ·exact wpS_pure ⟨g3,_,_,_,_,_,_,rfl,hm5,by omega,by omega,by omega⟩
     ·rw[if_neg hk'];have e0:k'=0:=by omega
      subst e0
      replace hm4:=hm3
      refine wpS_bind (zbb (show ja < a.size by omega) ?_);have hm5:=hm4.pa sa (show ja < a.size by omega) fun y hy=>le_trans (show le κ (a[ja]'(by omega)) (b[ib1+1]'(by omega)) from ge5 (by omega)) (zdt sb (by omega) y hy);by_cases z4:ja+1+1=a.size
      ·rw[if_pos (by simpa using z4)];exact wpS_pure ⟨g3,.inl ⟨_,_,rfl,hm5.last sa sb (fun y hy x hx=>hl y hy _ z4 x hx)⟩⟩
      ·rw[if_neg (by simpa using z4)];split
       ·exact wpS_pure ⟨g3,.inr ⟨_,_,_,_,_,_,rfl,hm5,by omega,by omega,by omega⟩⟩
       ·exact wpS_pure ⟨g3,_,_,_,_,_,_,rfl,hm5,by omega,by omega,by omega⟩
end
end Tim
namespace Tim
open PySem PyProof.Rows
set_option autoImplicit false
section
variable {κ:KeyKind}{a b out:Array Keyed}{na nb:Nat}
structure MH (κ:KeyKind)(a b:Array Keyed)(out:Array Keyed)(na nb:Nat):Prop where
 perm:((a.toList.take na++b.toList.take nb)++out.toList.reverse).Perm (a.toList++b.toList)
 srt:SL κ out.toList.reverse
 high:∀ x∈out.toList.reverse,∀ y∈a.toList.take na++b.toList.take nb,le κ y x
theorem zeK {l:List Keyed}{n m:Nat}(h:n≤m):l.take m=l.take n++(l.take m).drop n:=by
 have e:(l.take m).take n=l.take n:=by rw[List.take_take,ybh h]
 rw[← e,yaP]
theorem MH.goA {out':Array Keyed}{n:Nat}(h:MH κ a b out na nb)(sa:SL κ a.toList)(hn:n≤na)(ho:out'.toList.reverse=(a.toList.take na).drop n++out.toList.reverse)(hle:∀ x∈(a.toList.take na).drop n,∀ y∈b.toList.take nb,le κ y x):MH κ a b out' n nb:=by
 have e:=zeK (l:=a.toList) hn;have s1:=sa.take na;rw[e]at s1;obtain ⟨p1,p2,p3⟩:=yaG.mp s1;refine ⟨?_,?_,?_⟩
 ·refine List.Perm.trans ?_ h.perm;rw[ho,e,← yaQ];refine List.Perm.append_right _ ?_;rw[yaQ,yaQ,← e];exact List.Perm.append_left _ yb8
 ·rw[ho];exact yaG.mpr ⟨p2,h.srt,fun x hx y hy=>h.high y hy x (yaZ _ (ybF hx))⟩
 ·intro x hx y hy;rw[ho]at hx;rcases yai.mp hx with hx | hx
  ·rcases yai.mp hy with hy | hy
   ·exact p3 y hy x hx
   ·exact hle x hx y hy
  ·refine h.high x hx y ?_;rcases yai.mp hy with hy | hy
   ·refine yaZ _ ?_;rw[e];exact yaZ _ hy
   ·exact yaC _ hy
theorem MH.goB {out':Array Keyed}{n:Nat}(h:MH κ a b out na nb)(sb:SL κ b.toList)(hn:n≤nb)(ho:out'.toList.reverse=(b.toList.take nb).drop n++out.toList.reverse)(hle:∀ x∈(b.toList.take nb).drop n,∀ y∈a.toList.take na,le κ y x):MH κ a b out' na n:=by
 have e:=zeK (l:=b.toList) hn;have s1:=sb.take nb;rw[e]at s1;obtain ⟨p1,p2,p3⟩:=yaG.mp s1;refine ⟨?_,?_,?_⟩
 ·refine List.Perm.trans (List.Perm.of_eq ?_) h.perm;rw[ho,← yaQ,yaQ (a.toList.take na),← e]
 ·rw[ho];exact yaG.mpr ⟨p2,h.srt,fun x hx y hy=>h.high y hy x (yaC _ (ybF hx))⟩
 ·intro x hx y hy;rw[ho]at hx;rcases yai.mp hx with hx | hx
  ·rcases yai.mp hy with hy | hy
   ·exact hle x hx y hy
   ·exact p3 y hy x hx
  ·refine h.high x hx y ?_;rcases yai.mp hy with hy | hy
   ·exact yaZ _ hy
   ·refine yaC _ ?_;rw[e];exact yaZ _ hy
theorem zeB {xs:Array Keyed}{n:Nat}(h0:0 < n)(h:n≤xs.size):(xs.toList.take n).drop (n - 1)=[xs[n - 1]'(by omega)]:=by
 have h':n - 1 < xs.size:=by omega
 rw[ycb,show n - (n - 1)=1 by omega,zeD h'];rfl
theorem zeL {xs:Array Keyed}{n:Nat}(hs:SL κ xs.toList)(h0:0 < n)(h:n≤xs.size):∀ y∈xs.toList.take n,le κ y (xs[n - 1]'(by omega)):=by
 intro y hy;have q:=hs.take n;rw[zeK (l:=xs.toList) (show n - 1≤n by omega),zeB h0 h]at q hy;rcases yai.mp hy with hy | hy
 ·exact (yaG.mp q).2.2 y hy _ (yaj.mpr rfl)
 ·rw[yaj.mp hy];exact le_refl _
theorem MH.pa (h:MH κ a b out na nb)(sa:SL κ a.toList)(h0:0 < na)(hn:na≤a.size)(hle:∀ y∈b.toList.take nb,le κ y (a[na - 1]'(by omega))):MH κ a b (out.push (a[na - 1]'(by omega))) (na - 1) nb:=
 h.goA (n:=na - 1) sa (by omega) (by rw[zeB h0 hn,ybX,ycc];rfl) (by
  rw[zeB h0 hn];intro x hx;rw[yaj.mp hx];exact hle)
theorem MH.pb (h:MH κ a b out na nb)(sb:SL κ b.toList)(h0:0 < nb)(hn:nb≤b.size)(hle:∀ y∈a.toList.take na,le κ y (b[nb - 1]'(by omega))):MH κ a b (out.push (b[nb - 1]'(by omega))) na (nb - 1):=
 h.goB (n:=nb - 1) sb (by omega) (by rw[zeB h0 hn,ybX,ycc];rfl) (by
  rw[zeB h0 hn];intro x hx;rw[yaj.mp hx];exact hle)
theorem zdR {xs:Array Keyed}{n:Nat}:(xs.extract 0 n).toList=xs.toList.take n:=by
 rw[yb9,yca,ycd,Nat.sub_zero]
theorem zmR {xs:Array Keyed}{n m:Nat}:(xs.extract n m).toList=(xs.toList.take m).drop n:=by
 rw[yb9,yca,ycb]
theorem MH.done (h:MH κ a b out na nb)(sb:SL κ b.toList)(hna:na=0):zb4 κ a b (a.extract 0 na++b.extract 0 nb++out.reverse):=by
 have e2:(a.extract 0 na++b.extract 0 nb++out.reverse).toList=(a.toList.take na++b.toList.take nb)++out.toList.reverse:=by
  rw[yaR,yaR,zdR,zdR,ybZ]
 refine ⟨by rw[e2];exact h.perm,?_⟩;rw[e2];subst hna;refine yaG.mpr ⟨?_,h.srt,fun x hx y hy=>h.high y hy x hx⟩;rw[ybG,List.nil_append];exact sb.take nb
theorem MH.doneB (h:MH κ a b out na nb)(sa:SL κ a.toList)(hnb:nb=0):zb4 κ a b (a.extract 0 na++b.extract 0 nb++out.reverse):=by
 have e2:(a.extract 0 na++b.extract 0 nb++out.reverse).toList=(a.toList.take na++b.toList.take nb)++out.toList.reverse:=by
  rw[yaR,yaR,zdR,zdR,ybZ]
 refine ⟨by rw[e2];exact h.perm,?_⟩;rw[e2];subst hnb;refine yaG.mpr ⟨?_,h.srt,fun x hx y hy=>h.high y hy x hx⟩;rw[ybG,yaJ];exact sa.take na
theorem MH.first (h:MH κ a b out na nb)(sa:SL κ a.toList)(sb:SL κ b.toList)(hl:∀ y∈b.toList.take nb,∀ x∈a.toList,le κ y x):zb4 κ a b (b.extract 0 nb++a.extract 0 na++out.reverse):=by
 have e2:(b.extract 0 nb++a.extract 0 na++out.reverse).toList=(b.toList.take nb++a.toList.take na)++out.toList.reverse:=by
  rw[yaR,yaR,zdR,zdR,ybZ]
 refine ⟨?_,?_⟩
 ·rw[e2];exact (List.Perm.append_right _ yb8).trans h.perm
 ·rw[e2];refine yaG.mpr ⟨yaG.mpr ⟨sb.take nb,sa.take na,fun x hx y hy=>hl x hx y (ybv hy)⟩,h.srt,fun x hx y hy=>h.high y hy x ?_⟩;rcases yai.mp hx with q | q
  ·exact yaC _ q
  ·exact yaZ _ q
end
def zjW:Array Keyed→Array Keyed→StateT SortSt Sem (Array Keyed):=sortPriv% PySem.Builtin.mergeHi
end Tim
namespace Tim
open PySem PyProof.Rows
set_option autoImplicit false
section
variable {prog:Program}{w:World}{A:Around}{E:Value→Shared→Prop}{s:Shared}{κ:KeyKind}{kd:SortKind}
set_option maxHeartbeats 4000000 in
theorem zkf {st:SortSt}{a b:Array Keyed}{Q:Array Keyed→SortSt→Prop}(hO:LtG prog w A s κ kd)(hkd:kindOf st=kd)(ka:∀ q∈a.toList,Keyd κ q)(kb:∀ q∈b.toList,Keyd κ q)(sa:SL κ a.toList)(sb:SL κ b.toList)
  (ha:0 < a.size) (hb:0 < b.size) (h0:∀ y∈a.toList,le κ b[0] y) (hl:∀ y∈b.toList,le κ y (a[a.size - 1]'(by omega)))
  (h:∀ m st',zb4 κ a b m→SG st st'→Q m st'):wpS (model prog w) A E s (zjW a b) Q st:=by
 have fst:∀ n,n≤1→∀ y∈b.toList.take n,∀ x∈a.toList,le κ y x:=fun n hn y hy x hx=>by
  have hy':y∈b.toList.take 1:=by
   rcases ybH n 1 with z | z
   ·rw[show n=0 by omega]at hy;simp at hy
   ·rwa[show n=1 by omega]at hy
  have e:b.toList.take 1=[b[0]]:=by
   have:=zed hb;rwa[ycd]at this
  rw[e]at hy';rw[yaj.mp hy'];exact h0 x hx
 have m0:MH κ a b #[a[a.size - 1]'(by omega)] (a.size - 1) b.size:=by
  have z:MH κ a b #[] a.size b.size:=⟨by
   rw[yao (by simp),yao (by simp)];simp,by simp,by simp⟩
  have:=z.pa sa ha (yaa _) (fun y hy=>hl y (ybv hy));simpa using this
 refine wpS_bind (zcV ?_);dsimp only;refine wpS_bind (zbb (show a.size - 1 < a.size by omega) ?_);by_cases e1:a.size - 1=0
 ·rw[if_pos (by simpa using e1)];exact wpS_pure (h _ _ (m0.done sb e1) (SG.refl st))
 rw[if_neg (by simpa using e1)];by_cases e2:b.size=1
 ·rw[if_pos (by simpa using e2)];exact wpS_pure (h _ _ (m0.first sa sb (fst _ (by omega))) (SG.refl st))
 rw[if_neg (by simpa using e2)];refine wpS_bind (wpS_get ?_);refine wpS_bind (wpS_mono (wpS_forRange (I:=fun i c st'=>SG st st'∧∃ na nb out g,c=(none,na,nb,out,g)∧MH κ a b out na nb∧0 < na∧na≤a.size∧1 < nb∧nb≤b.size∧i+1+(na+nb)≤a.size+b.size)
  (Q:=fun c st'=>SG st st'∧∃ m r,c=(some m,r)∧zb4 κ a b m) ?step ?fin ⟨SG.refl st,_,_,_,_,rfl,m0,by omega,by omega,by omega,by omega,by omega⟩) ?post)
 case post=>
  rintro c st' ⟨g,m,r,rfl,hm⟩;exact wpS_pure (h m st' hm g)
 case fin=>
  rintro c st' ⟨g,na,nb,out,gg,rfl,hm,q1,q2,q3,q4,q5⟩;exact absurd q5 (by omega)
 case step=>
  rintro i c st1 _ hi ⟨g1,na,nb,out,gg,rfl,hm,q1,q2,q3,q4,q5⟩;dsimp only;refine wpS_bind (wpS_mono (wpS_forRange (I:=fun x c st'=>st'=st1∧∃ na' nb' out' ca cb,c=(none,na',nb',out',ca,cb)∧MH κ a b out' na' nb'∧0 < na'∧na'≤a.size∧1 < nb'∧nb'≤b.size∧x+(na'+nb')≤na+nb)
   (Q:=fun c st'=>st'=st1∧((∃ m r,c=(some m,r)∧zb4 κ a b m)∨∃ na' nb' out' ca cb,c=(none,na',nb',out',ca,cb)∧MH κ a b out' na' nb'∧0 < na'∧na'≤a.size∧1 < nb'∧nb'≤b.size∧1+(na'+nb')≤na+nb)) ?istep ?ifin ⟨rfl,na,nb,out,0,0,rfl,hm,q1,q2,q3,q4,by omega⟩) ?ipost)
  case ifin=>
   rintro c st' ⟨rfl,na',nb',out',ca,cb,rfl,hm',r1,r2,r3,r4,r5⟩;exact ⟨rfl,.inr ⟨_,_,_,ca,cb,rfl,hm',r1,r2,r3,r4,by omega⟩⟩
  case istep=>
   rintro x c st' _ hx ⟨rfl,na',nb',out',ca,cb,rfl,hm',r1,r2,r3,r4,r5⟩;dsimp only;refine wpS_bind (zbb (show nb' - 1 < b.size by omega) (wpS_bind (zbb (show na' - 1 < a.size by omega) (wpS_bind (lt_G hO (by rw[g1.kind];exact hkd) (kb _ (by simp)) (ka _ (by simp)) ?_)))));dsimp only;cases e:κ.blt (ky κ (b[nb' - 1]'(by omega))) (ky κ (a[na' - 1]'(by omega))) with
   | true=>
    simp only[if_true];have hm2:=hm'.pa sa r1 r2 (fun y hy=>le_trans (zeL sb (by omega) r4 y hy) (show le κ (b[nb' - 1]'(by omega)) (a[na' - 1]'(by omega)) from KeyOrd.kle_of_klt e));refine wpS_bind (zbb (show na' - 1 < a.size by omega) ?_);by_cases z:na' - 1=0
    ·rw[if_pos (by simpa using z)];exact wpS_pure ⟨rfl,.inl ⟨_,_,rfl,hm2.done sb z⟩⟩
    ·rw[if_neg (by simpa using z)];split
     ·exact wpS_pure ⟨rfl,.inr ⟨_,_,_,_,_,rfl,hm2,by omega,by omega,by omega,by omega,by omega⟩⟩
     ·exact wpS_pure ⟨rfl,_,_,_,_,_,rfl,hm2,by omega,by omega,by omega,by omega,by omega⟩
   | false=>
    simp only[yaW,if_false];have hm2:=hm'.pb sb (by omega) r4 (fun y hy=>le_trans (zeL sa r1 r2 y hy) (show le κ (a[na' - 1]'(by omega)) (b[nb' - 1]'(by omega)) from e));refine wpS_bind (zbb (show nb' - 1 < b.size by omega) ?_);by_cases z:nb' - 1=1
    ·rw[if_pos (by simpa using z)];exact wpS_pure ⟨rfl,.inl ⟨_,_,rfl,hm2.first sa sb (fst _ (by omega))⟩⟩
    ·rw[if_neg (by simpa using z)];split
     ·exact wpS_pure ⟨rfl,.inr ⟨_,_,_,_,_,rfl,hm2,by omega,by omega,by omega,by omega,by omega⟩⟩
     ·exact wpS_pure ⟨rfl,_,_,_,_,_,rfl,hm2,by omega,by omega,by omega,by omega,by omega⟩
  case ipost=>
   rintro c st' ⟨rfl,⟨m,r,rfl,hmm⟩ | ⟨na',nb',out,ca,cb,rfl,hm,q1,q2,q3,q4,q6⟩⟩
   ·exact wpS_pure ⟨g1,m,_,rfl,hmm⟩
   dsimp only;refine wpS_bind (zcV ?_);refine wpS_bind (wpS_mono (wpS_forRange (I:=fun x c st''=>SG st st''∧∃ na1 nb1 out1 gg ca cb,c=(none,na1,nb1,out1,gg,ca,cb)∧MH κ a b out1 na1 nb1∧0 < na1∧na1≤a.size∧1 < nb1∧nb1≤b.size∧1+(na1+nb1)≤na+nb)
    (Q:=fun c st''=>SG st st''∧((∃ m r,c=(some m,r)∧zb4 κ a b m)∨∃ na1 nb1 out1 gg ca cb,c=(none,na1,nb1,out1,gg,ca,cb)∧MH κ a b out1 na1 nb1∧0 < na1∧na1≤a.size∧1 < nb1∧nb1≤b.size∧1+(na1+nb1)≤na+nb)) ?jstep ?jfin ⟨g1,_,_,_,_,_,_,rfl,hm,q1,q2,q3,q4,q6⟩) ?jpost)
   case jfin=>
    rintro c st'' ⟨g2,na1,nb1,out1,gg1,ca1,cb1,rfl,r⟩;exact ⟨g2,.inr ⟨_,_,_,_,_,_,rfl,r⟩⟩
   case jpost=>
    rintro c st'' ⟨g2,⟨m,r,rfl,hmm⟩ | ⟨na1,nb1,out1,gg1,ca1,cb1,rfl,hm1,t1,t2,t3,t4,t5⟩⟩
    ·exact wpS_pure ⟨g2,m,_,rfl,hmm⟩
    ·dsimp only;exact wpS_bind (zcu g2 fun st3 g3=>wpS_pure ⟨g3,_,_,_,_,rfl,hm1,t1,t2,t3,t4,by omega⟩)
   case jstep=>
    rintro x c st'' _ hx ⟨g2,na1,nb1,out1,gg1,ca1,cb1,rfl,hm1,t1,t2,t3,t4,t5⟩;dsimp only;apply mp2
    case m=>
     intro key;by_cases hg:gg1 > 1
     ·rw[if_pos hg];generalize gg1 - 1=gg2
      revert gg2
      exact key
     ·rw[if_neg hg];generalize gg1=gg2
      revert gg2
      exact key
    intro gg2;refine wpS_bind (zcu g2 fun st3 g3=>?_);refine wpS_bind (zbb (show nb1 - 1 < b.size by omega) (wpS_bind (zcK hO (by rw[g3.kind];exact hkd) (kb _ (by simp)) ka (by omega) (by omega) (zgS sa _ _ (by omega)) fun at0 k1 k2 k3=>?_)));dsimp only;have hmk:MH κ a b (out1++(a.extract at0 na1).reverse) at0 nb1:=hm1.goA sa k1 (by
     rw[yaR,ycc,ybZ,ycx,zmR]) fun x hx y hy=>by
     rw[ycb]at hx;obtain ⟨j,j1,j2,j3⟩:=zee hx;have q:=k3 (at0+j) (by omega) (by omega);unfold bey at q;rw[if_neg (by decide),Nat.zero_add,zc7 j3,ycw]at q;exact le_trans (zeL sb (by omega) t4 y hy) (show le κ (b[nb1 - 1]'(by omega)) x from KeyOrd.kle_of_klt q)
    have hnb:nb1 - 1 < b.size:=by omega
    have bk:∀ y∈a.toList.take at0,le κ y (b[nb1 - 1]'hnb):=fun y hy=>by
     have hy':y∈(a.toList.drop 0).take at0:=by rw[ycd];exact hy
     obtain ⟨j,j1,j2,j3⟩:=zee hy';have q:=k2 j j1;unfold bey at q;rw[if_neg (by decide),zc7 j3,ybY]at q;exact q
    apply mp2
    case m=>
     by_cases hk:na1 - at0 > 0
     ·by_cases z:at0=0
      ·intro h;clear h;rw[if_pos hk,if_pos (by simpa using z)];exact wpS_pure ⟨g3,.inl ⟨_,_,rfl,hmk.done sb z⟩⟩
      have w1:0 < at0:=by omega
      have w2:at0≤a.size:=by omega
      have w3:1+(at0+nb1)≤na+nb:=by omega
      have z0:¬(at0 == 0)=true:=by simpa using z
      intro key;rw[if_pos hk,if_neg z0];refine (?_:MH κ a b (out1++(a.extract at0 na1).reverse) at0 nb1→(∀ y∈a.toList.take at0,le κ y (b[nb1 - 1]'hnb))→0 < at0→at0≤a.size→1+(at0+nb1)≤na+nb→_) hmk bk w1 w2 w3;generalize out1++(a.extract at0 na1).reverse=out2;generalize na1 - at0=cnt;generalize at0=na2
      revert out2 cnt na2
      exact key
     ·have e0:at0=na1:=by omega
      rw[e0]at bk;intro key;rw[if_neg hk];refine (?_:MH κ a b out1 na1 nb1→(∀ y∈a.toList.take na1,le κ y (b[nb1 - 1]'hnb))→0 < na1→na1≤a.size→1+(na1+nb1)≤na+nb→_) hm1 bk t1 t2 t5;generalize na1 - at0=cnt;generalize na1=na2;generalize out1=out2;exact key out2 cnt na2
    intro out2 cnt na2 hm2 u2 w1 w2 w3;refine wpS_bind (zbb (show nb1 - 1 < b.size by omega) ?_);have hm3:=hm2.pb sb (by omega) (by omega) u2;by_cases z2:nb1 - 1=1
    ·rw[if_pos (by simpa using z2)];exact wpS_pure ⟨g3,.inl ⟨_,_,rfl,hm3.first sa sb (fst _ (by omega))⟩⟩
    ·rw[if_neg (by simpa using z2)];refine wpS_bind (zbb (show na2 - 1 < a.size by omega) (wpS_bind (zcK hO (by rw[g3.kind];exact hkd) (ka _ (by simp)) kb (by omega) (by omega) (zgS sb _ _ (by omega)) fun at' c1 c2 c3=>?_)));dsimp only;have lt5:∀ hq:0 < at',le κ (b[at' - 1]'(by omega)) (a[na2 - 1]'(by omega)):=fun hq=>by
      have q:=c2 (at' - 1) (by omega);unfold bey at q;rw[if_pos rfl,Nat.zero_add,zbc (by omega)]at q;exact KeyOrd.kle_of_klt q
     have hm4:MH κ a b (out2.push (b[nb1 - 1]'(by omega))++(b.extract at' (nb1 - 1)).reverse) na2 at':=hm3.goB sb c1 (by
      rw[yaR (ys:=(b.extract at' (nb1 - 1)).reverse),ycc,ybZ,ycx,zmR]) fun x hx y hy=>by
      rw[ycb]at hx;obtain ⟨j,j1,j2,j3⟩:=zee hx;have q:=c3 (at'+j) (by omega) (by omega);unfold bey at q;rw[if_pos rfl,Nat.zero_add,zc7 j3]at q;exact le_trans (zeL sa (by omega) (by omega) y hy) (show le κ (a[na2 - 1]'(by omega)) x from q)
     by_cases hk':nb1 - 1 - at' > 0
     ·rw[if_pos hk'];by_cases z3:at'=1
      ·rw[if_pos (by simpa using z3)];exact wpS_pure ⟨g3,.inl ⟨_,_,rfl,hm4.first sa sb (fst _ (by omega))⟩⟩
      rw[if_neg (by simpa using z3)];by_cases z3':at'=0
      ·rw[if_pos (by simpa using z3')];exact wpS_pure ⟨g3,.inl ⟨_,_,rfl,hm4.doneB sa z3'⟩⟩
      rw[if_neg (by simpa using z3')];refine wpS_bind (zbb (show na2 - 1 < a.size by omega) ?_);have hm5:=hm4.pa sa (by omega) (by omega) fun y hy=>le_trans (zeL sb (by omega) (by omega) y hy) (lt5 (by omega));by_cases z4:na2 - 1=0
      ·rw[if_pos (by simpa using z4)];exact wpS_pure ⟨g3,.inl ⟨_,_,rfl,hm5.done sb z4⟩⟩
      ·rw[if_neg (by simpa using z4)];split
       ·exact wpS_pure ⟨g3,.inr ⟨_,_,_,_,_,_,rfl,hm5,by omega,by omega,by omega,by omega,by omega⟩⟩
       ·exact wpS_pure ⟨g3,_,_,_,_,_,_,rfl,hm5,by omega,by omega,by omega,by omega,by omega⟩
     ·rw[if_neg hk'];have e0:at'=nb1 - 1:=by omega
      subst e0
      replace hm4:=hm3
      refine wpS_bind (zbb (show na2 - 1 < a.size by omega) ?_);have hm5:=hm4.pa sa (by omega) (by omega) fun y hy=>le_trans (zeL sb (by omega) (by omega) y hy) (lt5 (by omega));by_cases z4:na2 - 1=0
      ·rw[if_pos (by simpa using z4)];exact wpS_pure ⟨g3,.inl ⟨_,_,rfl,hm5.done sb z4⟩⟩
      ·rw[if_neg (by simpa using z4)];split
       ·exact wpS_pure ⟨g3,.inr ⟨_,_,_,_,_,_,rfl,hm5,by omega,by omega,by omega,by omega,by omega⟩⟩
       ·exact wpS_pure ⟨g3,_,_,_,_,_,_,rfl,hm5,by omega,by omega,by omega,by omega,by omega⟩
end
end Tim
namespace Tim
open PySem PyProof.Rows
set_option autoImplicit false
section
variable {κ:KeyKind}
def seg (xs:Array Keyed)(lo n:Nat):List Keyed:=(xs.toList.drop lo).take n
theorem zfR {xs:Array Keyed}{lo n i:Nat}(h:lo+n≤xs.size)(hi:i < n):(seg xs lo n)[i]?=xs[lo+i]?:=by
 unfold seg;rw[yb0,if_pos hi,yce,ya0]
theorem zcf {xs:Array Keyed}{lo n:Nat}(h:lo+n≤xs.size):(seg xs lo n).length=n:=by
 unfold seg;rw[yan,yaM,yau];omega
theorem zo4 {xs:Array Keyed}{lo n:Nat}(h:lo+n≤xs.size)(hU:Up κ xs lo (lo+n)):SL κ (seg xs lo n):=by
 rw[SL,yaV];intro i j hi hj hij;have hi':=hi;have hj':=hj;rw[zcf h]at hi' hj';have e1:(seg xs lo n)[i]=xs[lo+i]'(by omega):=by
  have:=zfR h hi';rw[yac hi,ya3 (by omega)]at this;exact yad this
 have e2:(seg xs lo n)[j]=xs[lo+j]'(by omega):=by
  have:=zfR h hj';rw[yac hj,ya3 (by omega)]at this;exact yad this
 rw[e1,e2];have:=hU (lo+i) (lo+j) (by omega) (by omega) (by omega);rw[zbc (by omega),zbc (by omega)]at this;exact this
theorem zkn {xs:Array Keyed}{lo n m:Nat}:seg xs lo (n+m)=seg xs lo n++seg xs (lo+n) m:=by
 unfold seg;rw[List.take_add,ybE]
theorem zg2 {xs:Array Keyed}{lo n:Nat}:(xs.extract lo (lo+n)).toList=seg xs lo n:=ze0
theorem zlG {xs:Array Keyed}{lo n:Nat}(h:lo+n≤xs.size):xs.toList=xs.toList.take lo++(seg xs lo n++xs.toList.drop (lo+n)):=by
 unfold seg;rw[← ybE,yaP,yaP]
def back (xs:Array Keyed)(lo:Nat)(m:Array Keyed):Array Keyed:=m.toList.zipIdx.foldl (fun a (q:Keyed×Nat)=>a.setIfInBounds (lo+q.2) q.1) xs
theorem zji (lo:Nat):∀(l:List Keyed) (k:Nat) (xs:Array Keyed),lo+k+l.length≤xs.size→∀ i:Nat,
  ((l.zipIdx k).foldl (fun a (q:Keyed×Nat)=>a.setIfInBounds (lo+q.2) q.1) xs)[i]?=if lo+k≤i∧i < lo+k+l.length then l[i - (lo+k)]? else xs[i]?
 | [],k,xs,h,i=>by
  rw[if_neg (by simp only[ybu];omega)];rfl
 | x::l,k,xs,h,i=>by
  rw[yaI]at h;rw[List.zipIdx_cons,List.foldl_cons,zji lo l (k+1) (xs.setIfInBounds (lo+k) x) (by rw[Array.size_setIfInBounds];omega) i,yaI];by_cases h1:lo+(k+1)≤i∧i < lo+(k+1)+l.length
  ·rw[if_pos h1,if_pos (by omega),show i - (lo+k)=(i - (lo+(k+1)))+1 by omega,ybI]
  ·rw[if_neg h1,Array.getElem?_setIfInBounds];by_cases h2:lo+k=i
   ·rw[if_pos h2,if_pos (by omega),if_pos (by omega)];subst h2;simp
   ·rw[if_neg h2,if_neg (by omega)]
theorem znb {xs m:Array Keyed}{lo:Nat}(h:lo+m.size≤xs.size):(back xs lo m).toList=xs.toList.take lo++(m.toList++xs.toList.drop (lo+m.size)):=by
 apply ybb;intro i;have q:=zji lo m.toList 0 xs (by rw[yau];omega) i;unfold back;rw[ya0,q,yau,ybw];have l1:(xs.toList.take lo).length=lo:=by rw[yan,yau];omega
 by_cases h1:i < lo
 ·rw[if_neg (by omega),ybl (by rw[l1];exact h1),yb0,if_pos h1,ya0]
 ·rw[ybe (by rw[l1];omega),l1];by_cases h2:i < lo+m.size
  ·rw[if_pos (by omega),ybl (by rw[yau];omega)]
  ·rw[if_neg (by omega),ybe (by rw[yau];omega),yau,yce,show lo+m.size+(i - lo - m.size)=i by omega,ya0]
theorem zeH {xs m:Array Keyed}{lo:Nat}(h:lo+m.size≤xs.size)(i:Nat):(back xs lo m)[i]?=if lo≤i∧i < lo+m.size then m[i - lo]? else xs[i]?:=by
 have q:=zji lo m.toList 0 xs (by rw[yau];omega) i;rw[yau,ybw,ya0]at q;exact q
theorem zg1 {xs:Array Keyed}{lo n:Nat}{p:Keyed}(h:lo+n≤xs.size)(hp:p∈seg xs lo n):∃ q,lo≤q∧q < lo+n∧xs[q]?=some p:=by
 obtain ⟨i,hi,e⟩:=yaz hp;have hi':=hi;rw[zcf h]at hi';refine ⟨lo+i,by omega,by omega,?_⟩;rw[← zfR h hi',yac hi,e]
theorem zkB {xs m:Array Keyed}{sa na nb k nb':Nat}(hz:sa+na+nb≤xs.size)(ua:Up κ xs sa (sa+na))(ub:Up κ xs (sa+na) (sa+na+nb))(hk:k < na)(hnb:nb'≤nb)(hb0:0 < nb')
  (k2:∀ i,i < k→κ.kle (kAt κ xs (sa+i)) (kAt κ xs (sa+na))) (c3:∀ i,nb'≤i→i < nb→κ.kle (kAt κ xs (sa+na - 1)) (kAt κ xs (sa+na+i)))
  (hm:zb4 κ (xs.extract (sa+k) (sa+na)) (xs.extract (sa+na) (sa+na+nb')) m) :
  Off xs (back xs (sa+k) m) sa (sa+(na+nb))∧Up κ (back xs (sa+k) m) sa (sa+(na+nb)):=by
 have ex:(xs.extract (sa+k) (sa+na)).toList=seg xs (sa+k) (na - k):=by
  have:=zg2 (xs:=xs) (lo:=sa+k) (n:=na - k);rwa[show sa+k+(na - k)=sa+na by omega]at this
 have ey:(xs.extract (sa+na) (sa+na+nb')).toList=seg xs (sa+na) nb':=zg2;have hp:=hm.perm;rw[ex,ey]at hp;have ms:m.size=na - k+nb':=by
  have:=hp.length_eq;rw[yau,yap,zcf (by omega),zcf (by omega)]at this;exact this
 have hzm:sa+k+m.size≤xs.size:=by omega
 have bl:=znb hzm;have mid:seg xs (sa+k) m.size=seg xs (sa+k) (na - k)++seg xs (sa+na) nb':=by
  rw[ms,zkn,show sa+k+(na - k)=sa+na by omega]
 have perm:(back xs (sa+k) m).toList.Perm xs.toList:=by
  have e:=zlG hzm;rw[mid]at e;refine (List.Perm.of_eq bl).trans (List.Perm.trans ?_ (List.Perm.of_eq e.symm));exact List.Perm.append_left _ (List.Perm.append_right _ hp)
 have inm:∀ i,sa+k≤i→i < sa+k+m.size→∃ q,sa+k≤q∧q < sa+na+nb'∧kAt κ (back xs (sa+k) m) i=kAt κ xs q:=by
  intro i h1 h2;have g:=zeH hzm i;rw[if_pos ⟨h1,h2⟩,ya3 (show i - (sa+k) < m.size by omega)]at g;have hmem:m[i - (sa+k)]'(by omega)∈m.toList:=by simp
  rcases yai.mp (hp.mem_iff.mp hmem) with z | z
  ·obtain ⟨q,q1,q2,e⟩:=zg1 (by omega) z;exact ⟨q,q1,by omega,zbp (g.trans e.symm)⟩
  ·obtain ⟨q,q1,q2,e⟩:=zg1 (by omega) z;exact ⟨q,by omega,q2,zbp (g.trans e.symm)⟩
 have outm:∀ i,(i < sa+k∨sa+k+m.size≤i)→kAt κ (back xs (sa+k) m) i=kAt κ xs i:=fun i h=>zbp (by rw[zeH hzm,if_neg (by omega)]);have am:∀ i q,sa≤i→i < sa+k→sa+k≤q→q < sa+na+nb→κ.kle (kAt κ xs i) (kAt κ xs q):=fun i q h1 h2 h3 h4=>by
  by_cases z:q < sa+na
  ·exact ua i q h1 (by omega) z
  ·have t:=k2 (i - sa) (by omega);rw[show sa+(i - sa)=i by omega]at t;exact KeyOrd.kle_trans t (ub _ q (yaa _) (by omega) h4)
 have mc:∀ q j,sa+k≤q→q < sa+na+nb'→sa+na+nb'≤j→j < sa+na+nb→κ.kle (kAt κ xs q) (kAt κ xs j):=fun q j h1 h2 h3 h4=>by
  by_cases z:q < sa+na
  ·have t:=c3 (j - (sa+na)) (by omega) (by omega);rw[show sa+na+(j - (sa+na))=j by omega]at t;exact KeyOrd.kle_trans (ua q (sa+na - 1) (by omega) (by omega) (by omega)) t
  ·exact ub q j (by omega) (by omega) h4
 refine ⟨⟨ycv.mpr perm,fun i hi=>by rw[zeH hzm,if_neg (by omega)]⟩,fun i j h1 h2 h3=>?_⟩;by_cases i1:i < sa+k
 ·rw[outm i (.inl i1)];by_cases j1:j < sa+k
  ·rw[outm j (.inl j1)];exact ua i j h1 h2 (by omega)
  ·by_cases j2:j < sa+k+m.size
   ·obtain ⟨q,q1,q2,e⟩:=inm j (by omega) j2;rw[e];exact am i q h1 i1 q1 (by omega)
   ·rw[outm j (.inr (by omega))];exact am i j h1 i1 (by omega) (by omega)
 ·by_cases i2:i < sa+k+m.size
  ·by_cases j2:j < sa+k+m.size
   ·by_cases e:i=j
    ·subst e;exact KeyOrd.kle_refl _
    ·have gi:=zeH hzm i;have gj:=zeH hzm j;rw[if_pos ⟨by omega,i2⟩]at gi;rw[if_pos ⟨by omega,j2⟩]at gj;rw[zbp gi,zbp gj,zbc (show i - (sa+k) < m.size by omega),zbc (show j - (sa+k) < m.size by omega)];have:=yaV.mp hm.srt (i - (sa+k)) (j - (sa+k)) (by rw[yau];omega) (by rw[yau];omega) (by omega);simpa [le] using this
   ·obtain ⟨q,q1,q2,e⟩:=inm i (by omega) i2;rw[e,outm j (.inr (by omega))];exact mc q j q1 q2 (by omega) (by omega)
  ·rw[outm i (.inr (by omega)),outm j (.inr (by omega))];exact ub i j (by omega) h2 (by omega)
theorem zk7 {xs:Array Keyed}{sa na nb:Nat}(ua:Up κ xs sa (sa+na))(ub:Up κ xs (sa+na) (sa+na+nb))(hna:0 < na)(hle:κ.kle (kAt κ xs (sa+na - 1)) (kAt κ xs (sa+na))):Up κ xs sa (sa+(na+nb)):=by
 intro i j h1 h2 h3;by_cases z:j < sa+na
 ·exact ua i j h1 h2 z
 ·by_cases y:i < sa+na
  ·exact KeyOrd.kle_trans (ua i (sa+na - 1) h1 (by omega) (by omega)) (KeyOrd.kle_trans hle (ub (sa+na) j (yaa _) (by omega) (by omega)))
  ·exact ub i j (by omega) h2 (by omega)
end
end Tim
namespace Tim
open PySem PyProof.Rows
set_option autoImplicit false
theorem ziU (i:Nat):mergeAt' i=(do
 let s ← get
 let (some (sa,na,power),some (sb,nb,_)):=((pendingOf s)[i]?,(pendingOf s)[i+1]?) | unsupported "internal:list.sort.pending"
 set (setPending s (((pendingOf s).setIfInBounds i (sa,na+nb,power)).eraseIdxIfInBounds (i+1)))
 let some k ← zi3 false (← elem' (arrOf s) sb) (arrOf s) sa na 0 | return false
 let (sa,na):=(sa+k,na - k)
 if na == 0 then return true
 let some nb ← zi3 true (← elem' (arrOf s) (sa+na - 1)) (arrOf s) sb nb (nb - 1) | return false
 if nb == 0 then return true
 let x:=(arrOf s).extract sa sb
 let y:=(arrOf s).extract sb (sb+nb)
 let merged ← if na≤nb then zjV x y else zjW x y
 modify fun s=>setArr s (merged.toList.zipIdx.foldl (fun a (p,j)=>a.setIfInBounds (sa+j) p) (arrOf s))
 return (failedOf (← get)).isNone):=rfl
section
variable {prog:Program}{w:World}{A:Around}{E:Value→Shared→Prop}{s:Shared}{κ:KeyKind}{kd:SortKind}
theorem zpk {σ:Type}{x:σ}{Q:PUnit→σ→Prop}{st:σ}(h:Q ⟨⟩ x):wpS (model prog w) A E s (set x:StateT σ Sem PUnit) Q st:=by
 unfold wpS;rw[StateT.run_set];exact wpAny_pure ⟨rfl,h⟩
set_option maxHeartbeats 4000000 in
theorem zkg {st:SortSt}{N i sa na pa nb pb:Nat}{Q:Bool→SortSt→Prop}(hO:LtG prog w A s κ kd)(hB:TB κ kd N st)
  (h1:(pendingOf st)[i]?=some (sa,na,pa)) (h2:(pendingOf st)[i+1]?=some (sa+na,nb,pb)) (hna:0 < na) (hnb:0 < nb) (hz:sa+na+nb≤N)
  (ua:Up κ (arrOf st) sa (sa+na)) (ub:Up κ (arrOf st) (sa+na) (sa+na+nb))
  (h:∀ st',TB κ kd N st'→Off (arrOf st) (arrOf st') sa (sa+(na+nb))→Up κ (arrOf st') sa (sa+(na+nb))→pendingOf st'=((pendingOf st).setIfInBounds i (sa,na+nb,pa)).eraseIdxIfInBounds (i+1)→Q true st') :
  wpS (model prog w) A E s (mergeAt' i) Q st:=by
 have hsz:=hB.size;rw[ziU];refine wpS_bind (wpS_get ?_);rw[h1,h2];dsimp only;refine wpS_bind (zpk ?_);generalize hp:((pendingOf st).setIfInBounds i (sa,na+nb,pa)).eraseIdxIfInBounds (i+1)=pend at h;have same:∀ st',SG (setPending st pend) st'→TB κ kd N st'∧arrOf st'=arrOf st∧pendingOf st'=pend:=fun st' g=>by
  have ga:arrOf st'=arrOf st:=g.arr;refine ⟨⟨g.kind.trans hB.kind,by rw[ga];exact hB.keys,g.failed.trans hB.failed,by rw[ga];exact hB.size⟩,ga,g.pend⟩
 obtain ⟨B0,_,_⟩:=same _ (SG.refl _);have hbz:sa+na < (arrOf st).size:=by omega
 refine wpS_bind (zbb hbz ?_);refine wpS_bind (zcK hO B0.kind (hB.keys _ (by simp)) hB.keys (by omega) hna ua fun k k1 k2 k3=>?_);dsimp only;have kk:kAt κ (arrOf st) (sa+na)=ky κ (arrOf st)[sa+na]:=zbc hbz;have k2':∀ i,i < k→κ.kle (kAt κ (arrOf st) (sa+i)) (kAt κ (arrOf st) (sa+na)):=fun i hi=>by
  have:=k2 i hi;unfold bey at this;simp only[yaW,if_false,ybY]at this;rw[kk];exact this
 have k3':∀ i,k≤i→i < na→κ.klt (kAt κ (arrOf st) (sa+na)) (kAt κ (arrOf st) (sa+i)):=fun i hi hj=>by
  have:=k3 i hi hj;unfold bey at this;simp only[yaW,if_false,ycw]at this;rw[kk];exact this
 by_cases e1:na - k=0
 ·rw[if_pos (by simpa using e1)];obtain ⟨b1,b2,b3⟩:=same _ (SG.refl _);refine wpS_pure (h _ b1 (by rw[b2];exact Off.refl _ _ _) ?_ b3);rw[b2];refine zk7 ua ub hna ?_;have:=k2' (na - 1) (by omega);rwa[show sa+(na - 1)=sa+na - 1 by omega]at this
 rw[if_neg (by simpa using e1)];have e2:sa+k+(na - k) - 1=sa+na - 1:=by omega
 have hlz:sa+k+(na - k) - 1 < (arrOf st).size:=by omega
 refine wpS_bind (zbb hlz ?_);refine wpS_bind (zcK hO B0.kind (hB.keys _ (by simp)) hB.keys (by omega) (by omega) ub fun c c1 c2 c3=>?_);dsimp only;have ck:ky κ ((arrOf st)[sa+k+(na - k) - 1]'hlz)=kAt κ (arrOf st) (sa+na - 1):=by
  rw[← zbc hlz,e2]
 have c2':∀ i,i < c→κ.klt (kAt κ (arrOf st) (sa+na+i)) (kAt κ (arrOf st) (sa+na - 1)):=fun i hi=>by
  have:=c2 i hi;unfold bey at this;simp only[if_true]at this;rw[← ck];exact this
 have c3':∀ i,c≤i→i < nb→κ.kle (kAt κ (arrOf st) (sa+na - 1)) (kAt κ (arrOf st) (sa+na+i)):=fun i hi hj=>by
  have:=c3 i hi hj;unfold bey at this;simp only[if_true]at this;rw[← ck];exact this
 by_cases e3:c=0
 ·rw[if_pos (by simpa using e3)];obtain ⟨b1,b2,b3⟩:=same _ (SG.refl _);refine wpS_pure (h _ b1 (by rw[b2];exact Off.refl _ _ _) ?_ b3);rw[b2];exact zk7 ua ub hna (c3' 0 (by omega) hnb)
 rw[if_neg (by simpa using e3)];generalize hX:(arrOf st).extract (sa+k) (sa+na)=X;generalize hY:(arrOf st).extract (sa+na) (sa+na+c)=Y;have xl:X.toList=seg (arrOf st) (sa+k) (na - k):=by
  have:=zg2 (xs:=arrOf st) (lo:=sa+k) (n:=na - k);rw[← hX];rwa[show sa+k+(na - k)=sa+na by omega]at this
 have yl:Y.toList=seg (arrOf st) (sa+na) c:=by rw[← hY];exact zg2
 have xz:X.size=na - k:=by
  have:=congrArg List.length xl;rwa[yau,zcf (by omega)]at this
 have yz:Y.size=c:=by
  have:=congrArg List.length yl;rwa[yau,zcf (by omega)]at this
 have xg:∀ i (hi:i < X.size),X[i]=(arrOf st)[sa+k+i]'(by omega):=fun i hi=>by
  have e:X[i]?=(arrOf st)[sa+k+i]?:=by
   rw[← ya0,xl];exact zfR (by omega) (by omega)
  rw[ya3 hi,ya3 (by omega)]at e;exact yad e
 have yg:∀ i (hi:i < Y.size),Y[i]=(arrOf st)[sa+na+i]'(by omega):=fun i hi=>by
  have e:Y[i]?=(arrOf st)[sa+na+i]?:=by
   rw[← ya0,yl];exact zfR (by omega) (by omega)
  rw[ya3 hi,ya3 (by omega)]at e;exact yad e
 have xm:∀ q∈X.toList,∃ i,k≤i∧i < na∧ky κ q=kAt κ (arrOf st) (sa+i)∧q∈(arrOf st).toList:=fun q hq=>by
  rw[xl]at hq;obtain ⟨j,j1,j2,e⟩:=zg1 (by omega) hq;refine ⟨j - sa,by omega,by omega,?_,?_⟩
  ·rw[show sa+(j - sa)=j by omega,zc7 e]
  ·rw[← ya0]at e;exact yaD e
 have ym:∀ q∈Y.toList,∃ i,i < c∧ky κ q=kAt κ (arrOf st) (sa+na+i)∧q∈(arrOf st).toList:=fun q hq=>by
  rw[yl]at hq;obtain ⟨j,j1,j2,e⟩:=zg1 (by omega) hq;refine ⟨j - (sa+na),by omega,?_,?_⟩
  ·rw[show sa+na+(j - (sa+na))=j by omega,zc7 e]
  ·rw[← ya0]at e;exact yaD e
 have kX:∀ q∈X.toList,Keyd κ q:=fun q hq=>by obtain ⟨_,_,_,_,z⟩:=xm q hq;exact hB.keys q z
 have kY:∀ q∈Y.toList,Keyd κ q:=fun q hq=>by obtain ⟨_,_,_,z⟩:=ym q hq;exact hB.keys q z
 have sX:SL κ X.toList:=by
  rw[xl];exact zo4 (by omega) (fun i j q1 q2 q3=>ua i j (by omega) q2 (by omega))
 have sY:SL κ Y.toList:=by
  rw[yl];exact zo4 (by omega) (fun i j q1 q2 q3=>ub i j q1 q2 (by omega))
 have y0:∀(hb:0 < Y.size),ky κ Y[0]=kAt κ (arrOf st) (sa+na):=fun hb=>by
  rw[yg 0 hb,← zbc];rfl
 have lo0:∀(hb:0 < Y.size),∀ q∈X.toList,le κ Y[0] q:=fun hb q hq=>by
  obtain ⟨i,i1,i2,e,_⟩:=xm q hq;unfold le;rw[y0 hb,e];exact KeyOrd.kle_of_klt (k3' i i1 i2)
 have xlast:∀(ha:X.size - 1 < X.size),ky κ X[X.size - 1]=kAt κ (arrOf st) (sa+na - 1):=fun ha=>by
  rw[xg _ ha,← zbc];congr 1;omega
 have hi0:∀(ha:X.size - 1 < X.size),∀ q∈Y.toList,le κ q X[X.size - 1]:=fun ha q hq=>by
  obtain ⟨i,i1,e,_⟩:=ym q hq;unfold le;rw[xlast ha,e];exact KeyOrd.kle_of_klt (c2' i i1)
 have fin:∀ m st',zb4 κ X Y m→SG (setPending st pend) st'→wpS (model prog w) A E s (do
   modify fun s=>setArr s (m.toList.zipIdx.foldl (fun a (q:Keyed×Nat)=>a.setIfInBounds (sa+k+q.2) q.1) (arrOf s))
   return (failedOf (← get)).isNone) Q st':=fun m st' hm g=>by
  obtain ⟨b1,b2,b3⟩:=same _ g;refine wpS_bind (wpS_modify ?_);refine wpS_bind (wpS_get ?_);have hf:failedOf (setArr st' (m.toList.zipIdx.foldl (fun a (q:Keyed×Nat)=>a.setIfInBounds (sa+k+q.2) q.1) (arrOf st')))=none:=b1.failed;rw[hf];rw[← hX,← hY]at hm;obtain ⟨o1,o2⟩:=zkB (by omega) ua ub (by omega) c1 (by omega) k2' c3' hm;refine wpS_pure (h _ ?_ ?_ ?_ b3)
  ·refine b1.off (lo:=sa) (hi:=sa+(na+nb)) ?_;rw[b2];exact o1
  ·show Off (arrOf st) (back (arrOf st') (sa+k) m) _ _;rw[b2];exact o1
  ·show Up κ (back (arrOf st') (sa+k) m) _ _;rw[b2];exact o2
 by_cases e4:na - k≤c
 ·rw[if_pos e4];refine wpS_bind ?_;refine zke hO B0.kind kX kY sX sY (by omega) (by omega) (lo0 _) ?_ fun m st' hm g=>fin m st' hm g;intro q hq i hi x hx;have:x=X[X.size - 1]'(by omega):=by
   rw[show i=X.size - 1 by omega,zeD (by omega),yaX (by rw[yau];omega)]at hx;exact yaj.mp hx
  rw[this];exact hi0 _ q hq
 ·rw[if_neg e4];refine wpS_bind ?_;exact zkf hO B0.kind kX kY sX sY (by omega) (by omega) (lo0 _) (hi0 (by omega)) fun m st' hm g=>fin m st' hm g
end
end Tim
namespace Tim
open PySem PyProof.Rows
set_option autoImplicit false
section
variable {κ:KeyKind}{xs ys:Array Keyed}
def Runs (κ:KeyKind)(xs:Array Keyed):List (Nat×Nat×Nat)→Nat→Nat→Prop
 | [],a,b=>a=b
 | (s,n,_)::r,a,b=>s=a∧0 < n∧Up κ xs a (a+n)∧Runs κ xs r (a+n) b
theorem Runs.le:∀{l:List (Nat×Nat×Nat)} {a b:Nat},Runs κ xs l a b→a+l.length≤b
 | [],_,_,h=>by rw[show _=_ from h];simp
 | (s,n,p)::r,a,b,⟨_,h1,_,h2⟩=>by
  have:=Runs.le h2;rw[yaI];omega
theorem Runs.split:∀{l m:List (Nat×Nat×Nat)} {a b:Nat},Runs κ xs (l++m) a b→∃ c,Runs κ xs l a c∧Runs κ xs m c b
 | [],m,a,b,h=>⟨a,rfl,h⟩
 | (s,n,p)::r,m,a,b,⟨h0,h1,h2,h3⟩=>by
  obtain ⟨c,c1,c2⟩:=Runs.split (l:=r) h3;exact ⟨c,⟨h0,h1,h2,c1⟩,c2⟩
theorem Runs.glue:∀{l m:List (Nat×Nat×Nat)} {a b c:Nat},Runs κ xs l a c→Runs κ xs m c b→Runs κ xs (l++m) a b
 | [],m,a,b,c,h,g=>by rw[show a=c from h];exact g
 | (s,n,p)::r,m,a,b,c,⟨h0,h1,h2,h3⟩,g=>⟨h0,h1,h2,Runs.glue h3 g⟩
theorem Up.off {lo hi a b:Nat}(h:Up κ xs a b)(o:Off xs ys lo hi)(d:b≤lo∨hi≤a):Up κ ys a b:=fun i j h1 h2 h3=>by
 rw[zi1 o (by omega),zi1 o (by omega)];exact h i j h1 h2 h3
theorem Runs.off {lo hi:Nat}(o:Off xs ys lo hi):∀{l:List (Nat×Nat×Nat)} {a b:Nat},Runs κ xs l a b→(b≤lo∨hi≤a)→Runs κ ys l a b
 | [],_,_,h,_=>h
 | (s,n,p)::r,a,b,⟨h0,h1,h2,h3⟩,d=>by
  have:=Runs.le h3;exact ⟨h0,h1,h2.off o (by omega),Runs.off o h3 (by omega)⟩
theorem zhV {α:Type}{x y v:α}{post:List α}:∀ pre:List α,((pre++x::y::post).set pre.length v).eraseIdx (pre.length+1)=pre++v::post
 | []=>rfl
 | p::pre=>by
  rw[List.cons_append,yaI,List.set_cons_succ,List.eraseIdx_cons_succ,zhV pre,List.cons_append]
end
section
variable {prog:Program}{w:World}{A:Around}{E:Value→Shared→Prop}{s:Shared}{κ:KeyKind}{kd:SortKind}
structure SI (κ:KeyKind)(kd:SortKind)(a₀:Array Keyed)(lo:Nat)(st:SortSt):Prop where
 tb:TB κ kd a₀.size st
 perm:(arrOf st).Perm a₀
 le:lo≤a₀.size
 runs:Runs κ (arrOf st) (pendingOf st).toList 0 lo
theorem zde {a₀:Array Keyed}{st:SortSt}{lo i:Nat}{Q:Bool→SortSt→Prop}(hO:LtG prog w A s κ kd)(hI:SI κ kd a₀ lo st)(hi:i+1 < (pendingOf st).size)
  (h:∀ st',SI κ kd a₀ lo st'→Off (arrOf st) (arrOf st') 0 lo→(pendingOf st').size+1=(pendingOf st).size→Q true st'):wpS (model prog w) A E s (mergeAt' i) Q st:=by
 have hl:(pendingOf st).toList.length=(pendingOf st).size:=yau;obtain ⟨pre,x,y,post,e,hp⟩:∃ pre x y post,(pendingOf st).toList=pre++x::y::post∧pre.length=i:=by
  refine ⟨(pendingOf st).toList.take i,(pendingOf st).toList[i]'(by omega),(pendingOf st).toList[i+1]'(by omega),(pendingOf st).toList.drop (i+2),?_,?_⟩
  ·rw[← yb6,← yb6,yaP]
  ·rw[yan];omega
 obtain ⟨sa,na,pa⟩:=x;obtain ⟨sb,nb,pb⟩:=y;have hr:=hI.runs;rw[e]at hr;obtain ⟨c,r1,h0,h1,ua,h2,h3,ub,r2⟩:=hr.split;subst h0 h2;have l1:=r2.le;have l0:=hI.le;have g1:(pendingOf st)[i]?=some (sa,na,pa):=by
  rw[← ya0,e,← hp];simp
 have g2:(pendingOf st)[i+1]?=some (sa+na,nb,pb):=by
  rw[← ya0,e,← hp,ybe (by omega),show pre.length+1 - pre.length=1 by omega];rfl
 refine zkg hO hI.tb g1 g2 h1 h3 (by omega) ua ub fun st' b1 b2 b3 b4=>?_;have e':(pendingOf st').toList=pre++(sa,na+nb,pa)::post:=by
  rw[b4,Array.toList_eraseIdxIfInBounds,Array.toList_setIfInBounds,e,← hp];exact zhV pre
 refine h st' ⟨b1,b2.perm.trans hI.perm,hI.le,?_⟩ (b2.wide (yaF _) (by omega)) ?_
 ·rw[e'];refine (r1.off b2 (.inl (yaa _))).glue ⟨rfl,by omega,b3,?_⟩;have:=r2.off b2 (.inr (by omega));rwa[show sa+na+nb=sa+(na+nb) by omega]at this
 ·have z1:=congrArg List.length e;have z2:=congrArg List.length e';rw[yau,yap,yaI]at z1 z2;rw[yaI]at z1;omega
end
end Tim
namespace Tim
open PySem PyProof.Rows
set_option autoImplicit false
section
variable {prog:Program}{w:World}{A:Around}{E:Value→Shared→Prop}{s:Shared}{κ:KeyKind}{kd:SortKind}
theorem Runs.modify {xs:Array Keyed}{p:Nat}:∀{l:List (Nat×Nat×Nat)} {a b:Nat} (i:Nat),Runs κ xs l a b→Runs κ xs (l.modify i fun x=>(x.fst,x.2.fst,p)) a b
 | [],_,_,i,h=>by
  cases i <;> exact h
 | (s,n,q)::r,a,b,0,h=>h
 | (s,n,q)::r,a,b,i+1,⟨h0,h1,h2,h3⟩=>⟨h0,h1,h2,Runs.modify i h3⟩
theorem SI.setp {a₀:Array Keyed}{lo hi:Nat}{st:SortSt}{p:Array (Nat×Nat×Nat)}(hI:SI κ kd a₀ lo st)(hz:hi≤a₀.size)(hr:Runs κ (arrOf st) p.toList 0 hi):SI κ kd a₀ hi (setPending st p):=
 ⟨⟨hI.tb.kind,hI.tb.keys,hI.tb.failed,hI.tb.size⟩,hI.perm,hz,hr⟩
theorem SI.pushed {a₀:Array Keyed}{st:SortSt}{lo n:Nat}(hI:SI κ kd a₀ lo st)(hn:0 < n)(hz:lo+n≤a₀.size)(hU:Up κ (arrOf st) lo (lo+n)):SI κ kd a₀ (lo+n) (setPending st ((pendingOf st).push (lo,n,0))):=by
 refine hI.setp hz ?_;rw[ybX];exact hI.runs.glue ⟨rfl,hn,hU,rfl⟩
theorem SI.marked {a₀:Array Keyed}{st:SortSt}{lo p:Nat}(hI:SI κ kd a₀ lo st):SI κ kd a₀ lo (setPending st ((pendingOf st).modify ((pendingOf st).size - 1) fun x=>(x.fst,x.2.fst,p))):=by
 refine hI.setp hI.le ?_;rw[Array.toList_modify];exact hI.runs.modify _
theorem znn {c:Prop}[Decidable c]{n:Nat}(h:2≤n):(if c then n - 2 - 1 else n - 2)+1 < n:=by
 split <;> omega
theorem ziw {a₀:Array Keyed}{st:SortSt}{Q:Unit→SortSt→Prop}(hO:LtG prog w A s κ kd)(hI:SI κ kd a₀ 0 st)(h2:2≤a₀.size)
  (h:∀ st',(arrOf st').Perm a₀→failedOf st'=none→Up κ (arrOf st') 0 a₀.size→Q () st'):wpS (model prog w) A E s sortRuns' Q st:=by
 rw[sortRuns'_eq];refine wpS_bind (wpS_get ?_);dsimp only;simp only[hI.tb.size];generalize minRun' a₀.size a₀.size 0=mr;refine wpS_bind (wpS_mono (wpS_forRange (I:=fun x c st'=>∃ lo,c=(none,lo)∧x≤lo∧SI κ kd a₀ lo st') (Q:=fun c st'=>c=(none,a₀.size)∧SI κ kd a₀ a₀.size st') ?step ?fin ⟨0,rfl,yaa _,hI⟩) ?post)
 case fin=>
  rintro c st' ⟨lo,rfl,hx,hI'⟩;have e:lo=a₀.size:=by
   have:=hI'.le;omega
  subst e;exact ⟨rfl,hI'⟩
 case step=>
  rintro x c st' _ hx ⟨lo,rfl,hxl,hI'⟩;have hle:=hI'.le;dsimp only;by_cases hlo:lo ≥ a₀.size
  ·rw[if_pos hlo];have e:lo=a₀.size:=by omega
   subst e;exact wpS_pure ⟨rfl,hI'⟩
  ·rw[if_neg hlo];refine wpS_bind (zix hO hI'.tb (by omega) (by omega) fun r st2 hr=>?_);obtain ⟨n,ys,rfl,n1,n2,rfl,ho,hU⟩:=hr;have hI2:SI κ kd a₀ lo (setArr st' ys):=⟨hI'.tb.off ho,ho.perm.trans hI'.perm,hle,hI'.runs.off ho (.inl (yaa _))⟩;dsimp only;by_cases hmr:n < mr
   ·rw[if_pos hmr];refine wpS_bind (zcV (wpS_bind (zgO hO hI2.tb (by omega) (by omega) hU fun zs oz uz=>?_)));simp only[ycf,yaW,if_false];have hI3:SI κ kd a₀ lo (setArr st' zs):=⟨hI2.tb.off oz,oz.perm.trans hI2.perm,hle,hI2.runs.off oz (.inl (yaa _))⟩;refine wpS_bind (wpS_get ?_);cases hb:(pendingOf (setArr st' zs)).back? with
    | none=>
     dsimp only;exact wpS_bind (wpS_modify (wpS_pure ⟨_,rfl,by omega,hI3.pushed (by omega) (by omega) uz⟩))
    | some x1=>
     obtain ⟨s1,n1',p1⟩:=x1;dsimp only;refine wpS_bind (wpS_mono (wpS_forRange (I:=fun _ c st5=>c=(none,())∧SI κ kd a₀ lo st5∧Up κ (arrOf st5) lo (lo+(min (a₀.size - lo) mr))) (Q:=fun c st5=>c=(none,())∧SI κ kd a₀ lo st5∧Up κ (arrOf st5) lo (lo+(min (a₀.size - lo) mr))) ?_ (fun _ _ z=>z) ⟨rfl,hI3,uz⟩) ?_)
     ·rintro i c st5 _ _ ⟨rfl,hI5,hU5⟩;refine wpS_bind (wpS_get ?_);by_cases h1:(pendingOf st5).size > 1
      ·rw[if_pos h1,ya3 (by omega)];obtain ⟨q1,q2,q3⟩:=(pendingOf st5)[(pendingOf st5).size - 2]'(by omega);dsimp only;split
       ·exact wpS_pure ⟨rfl,hI5,hU5⟩
       ·refine wpS_bind (zde hO hI5 (by omega) fun st6 h3 h4 _=>?_);simp only[ycf,yaW,if_false];exact wpS_pure ⟨rfl,h3,hU5.off h4 (.inr (yaa _))⟩
      ·rw[if_neg h1];exact wpS_pure ⟨rfl,hI5,hU5⟩
     ·rintro c st5 ⟨rfl,hI5,hU5⟩;dsimp only;exact wpS_bind (wpS_modify (wpS_bind (wpS_modify (wpS_pure ⟨_,rfl,by omega,SI.pushed (SI.marked hI5) (by omega) (by omega) hU5⟩))))
   ·rw[if_neg hmr];refine wpS_bind (wpS_get ?_);cases hb:(pendingOf (setArr st' ys)).back? with
    | none=>
     dsimp only;exact wpS_bind (wpS_modify (wpS_pure ⟨_,rfl,by omega,hI2.pushed (by omega) (by omega) hU⟩))
    | some x1=>
     obtain ⟨s1,n1',p1⟩:=x1;dsimp only;refine wpS_bind (wpS_mono (wpS_forRange (I:=fun _ c st5=>c=(none,())∧SI κ kd a₀ lo st5∧Up κ (arrOf st5) lo (lo+n)) (Q:=fun c st5=>c=(none,())∧SI κ kd a₀ lo st5∧Up κ (arrOf st5) lo (lo+n)) ?_ (fun _ _ z=>z) ⟨rfl,hI2,hU⟩) ?_)
     ·rintro i c st5 _ _ ⟨rfl,hI5,hU5⟩;refine wpS_bind (wpS_get ?_);by_cases h1:(pendingOf st5).size > 1
      ·rw[if_pos h1,ya3 (by omega)];obtain ⟨q1,q2,q3⟩:=(pendingOf st5)[(pendingOf st5).size - 2]'(by omega);dsimp only;split
       ·exact wpS_pure ⟨rfl,hI5,hU5⟩
       ·refine wpS_bind (zde hO hI5 (by omega) fun st6 h3 h4 _=>?_);simp only[ycf,yaW,if_false];exact wpS_pure ⟨rfl,h3,hU5.off h4 (.inr (yaa _))⟩
      ·rw[if_neg h1];exact wpS_pure ⟨rfl,hI5,hU5⟩
     ·rintro c st5 ⟨rfl,hI5,hU5⟩;dsimp only;exact wpS_bind (wpS_modify (wpS_bind (wpS_modify (wpS_pure ⟨_,rfl,by omega,SI.pushed (SI.marked hI5) (by omega) (by omega) hU5⟩))))
 case post=>
  rintro c st' ⟨rfl,hI'⟩;dsimp only;refine wpS_bind (wpS_mono (wpS_forRange (I:=fun x c st''=>c=(none,())∧SI κ kd a₀ a₀.size st''∧(pendingOf st'').size+x≤a₀.size+1) (Q:=fun c st''=>c=(none,())∧SI κ kd a₀ a₀.size st''∧(pendingOf st'').size≤1) ?_ ?_ ⟨rfl,hI',?_⟩) ?_)
  ·rintro x c st'' _ hx ⟨rfl,hJ,hz⟩;refine wpS_bind (wpS_get ?_);by_cases h1:(pendingOf st'').size≤1
   ·rw[if_pos h1];exact wpS_pure ⟨rfl,hJ,h1⟩
   ·rw[if_neg h1];refine wpS_bind (zde hO hJ ?_ fun st3 h3 _ h4=>?_)
    ·exact znn (by omega)
    ·simp only[ycf,yaW,if_false];exact wpS_pure ⟨rfl,h3,by omega⟩
  ·rintro c st'' ⟨rfl,hJ,hz⟩;exact ⟨rfl,hJ,by omega⟩
  ·have:=hI'.runs.le;rw[yau]at this;omega
  ·rintro c st'' ⟨rfl,hJ,hz⟩;dsimp only;refine wpS_pure (h _ hJ.perm hJ.tb.failed ?_);have hr:=hJ.runs;rw[← yau]at hz
   match e:(pendingOf st'').toList,hz,hr with
   | [],_,hr=>
    have:0=a₀.size:=hr;omega
   | [(s1,n1,p1)],_,hr=>
    obtain ⟨_,_,u,z⟩:=hr;have z:0+n1=a₀.size:=z;rw[z]at u;exact u
end
end Tim
namespace Tim
open PySem PyProof.Rows
set_option autoImplicit false
section
variable {prog:Program}{w:World}{A:Around}{E:Value→Shared→Prop}{s:Shared}{κ:KeyKind}{kd:SortKind}
def zfa (a:Addr)(h h':Heap):Prop:=∀ b o,b≠a→h.get? b=some o→h'.get? b=some o
def keyV (κ:KeyKind)(v:Value):κ.α:=(κ.keyOf v).getD κ.dflt
theorem ziu:∀ vs:List Value,vs.zip vs=vs.map fun v=>(v,v)
 | []=>rfl
 | v::vs=>by rw[ycy,ziu vs,yar]
theorem zhf {vs:List Value}{p:Keyed}(h:p∈(pairsOf vs).toList):p.1=p.2∧p.1∈vs:=by
 have e:(pairsOf vs).toList=vs.zip vs:=by
  unfold pairsOf;simp
 rw[e]at h;rw[ziu]at h;obtain ⟨v,hv,rfl⟩:=yaE.mp h;exact ⟨rfl,hv⟩
theorem zlR (vs:List Value):(pairsOf vs).toList.map (·.2)=vs:=by
 have e:(pairsOf vs).toList=vs.zip vs:=by
  unfold pairsOf;simp
 rw[e,ziu,ybo];have z:((fun x:Keyed=>x.2) ∘ fun v:Value=>(v,v))=id:=rfl
 first
  | rw[z,List.map_id]
  | exact List.map_id vs
theorem zq6 {vs:List Value}{xs:Array Keyed}(hp:xs.Perm (pairsOf vs))(hU:Up κ xs 0 (pairsOf vs).size) :
  (xs.toList.map (·.2)).Perm vs∧(xs.toList.map (·.2)).Pairwise (fun x y=>κ.kle (keyV κ x) (keyV κ y)):=by
 have hpl:=ycv.mp hp;refine ⟨?_,?_⟩
 ·have:=hpl.map (·.2);rwa[zlR]at this
 ·have hs:SL κ xs.toList:=zp1 (by rw[hp.size_eq];exact hU);refine ybJ.mpr (hs.imp_of_mem fun {a b} ha hb hab=>?_);have ea:=(zhf (hpl.mem_iff.mp ha)).1;have eb:=(zhf (hpl.mem_iff.mp hb)).1;unfold le ky at hab;unfold keyV;rw[← ea,← eb];exact hab
theorem zo3 {a:Addr}{vs:List Value}{n:Nat}{P:Fin→Shared→Prop}(ho:s.heap.get? a=some (seqObj "list" vs.toArray n))(hz:vs.length≤sizeLine)(keys:∀ v∈vs,∃ k,κ.keyOf v=some k)
  (hlt:∀ h',zfa a s.heap h'→LtG prog w A { s with heap:=h' } κ kd)
  (hkd:∀(h':Heap) (E:Value→Shared→Prop) (Q:SortKind→Shared→Prop),zfa a s.heap h'→2≤vs.length→Q kd { s with heap:=h' }→wpAny (model prog w) A (keyKind' vs.toArray) Q E { s with heap:=h' })
  (h:∀ out:List Value,out.Perm vs→out.Pairwise (fun x y=>κ.kle (keyV κ x) (keyV κ y))→P (.done (.ret .none)) { s with heap:=sortedHeap s.heap a vs out.toArray }) :
  wpAny (model prog w) A (Builtin.«list.sort» ⟨[.ref a],[]⟩) P E s:=by
 rw[list_sort_plain];have hlt0:a < s.heap.objs.size:=yag ho;refine wpAny_bind (listItems_at ho rfl ?_);refine wpAny_bind (listUpdate_at ho rfl ?_ (by simpa using hz) (yaF _));obtain ⟨m,ho1⟩:∃ m,(s.heap.update a (Obj.mapSeq fun _=>#[])).get? a=some (seqObj "list" #[] m):=⟨_,get?_update_seq ho (fun _=>#[])⟩;refine wpAny_bind (seqEpoch_at ho1 rfl ?_);refine wpAny_bind (wpAny_newTuple ?_ (by simpa using hz));refine wpAny_bind (wpAny_newList ?_);refine wpAny_holding ?_;have z1:(s.heap.update a (Obj.mapSeq fun _=>#[])).objs.size=s.heap.objs.size:=by rw[Heap.size_update]
 have hk:zfa a s.heap (((s.heap.update a (Obj.mapSeq fun _=>#[])).push (seqObj "tuple" vs.toArray 0)).push (seqObj "list" #[] 0)):=fun b o hb e=>
  yal _ (yal _ ((ybt _ _ (Ne.symm hb)).trans e))
 have ho6:(((s.heap.update a (Obj.mapSeq fun _=>#[])).push (seqObj "tuple" vs.toArray 0)).push (seqObj "list" #[] 0)).get? a=some (seqObj "list" #[] m):=yal _ (yal _ ho1);show wpAny (model prog w) A _ P E { s with heap:=((s.heap.update a (Obj.mapSeq fun _=>#[])).push (seqObj "tuple" vs.toArray 0)).push (seqObj "list" #[] 0) };dsimp only;have fin:∀ st':SortSt,(arrOf st').Perm (pairsOf vs)→failedOf st'=none→Up κ (arrOf st') 0 (pairsOf vs).size→wpAny (model prog w) A (do
   let touched:=(← seqEpoch a) != m
   Builtin.List.listUpdate (.ref a) fun _=>(arrOf st').map (·.2)
   if let some e:=failedOf st' then rule "list.sort.comparison-raised";throw e
   if touched then rule "list.sort.modified";raiseError "ValueError" "list modified during sort"
   ret .none) P E { s with heap:=((s.heap.update a (Obj.mapSeq fun _=>#[])).push (seqObj "tuple" vs.toArray 0)).push (seqObj "list" #[] 0) }:=fun st' hp hf hU=>by
  refine wpAny_bind (seqEpoch_at ho6 rfl ?_);refine wpAny_bind (listUpdate_at ho6 rfl ?_ (yaF _) (by
   refine yaw (Nat.le_of_eq ((Array.size_map ..).trans (hp.size_eq.trans (pairsOf_size _)))) ?_;omega))
  rw[hf];simp only[bne_self_eq_false,yaW,if_false];obtain ⟨o1,o2⟩:=zq6 hp hU;have:=h _ o1 o2;have e:((arrOf st').toList.map (·.2)).toArray=(arrOf st').map (·.2):=by rw[← Array.toList_map,Array.toArray_toList]
  rw[e]at this;exact wpAny_pure this
 by_cases h2:vs.toArray.size < 2
 ·rw[if_pos h2,if_pos h2];refine wpAny_bind (wpAny_pure ?_);rw[StateT.run_pure];refine wpAny_bind (wpAny_pure ?_);refine fin (SortSt.mk' general' (vs.toArray.zip vs.toArray) #[] 7 none) (Array.Perm.refl _) rfl ?_;intro i j q1 q2 q3;have:i=j:=by
   rw[pairsOf_size]at q3;simp at h2;omega
  subst this;exact KeyOrd.kle_refl _
 ·rw[if_neg h2,if_neg h2];have h2':2≤vs.length:=by
   simp at h2;omega
  refine wpAny_bind (hkd _ _ _ hk h2' ?_);refine wpAny_bind (wpAny_mono (ziw (κ:=κ) (hlt _ hk) (a₀:=pairsOf vs) (st:=SortSt.mk' kd (vs.toArray.zip vs.toArray) #[] 7 none)
   (Q:=fun _ st'=>(arrOf st').Perm (pairsOf vs)∧failedOf st'=none∧Up κ (arrOf st') 0 (pairsOf vs).size)
   ⟨⟨rfl,fun p hp=>keys _ (zhf hp).2,rfl,rfl⟩,Array.Perm.refl _,yaF _,rfl⟩ (by rw[pairsOf_size];omega) fun st' a1 a2 a3=>⟨a1,a2,a3⟩) ?_ fun _ _ e=>e)
  rintro ⟨⟨⟩,st'⟩ s' ⟨rfl,hp,hf,hs⟩;exact fin st' hp hf hs
theorem zf5 {h:Heap}{a:Addr}{vs out:List Value}{n:Nat}(ho:h.get? a=some (seqObj "list" vs.toArray n)):zfa a h (sortedHeap h a vs out.toArray)∧∃ c,(sortedHeap h a vs out.toArray).get? a=some (seqObj "list" out.toArray c):=by
 unfold sortedHeap;refine ⟨fun b o hb e=>(ybt _ _ (Ne.symm hb)).trans (yal _ (yal _ ((ybt _ _ (Ne.symm hb)).trans e))),?_⟩;exact ⟨_,get?_update_seq (yal _ (yal _ (get?_update_seq ho (fun _=>#[])))) fun _=>out.toArray⟩
theorem znB {l:Addr}{vs:List Value}{Q:Value→Shared→Prop}(hl:s.heap.IsList l vs.toArray)(hz:vs.length≤sizeLine)(keys:∀ v∈vs,∃ k,κ.keyOf v=some k)
  (hlt:∀ h',(∀ b o,s.heap.get? b=some o→h'.get? b=some o)→LtG prog w A.in1.in1 { s with heap:=h' } κ kd)
  (hkd:∀(h':Heap) (E:Value→Shared→Prop) (Q:SortKind→Shared→Prop),(∀ b o,s.heap.get? b=some o→h'.get? b=some o)→2≤vs.length→Q kd { s with heap:=h' }→wpAny (model prog w) A.in1.in1 (keyKind' vs.toArray) Q E { s with heap:=h' })
  (h:∀(out:List Value) (h':Heap) (c:Nat),out.Perm vs→out.Pairwise (fun x y=>κ.kle (keyV κ x) (keyV κ y))→(∀ b o,s.heap.get? b=some o→h'.get? b=some o)→
   h'.get? (s.heap.objs.size+1)=some (seqObj "list" out.toArray c)→Q (.ref (s.heap.objs.size+1)) { s with heap:=h' }) :
  wpAny (model prog w) A (call (.builtin "sorted") [.ref l]) Q E s:=by
 refine Calls.call_function_entry kind_sorted plain_sorted entry_sorted (args_sorted1 _) ?_;unfold Builtin.«sorted»;refine wpAny_bind (m:=checkCount "sorted" 1 1 _) (wpAny_pure ?_);refine wpAny_bind (collect_list hl ?_ hz);refine wpAny_bind (wpAny_newList ?_ (by simpa using hz));have z1:((s.heap.push (seqObj "list" #[] 0)).update s.heap.objs.size (Obj.mapSeq (· ++ vs.toArray))).objs.size=s.heap.objs.size+1:=by
  rw[Heap.size_update,size_push']
 have hn:(((s.heap.push (seqObj "list" #[] 0)).update s.heap.objs.size (Obj.mapSeq (· ++ vs.toArray))).push (seqObj "list" vs.toArray 0)).get? (s.heap.objs.size+1)=some (seqObj "list" vs.toArray 0):=by
  rw[← z1];exact yaB _ rfl
 have hk:∀ b o,s.heap.get? b=some o→(((s.heap.push (seqObj "list" #[] 0)).update s.heap.objs.size (Obj.mapSeq (· ++ vs.toArray))).push (seqObj "list" vs.toArray 0)).get? b=some o:=fun b o e=>
  yal _ ((ybt _ _ (ybk (yag e))).trans (yal _ e))
 show wpAny _ _ _ _ _ { s with heap:=((s.heap.push (seqObj "list" #[] 0)).update s.heap.objs.size (Obj.mapSeq (· ++ vs.toArray))).push (seqObj "list" vs.toArray 0) };rw[z1];generalize ((s.heap.push (seqObj "list" #[] 0)).update s.heap.objs.size (Obj.mapSeq (· ++ vs.toArray))).push (seqObj "list" vs.toArray 0)=h1 at hn hk ⊢;have up:∀ h',zfa (s.heap.objs.size+1) h1 h'→∀ b o,s.heap.get? b=some o→h'.get? b=some o:=fun h' kb b o e=>kb b o (fun z=>by
  have:=yag e;rw[z]at this;exact absurd this (Nat.not_lt.mpr (ybd _))) (hk b o e)
 refine wpAny_bind (wpAny_holding (wpAny_call_entry slot_list_sort ⟨_,hn,rfl⟩ entry_list_sort (zo3 (s:={ s with heap:=h1 }) hn hz keys (fun h' kb=>hlt h' (up h' kb)) (fun h' E Q kb h2 q=>hkd h' E Q (up h' kb) h2 q) fun out p1 p2=>⟨_,rfl,?_⟩) (args_list_sort _)));obtain ⟨kb,c,hc⟩:=zf5 (out:=out) hn;exact wpAny_pure ⟨_,rfl,h out _ c p1 p2 (up _ kb) hc⟩
end
end Tim
namespace L2
open PySem PySem.Spec PyProof.Rows
structure DF (K:Frag)(mg:Str→Option Value)(x:Str)(st:Stmt)(ps:List Str):Prop where
 ex:∃ f fd,Fun K x x st f fd∧zdw K fd ps []∧mg x=some (.ref f)
structure FC (P:Program)(w:World)(K:Frag)(mg:Str→Option Value)(base:Heap)(k:Nat)(x:Str)(ps:List Str)(sp:Sp):Prop where
 ex:∃ f fd,FnOk P w K mg base CX0 k f fd ps sp∧zdw K fd ps []∧keepIn K (.ref f)=true∧mg x=some (.ref f)∧∃ oc od osl,K.lookup f=some ⟨oc,od,.func fd,osl⟩
theorem FC.at {P:Program}{w:World}{K:Frag}{mg:Str→Option Value}{base:Heap}{k:Nat}{x:Str}{ps:List Str}{sp:Sp}{f:Addr}{fd:FuncData}{oc:Value}{od:Option Addr}{osl:Array (Option Value)}(F:FC P w K mg base k x ps sp)(m:mg x=some (.ref f))(l:K.lookup f=some ⟨oc,od,.func fd,osl⟩):FnOk P w K mg base CX0 k f fd ps sp:=by
 obtain ⟨f',fd',ok,_,_,m',oc',od',osl',l'⟩:=F.ex;rw[m]at m';cases m'
 rw[l]at l';cases l'
 exact ok
theorem DF.ok {P:Program}{w:World}{K:Frag}{mg:Str→Option Value}{base:Heap}{x:Str}{st:Stmt}{N ps:List Str}{k:Nat}{sp:Sp}(D:DF K mg x st ps)(S:zao N ps (zag st))(len:∀ vs H Q E,sp vs H Q E→vs.length=ps.length)
  (hbody:∀(f:Addr) (cdv:Value) (A:Around) (outer:List Env) (s:Shared) (H:Hp) (vs:List V) (Q:VK) (E:XK),Room k (A.deeper (envOfC x (zag st) s.heap.objs.size f cdv))→sp vs H Q E→
   ∃ t,PSs (cxOf CX0 P w K mg base N x (zag st) f cdv A outer s H E).nox (za8 st) t∧t { nx:=fun _ H'=>Q .non H',rt:=Q } (zdf N vs) H):FC P w K mg base (k+1) x ps sp:=by
 obtain ⟨f,fd,F,b,m⟩:=D.ex;exact ⟨f,fd,F.ok S len fun cdv A outer s H vs Q E hr h=>hbody f cdv A outer s H vs Q E hr h,b,F.kp,m,by
  obtain ⟨oc,od,kV,doc,pm,an,cdv,ct,osl,rfl,lk,hcd⟩:=F.ex;exact ⟨oc,od,osl,lk⟩⟩
theorem zax {X:Cx}{j k:Nat}{x:Str}{ps:List Str}{sp:Sp}{e:Expr}{es:List Expr}{t:TA}{p pos:Pos}(F:FC X.prog X.w X.K X.mg X.base j x ps sp)(hr:Room k X.A)(ha:PA X (e::es) t)(hjk:j≤k:=by decide)(hg:Gl X x:=by rfl)
  (hdb:(x == ("__debug__" : Str))=false:=by decide) (he:starEach (e::es) X.env=(false,eval e X.env)::starEach es X.env:=by rfl) (hpl:(backTo pos (starEach es X.env)).any (·.1)=false:=by rfl):PE X (.Call (.Name x p) (e::es) [] pos) (zqI sp [] E0 t):=by
 obtain ⟨f,fd,ok,b,kp,m,_⟩:=F.ex;exact zpJ ok (hr.mono hjk) hg m kp b .nil zlP ha hdb he hpl
def zrT (t u:TS):TS:=fun D σ H=>∃ M:St→Hp→Prop,t { D with nx:=M } σ H∧∀ σ' H',M σ' H'→u D σ' H'
theorem zaJ {X:Cx}{st:Stmt}{rest:List Stmt}{t u:TS}(h1:PS X st t)(h2:PSs X rest u):PSs X (st::rest) (zrT t u):=by
 intro pins s σ H D I h;obtain ⟨M,h,hM⟩:=h;refine wpAny_execs_cons (thn (h1 pins s σ H { D with nx:=M } I h) fun f s1 q=>?_);cases f with
 | next=>
  obtain ⟨σ',H',I',q⟩:=q;exact h2 pins s1 σ' H' D I' (hM σ' H' q)
 | ret v=>exact q
 | brk=>exact q
 | cont=>exact q
def zsf (i j:Int):Prop:=0 < j∧j < 2 ^ 4000
section
variable {X:Cx}
def kitO (a b:String):Option Bool:=if (Value.type a == Value.type b)=true then some true else if PySem.W.kitMeta b=true then (PySem.fastBuiltinMro a).map (·.contains (.type b)) else none
theorem zp4 {K:Frag}{a b:String}:kitOne K (.type a) (.type b)=kitO a b:=rfl
def rIsi (K:Frag):List V→Hp→VK→Prop:=fun xs H Q=>∃ x n t b,xs=[x,.ty n]∧TyOf K H x (.type t)∧kitO t n=some b∧Q (.bl b) H
theorem zka:zb1 X (.builtin "isinstance") (rIsi X.K):=by
 intro pins s σ H xs us Q I r h;obtain ⟨x,n,t,b,e,ty,ki,q⟩:=h;subst e;obtain ⟨u,w',e,r1,r2⟩:=zgo r;subst e;cases r2
 exact zmA I r1 ty (zp4.trans ki) fun tk=>⟨.bl b,H,I.tok tk,rfl,q⟩
theorem zrv:kitO "int" "int" = some true:=by decide +kernel
theorem zrw:kitO "int" "bool" = some false:=by decide +kernel
theorem zrx:kitO "bool" "bool" = some true:=by decide +kernel
def zpy:V→List V→Hp→VK→Prop:=fun x xs H Q=>∃ i,x=.int i∧xs=[]∧Q (.int (Builtin.Int.intBits i:Nat)) H
theorem zhl:MtR X "int.bit_length" zpy:=by
 intro pins s σ H x xs v us Q I rx rv h;obtain ⟨i,rfl,rfl,q⟩:=h;obtain ⟨t,rfl⟩:=rx;cases rv
 exact call_int_bit_length ⟨.int _,H,I.tok _,⟨_,rfl⟩,q⟩
end
theorem zmz {c A B:Prop}[Decidable c](hc:¬ c)(h:B):if decide c=true then A else B:=by
 rw[yah hc];exact iteF h
theorem zrD {c A B:Prop}[Decidable c](hc:c)(h:A):if decide c=true then A else B:=by
 rw[yae hc];exact iteT h
def zc6 (L:Addr)(a l:Int):HO:=.dK [(.inr "script",.ref L),(.inr "at",.int a),(.inr "left",.int l)]
def Keep (d:Addr)(H H':Hp):Prop:=∀ b o,b≠d→H b=some o→H' b=some o
theorem Keep.refl (d:Addr)(H:Hp):Keep d H H:=fun _ _ _ h=>h
theorem Keep.trans {d:Addr}{H H1 H2:Hp}(a:Keep d H H1)(b:Keep d H1 H2):Keep d H H2:=fun c o n h=>b c o n (a c o n h)
theorem Same.keep {d:Addr}{H H':Hp}(s:Same H H'):Keep d H H':=fun b o _ h=>s b o h
structure LS (K:Frag)(L d:Addr)(H:Hp):Prop where
 ex:∃(ns:List Int) (a l:Int),H d=some (zc6 L a l)∧SqL K H L (ns.map V.int)
theorem zfs {K:Frag}{H H':Hp}{L d:Addr}{xs:List V}{L':Addr}{a l:Int}(hd:H d=some (zc6 L' a l))(k:Keep d H H')(h:SqL K H L xs):SqL K H' L xs:=by
 have ne:∀ o,H L=some o→(∀ kvs,o≠.dK kvs)→L≠d:=fun o e n z=>by
  rw[z,hd]at e;cases e
  exact n _ rfl
 rcases h with (h | ⟨o,h⟩) | h
 ·exact .inl (.inl (k L _ (ne _ h (fun _ z=>nomatch z)) h))
 ·exact .inl (.inr ⟨o,k L _ (ne _ h (fun _ z=>nomatch z)) h⟩)
 ·exact .inr h
theorem LS.set {K:Frag}{d L:Addr}{H:Hp}{ns:List Int}{a l a' l':Int}(hd:H d=some (zc6 L a l))(h:SqL K H L (ns.map V.int)):LS K L d (upd H d (zc6 L a' l'))∧Keep d H (upd H d (zc6 L a' l')):=by
 have k:Keep d H (upd H d (zc6 L a' l')):=fun b o n e=>by rw[zaf n];exact e
 exact ⟨⟨ns,a',l',zab,zfs hd k h⟩,k⟩
theorem LS.same {K:Frag}{L d:Addr}{H H':Hp}(s:LS K L d H)(k:Same H H'):LS K L d H':=by
 obtain ⟨ns,a,l,e,q⟩:=s.ex;exact ⟨ns,a,l,k _ _ e,k.seq q⟩
theorem zah {H:Hp}{p:Addr}(h:H p=none)(o:HO):Same H (upd H p o):=fun b u q=>by rw[zaf (zad q h)];exact q
theorem LS.put {K:Frag}{L d p:Addr}{H0 H2:Hp}{o:HO}(s:LS K L d H0)(hp:H0 p=none)(k:∀ b o,b≠d→b≠p→H0 b=some o→H2 b=some o)(s2:LS K L d H2):LS K L d (upd H2 p o):=by
 obtain ⟨ns,a,l,e,q⟩:=s.ex;obtain ⟨ns2,a2,l2,e2,_⟩:=s2.ex;have hdp:d≠p:=zad e hp;have go:∀ u,H0 L=some u→(∀ kvs,u≠.dK kvs)→upd H2 p o L=some u:=fun u hu hn=>by
  have h1:L≠p:=zad hu hp;have h2:L≠d:=fun z=>by
   rw[z,e]at hu;cases hu
   exact hn _ rfl
  rw[zaf h1];exact k L u h2 h1 hu
 refine ⟨ns,a2,l2,by rw[zaf hdp];exact e2,?_⟩;rcases q with (h | ⟨ob,h⟩) | h
 ·exact .inl (.inl (go _ h (fun _ z=>nomatch z)))
 ·exact .inl (.inr ⟨ob,go _ h (fun _ z=>nomatch z)⟩)
 ·exact .inr h
section
variable {H:Hp}{d L:Addr}{a l:Int}
theorem zdW {x y:Str}(h:x≠y):(Sum.inr x:Key)≠Sum.inr y:=fun z=>h (Sum.inr.inj z)
theorem zkI (h:H d=some (zc6 L a l)):DGet H d (.str "script") (some (.ref L)):=.inl ⟨_,.inr "script",.inl h,rfl,by rw[zcv rfl]⟩
theorem zrF (h:H d=some (zc6 L a l)):DGet H d (.str "at") (some (.int a)):=.inl ⟨_,.inr "at",.inl h,rfl,by rw[zbr (zdW (show ("script" : Str) ≠ "at" by decide +kernel)),zcv rfl]⟩
theorem zhw (h:H d=some (zc6 L a l)):DGet H d (.str "left") (some (.int l)):=.inl ⟨_,.inr "left",.inl h,rfl,by rw[zbr (zdW (show ("script" : Str) ≠ "left" by decide +kernel)),zbr (zdW (show ("at" : Str) ≠ "left" by decide +kernel)),zcv rfl]⟩
theorem zo8 {k:Key}{v:V}{kvs kvs':List (Key×V)}(h:H d=some (.dK kvs))(hl:kvs.length < sizeLine)(e:putK kvs k v=kvs'):DPut H d (kV k) v (upd H d (.dK kvs')):=by
 subst e;exact DPut.k h hl
theorem zqX {a':Int}(h:H d=some (zc6 L a l)):DPut H d (.str "at") (.int a') (upd H d (zc6 L a' l)):=
 zo8 (k:=.inr "at") h (by show 3 < sizeLine;decide) (by
  unfold putK;rw[if_pos (by simp)];simp only[yar,ybW,if_neg (zdW (show ("script" : Str) ≠ "at" by decide +kernel)),if_neg (zdW (show ("left" : Str) ≠ "at" by decide +kernel)),if_true])
theorem zjI {l':Int}(h:H d=some (zc6 L a l)):DPut H d (.str "left") (.int l') (upd H d (zc6 L a l')):=
 zo8 (k:=.inr "left") h (by show 3 < sizeLine;decide) (by
  unfold putK;rw[if_pos (by simp)];simp only[yar,ybW,if_neg (zdW (show ("script" : Str) ≠ "left" by decide +kernel)),if_neg (zdW (show ("at" : Str) ≠ "left" by decide +kernel)),if_true])
end
def zfP (K:Frag):Sp:=fun vs H Q _=>∃(d L:Addr) (m:Int),vs=[.ref d,.int m]∧(0 < m∧m < 1073741824)∧LS K L d H∧∀(v:Int) (H':Hp),0≤v→v < m→Keep d H H'→LS K L d H'→Q (.int v) H'
def zlu:Sp:=fun vs H Q _=>∃ c k:Int,vs=[.int c,.int k]∧∀ v:Int,Q (.int v) H
def zlA (K:Frag):Sp:=fun vs H Q _=>∃(L:Addr) (ns:List Int),vs=[.ref L]∧SqL K H L (ns.map V.int)∧∀(d:Addr) (H':Hp),H d=none→Same H H'→LS K L d H'→Q (.ref d) H'
theorem zrM {ns:List Int}{k:Int}(h:0 < ns.length):∃ v:Int,atI (ns.map V.int) (k % (((ns.map V.int).length:Nat):Int))=some (.int v):=by
 have e:(ns.map V.int).length=ns.length:=yab _;have h1:(0:Int) < (((ns.map V.int).length:Nat):Int):=by rw[e];omega
 have z0:=ycg k (Int.ne_of_gt h1);have z1:=ych k h1;generalize hj:k % (((ns.map V.int).length:Nat):Int)=j at z0 z1;rw[e]at z1;have hk:j.toNat < ns.length:=by omega
 obtain ⟨n,rfl⟩:∃ n:Nat,j=(n:Int):=⟨j.toNat,by omega⟩;have hn:n < ns.length:=by omega
 exact ⟨ns[n],ze8 (by rw[yat,yac hn];rfl)⟩
end L2
namespace L2
open PySem PySem.Spec PyProof.Rows PySem.SeqAt
def Ext (H H':Hp):Prop:=∀ b o,H b=some o→(∀ kvs,o≠.dK kvs)→H' b=some o
theorem Same.ext {H H':Hp}(s:Same H H'):Ext H H':=fun b o h _=>s b o h
theorem Keep.ext {d L:Addr}{a l:Int}{H H':Hp}(k:Keep d H H')(h:H d=some (zc6 L a l)):Ext H H':=fun b o e n=>k b o (fun z=>by
 rw[z,h]at e;cases e
 exact n _ rfl) e
theorem LS.ext {K:Frag}{L d:Addr}{H H':Hp}(s:LS K L d H)(k:Keep d H H'):Ext H H':=by
 obtain ⟨ns,a,l,e,_⟩:=s.ex;exact k.ext e
theorem LS.of_new {K:Frag}{L d:Addr}{H:Hp}(s:LS K L d H){p:Addr}(hp:H p=none)(o:HO):LS K L d (upd H p o):=s.same (zah hp o)
theorem SqL.ext {K:Frag}{H H':Hp}{a:Addr}{xs:List V}(e:Ext H H')(h:SqL K H a xs):SqL K H' a xs:=by
 rcases h with (h | ⟨o,h⟩) | h
 ·exact .inl (.inl (e _ _ h (fun _ z=>nomatch z)))
 ·exact .inl (.inr ⟨o,e _ _ h (fun _ z=>nomatch z)⟩)
 ·exact .inr h
theorem SqT.ext {K:Frag}{H H':Hp}{a:Addr}{xs:List V}(e:Ext H H')(h:SqT K H a xs):SqT K H' a xs:=by
 rcases h with (h | ⟨o,h⟩) | h
 ·exact .inl (.inl (e _ _ h (fun _ z=>nomatch z)))
 ·exact .inl (.inr ⟨o,e _ _ h (fun _ z=>nomatch z)⟩)
 ·exact .inr h
class Rep (α:Type) where
 dec:DecidableEq α
 depth:Nat
 has:Frag→Hp→α→V→Prop
 mono:∀{K:Frag} {H H':Hp} {a:α} {v:V},Ext H H'→has K H a v→has K H' a v
 inj:∀{X:Cx} {pins:List (Addr×Obj)} {σ:St} {H:Hp} {s:Shared} {a b:α} {v:V},Inv X pins σ H s→has X.K H a v→has X.K H b v→a=b
 rc:∀{X:Cx} {pins:List (Addr×Obj)} {σ:St} {H:Hp} {s:Shared} {A:Around} {a b:α} {x y:V} {u v:Value},Inv X pins σ H s→A.units+depth < cLine→has X.K H a x→has X.K H b y→RelV x u→RelV y v→RcAt A s u v (dec a b).decide
 rn:∀{X:Cx} {pins:List (Addr×Obj)} {σ:St} {H:Hp} {s:Shared} {A:Around} {a b:α} {x y:V} {u v:Value},Inv X pins σ H s→A.units+depth < cLine→has X.K H a x→has X.K H b y→RelV x u→RelV y v→RcNeAt A s u v (!(dec a b).decide)
 eq:∀{X:Cx} {pins:List (Addr×Obj)} {σ:St} {H:Hp} {s:Shared} {A:Around} {a b:α} {x y:V} {u v:Value},Inv X pins σ H s→A.units+depth < cLine→has X.K H a x→has X.K H b y→RelV x u→RelV y v→EqAt A s u v (dec a b).decide
instance (priority:=low) repDec {α:Type} [Rep α]:DecidableEq α:=Rep.dec
theorem zjf {i j:Int}:(i == j)=(Int.instDecidableEq i j).decide:=by
 by_cases h:i=j
 ·subst h;simp
 ·rw[beq_eq_false_iff_ne.mpr h];exact (yah h).symm
instance:Rep Int where
 dec:=Int.instDecidableEq
 depth:=0
 has:=fun _ _ i v=>v=.int i
 mono:=fun _ h=>h
 inj:=fun _ h1 h2=>V.int.inj (h1.symm.trans h2)
 rc:=fun _ _ h1 h2 r1 r2=>by
  subst h1 h2;obtain ⟨t,rfl⟩:=r1;obtain ⟨t',rfl⟩:=r2;rw[← zjf];exact RcAt.int_int _ _ _ _
 rn:=fun _ _ h1 h2 r1 r2=>by
  subst h1 h2;obtain ⟨t,rfl⟩:=r1;obtain ⟨t',rfl⟩:=r2;rw[← zjf];exact RcNeAt.int_int _ _ _ _
 eq:=fun _ _ h1 h2 r1 r2=>by
  subst h1 h2;obtain ⟨t,rfl⟩:=r1;obtain ⟨t',rfl⟩:=r2;rw[← zjf];exact EqAt.int_int _ _ _ _
instance:Rep Bool where
 dec:=instDecidableEqBool
 depth:=0
 has:=fun _ _ i v=>v=.bl i
 mono:=fun _ h=>h
 inj:=fun _ h1 h2=>V.bl.inj (h1.symm.trans h2)
 rc:=fun {_ _ _ _ _ _ a b _ _ _ _} _ _ h1 h2 r1 r2=>by
  subst h1 h2;cases r1
  cases r2
  have e:(a == b)=(instDecidableEqBool a b).decide:=by cases a <;> cases b <;> rfl
  rw[← e];exact RcAt.bool_bool _ _
 rn:=fun {_ _ _ _ _ _ a b _ _ _ _} _ _ h1 h2 r1 r2=>by
  subst h1 h2;cases r1
  cases r2
  have e:(a == b)=(instDecidableEqBool a b).decide:=by cases a <;> cases b <;> rfl
  rw[← e];exact RcNeAt.bool_bool _ _
 eq:=fun {_ _ _ _ _ _ a b _ _ _ _} _ _ h1 h2 r1 r2=>by
  subst h1 h2;cases r1
  cases r2
  have e:(a == b)=(instDecidableEqBool a b).decide:=by cases a <;> cases b <;> rfl
  rw[← e];exact EqAt.bool_bool _ _
theorem pImp {α β:Type}{R S:α→β→Prop}(h:∀ a b,R a b→S a b){as:List α}{bs:List β}(p:Paired R as bs):Paired S as bs:=by
 induction p with
 | nil=>exact .nil
 | cons a _ ih=>exact .cons (h _ _ a) ih
theorem pApp {α β:Type}{R:α→β→Prop}{as cs:List α}{bs ds:List β}(p:Paired R as bs)(q:Paired R cs ds):Paired R (as++cs) (bs++ds):=by
 induction p with
 | nil=>exact q
 | cons a _ ih=>exact .cons a ih
def zak {α:Type}[Rep α](K:Frag)(H:Hp):List α→List V→Prop:=Paired (Rep.has K H)
section
variable {α:Type}[Rep α]{K:Frag}{H H':Hp}
theorem zak.mono (e:Ext H H'){as:List α}{xs:List V}(h:zak K H as xs):zak K H' as xs:=pImp (fun _ _=>Rep.mono e) h
theorem zak.length {as:List α}{xs:List V}(h:zak K H as xs):as.length=xs.length:=Paired.length h
theorem zak.get:∀{as:List α} {xs:List V} {i:Nat} {x:V},zak K H as xs→xs[i]?=some x→∃ a,as[i]?=some a∧Rep.has K H a x
 | _,_,_,_,.nil,e=>by simp at e
 | _,_,0,_,.cons h _,e=>by simp at e;subst e;exact ⟨_,rfl,h⟩
 | _,_,i+1,x,.cons _ t,e=>by
  obtain ⟨a,h1,h2⟩:=zak.get (i:=i) (x:=x) t (by simpa using e);exact ⟨a,by simpa using h1,h2⟩
theorem zak.append {as bs:List α}{xs ys:List V}(h:zak K H as xs)(g:zak K H bs ys):zak K H (as++bs) (xs++ys):=pApp h g
theorem zak.take:∀{as:List α} {xs:List V} (n:Nat),zak K H as xs→zak K H (as.take n) (xs.take n)
 | _,_,0,_=>.nil
 | _,_,_+1,.nil=>.nil
 | _,_,n+1,.cons r t=>.cons r (zak.take n t)
theorem zak.drop:∀{as:List α} {xs:List V} (n:Nat),zak K H as xs→zak K H (as.drop n) (xs.drop n)
 | _,_,0,r=>r
 | _,_,_+1,.nil=>.nil
 | _,_,n+1,.cons _ t=>zak.drop n t
theorem zak.one {a:α}{x:V}(h:Rep.has K H a x):zak K H [a] [x]:=.cons h .nil
theorem zak.ints:∀{ns:List Int},zak K H ns (ns.map V.int)
 | []=>.nil
 | _::_=>.cons rfl zak.ints
theorem zak.toInts {ns:List Int}{xs:List V}(h:zak K H ns xs):xs=ns.map V.int:=by
 unfold zak at h
 induction h with
 | nil=>rfl
 | cons h _ ih=>
  have e:_=V.int _:=h;rw[e,ih];rfl
theorem zak.inj {X:Cx}{pins:List (Addr×Obj)}{σ:St}{s:Shared}(I:Inv X pins σ H s){as bs:List α}{xs:List V}(h:zak X.K H as xs)(g:zak X.K H bs xs):as=bs:=by
 unfold zak at h g
 induction h generalizing bs with
 | nil=>cases g;rfl
 | cons h _ ih=>
  cases g with
  | cons h' t'=>rw[Rep.inj I h h',ih t']
end
theorem ze9 {α:Type}[DecidableEq α]:∀(as bs:List α),as.length=bs.length→((List.range as.length).all fun j=>decide (as[j]?=bs[j]?))=decide (as=bs):=by
 intro as bs hl;by_cases h:as=bs
 ·subst h;simp
 ·rw[yah h,List.all_eq_false]
  false_or_by_contra
  rename_i z;apply h;apply ybb;intro i;by_cases hi:i < as.length
  ·false_or_by_contra
   rename_i q;exact z ⟨i,ybc.mpr hi,by simpa using q⟩
  ·rw[yaY (by omega),yaY (by omega)]
section
variable {α:Type}[r:Rep α]
theorem zbf {A:Around}:A.in1.units≤A.units+1:=by
 first
  | exact yaa _
  | (unfold Around.in1;simp)
theorem zfH {X:Cx}{pins:List (Addr×Obj)}{σ:St}{H:Hp}{s:Shared}{A:Around}{as bs:List α}{xs ys:List V}{us vs:List Value}(I:Inv X pins σ H s)(hu:A.units+Rep.depth α < cLine)
  (h1:zak X.K H as xs) (h2:zak X.K H bs ys) (r1:Vals xs us) (r2:Vals ys vs):∀ j (q1:j < us.toArray.size) (q2:j < vs.toArray.size),EqAt A s us.toArray[j] vs.toArray[j] (decide (as[j]?=bs[j]?)):=by
 intro j q1 q2;have l1:=r1.length;have l2:=r2.length;have m1:=h1.length;have m2:=h2.length;have j1:j < us.length:=by simpa using q1
 have j2:j < vs.length:=by simpa using q2
 obtain ⟨a,ea,ha⟩:=h1.get (i:=j) (yac (by omega));obtain ⟨b,eb,hb⟩:=h2.get (i:=j) (yac (by omega));obtain ⟨u,eu,ru⟩:=r1.get (i:=j) (yac (by omega));obtain ⟨v,ev,rv⟩:=r2.get (i:=j) (yac (by omega));have gu:us.toArray[j]=u:=by
  have:us[j]?=some us[j]:=yac j1;rw[eu]at this;simpa using (yad this).symm
 have gv:vs.toArray[j]=v:=by
  have:vs[j]?=some vs[j]:=yac j2;rw[ev]at this;simpa using (yad this).symm
 rw[gu,gv,ea,eb];have e:decide (some a=some b)=(Rep.dec a b).decide:=by
  by_cases z:a=b
  ·subst z;simp
  ·rw[yah (fun q=>z (yad q))];exact (yah z).symm
 rw[e];exact Rep.eq I hu ha hb ru rv
end
def hasL {α:Type}[Rep α](K:Frag)(H:Hp)(as:List α)(v:V):Prop:=∃ a xs,v=.ref a∧SqL K H a xs∧zak K H as xs
section
variable {α:Type}[r:Rep α]{X:Cx}{pins:List (Addr×Obj)}{σ:St}{H:Hp}{s:Shared}{A:Around}{as bs:List α}{x y:V}{u v:Value}
theorem zon (I:Inv X pins σ H s)(h1:hasL X.K H as x)(h2:hasL X.K H bs x):as=bs:=by
 obtain ⟨a,xs,rfl,q1,h1⟩:=h1;obtain ⟨b,ys,e,q2,h2⟩:=h2;cases e
 rw[I.list_inj q2 q1]at h2;exact h1.inj I h2
theorem zmH (I:Inv X pins σ H s)(hu:A.units+(Rep.depth α+1) < cLine)(h1:hasL X.K H as x)(h2:hasL X.K H bs y)(r1:RelV x u)(r2:RelV y v):RcAt A s u v (decide (as=bs)):=by
 obtain ⟨a,xs,rfl,q1,h1⟩:=h1;obtain ⟨b,ys,rfl,q2,h2⟩:=h2;cases r1
 cases r2
 obtain ⟨us,ru,pu,_⟩:=I.list q1;obtain ⟨vs,rv,pv,_⟩:=I.list q2;have l1:=ru.length;have l2:=rv.length;have m1:=h1.length;have m2:=h2.length;have hin:A.in1.units+Rep.depth α < cLine:=yaU (ya6 zbf _) (by omega);by_cases hl:as.length=bs.length
 ·have e:=ze9 as bs hl;rw[← e];have z:as.length=us.toArray.size:=by simp;omega
  rw[z];exact RcAt.lists pu.isList pv.isList (by simp;omega) (by omega) (zfH I hin h1 h2 ru rv)
 ·rw[yah (fun z=>hl (by rw[z]))];exact RcAt.lists_lengths pu.isList pv.isList (by simp;omega) (by omega)
theorem zqb (I:Inv X pins σ H s)(hu:A.units+(Rep.depth α+1) < cLine)(h1:hasL X.K H as x)(h2:hasL X.K H bs y)(r1:RelV x u)(r2:RelV y v):RcNeAt A s u v (!decide (as=bs)):=by
 obtain ⟨a,xs,rfl,q1,h1⟩:=h1;obtain ⟨b,ys,rfl,q2,h2⟩:=h2;cases r1
 cases r2
 obtain ⟨us,ru,pu,_⟩:=I.list q1;obtain ⟨vs,rv,pv,_⟩:=I.list q2;have l1:=ru.length;have l2:=rv.length;have m1:=h1.length;have m2:=h2.length;have hin:A.in1.units+Rep.depth α < cLine:=yaU (ya6 zbf _) (by omega);by_cases hl:as.length=bs.length
 ·have e:=ze9 as bs hl;rw[← e];have z:as.length=us.toArray.size:=by simp;omega
  rw[z];exact RcNeAt.lists pu.isList pv.isList (by simp;omega) (by omega) (zfH I hin h1 h2 ru rv)
 ·rw[yah (fun z=>hl (by rw[z])),Bool.not_false];exact RcNeAt.lists_lengths pu.isList pv.isList (by simp;omega) (by omega)
theorem zqc (I:Inv X pins σ H s)(hu:A.units+(Rep.depth α+1) < cLine)(h1:hasL X.K H as x)(h2:hasL X.K H bs y)(r1:RelV x u)(r2:RelV y v):EqAt A s u v (decide (as=bs)):=by
 have rc:=zmH (A:=A) I hu h1 h2 r1 r2;obtain ⟨a,xs,rfl,q1,h1⟩:=h1;obtain ⟨b,ys,rfl,q2,h2⟩:=h2;cases r1
 cases r2
 by_cases hab:a=b
 ·subst hab;rw[I.list_inj q2 q1]at h2;rw[yae (h1.inj I h2)];exact EqAt.same _
 ·exact EqAt.of_refs hab rc
end
instance {α:Type} [Rep α]:Rep (List α) where
 dec:=inferInstance
 depth:=Rep.depth α+1
 has:=hasL
 mono:=fun e ⟨a,xs,h1,h2,h3⟩=>⟨a,xs,h1,h2.ext e,h3.mono e⟩
 inj:=fun I h1 h2=>zon I h1 h2
 rc:=fun I hu h1 h2 r1 r2=>zmH I hu h1 h2 r1 r2
 rn:=fun I hu h1 h2 r1 r2=>zqb I hu h1 h2 r1 r2
 eq:=fun I hu h1 h2 r1 r2=>zqc I hu h1 h2 r1 r2
def hasP {α β:Type}[Rep α][Rep β](K:Frag)(H:Hp)(p:α×β)(v:V):Prop:=∃ a x y,v=.ref a∧H a=some (.tup [x,y])∧Rep.has K H p.1 x∧Rep.has K H p.2 y
section
variable {α β:Type}[ra:Rep α][rb:Rep β]{X:Cx}{pins:List (Addr×Obj)}{σ:St}{H:Hp}{s:Shared}{A:Around}{p q:α×β}{x y:V}{u v:Value}
theorem zj5 (I:Inv X pins σ H s)(h1:hasP X.K H p x)(h2:hasP X.K H q x):p=q:=by
 obtain ⟨a,x1,x2,rfl,q1,e1,e2⟩:=h1;obtain ⟨b,y1,y2,e,q2,f1,f2⟩:=h2;cases e
 have z:=I.tuple_inj (SqT.of q2) (SqT.of q1);cases z
 have g1:=Rep.inj I e1 f1;have g2:=Rep.inj I e2 f2;obtain ⟨p1,p2⟩:=p;obtain ⟨s1,s2⟩:=q;cases g1
 cases g2
 rfl
theorem zmG (I:Inv X pins σ H s)(hu:A.units+(Rep.depth α+Rep.depth β+1) < cLine)(h1:hasP X.K H p x)(h2:hasP X.K H q y)(r1:RelV x u)(r2:RelV y v):RcAt A s u v (decide (p=q)):=by
 obtain ⟨a,x1,x2,rfl,q1,e1,e2⟩:=h1;obtain ⟨b,y1,y2,rfl,q2,f1,f2⟩:=h2;cases r1
 cases r2
 obtain ⟨us,ru,pu,_⟩:=I.tuple (SqT.of q1);obtain ⟨vs,rv,pv,_⟩:=I.tuple (SqT.of q2);obtain ⟨u1,u2,rfl,ru1,ru2⟩:=zgo ru;obtain ⟨v1,v2,rfl,rv1,rv2⟩:=zgo rv;have hin:∀ n,n≤Rep.depth α+Rep.depth β→A.in1.units+n < cLine:=fun n hn=>yaU (ya6 zbf _) (by omega);have c1:=Rep.eq (A:=A.in1) I (hin _ (by omega)) e1 f1 ru1 rv1;have c2:=Rep.eq (A:=A.in1) I (hin _ (by omega)) e2 f2 ru2 rv2;have:=RcAt.tuples (A:=A) (s:=s) (l:=a) (b:=b) (items:=#[u1,u2]) (items2:=#[v1,v2]) (e:=fun j=>if j=0 then (Rep.dec p.1 q.1).decide else (Rep.dec p.2 q.2).decide) pu pv (by omega) (by
  intro j h1 h2;have h1':j < 2:=h1;have z:j=0∨j=1:=by omega
  rcases z with rfl | rfl
  ·exact c1
  ·exact c2)
 have e:((List.range (min (#[u1,u2]:Array Value).size (#[v1,v2]:Array Value).size)).all (fun j=>if j=0 then (Rep.dec p.1 q.1).decide else (Rep.dec p.2 q.2).decide) && (#[u1,u2]:Array Value).size == (#[v1,v2]:Array Value).size)=decide (p=q):=by
  obtain ⟨p1,p2⟩:=p;obtain ⟨s1,s2⟩:=q;show (((List.range 2).all fun j=>if j=0 then (Rep.dec p1 s1).decide else (Rep.dec p2 s2).decide) && true)=_
  rw[show List.range 2=[0,1] from rfl];simp only[ybV,List.all_nil,yci,if_true];rw[if_neg (by decide)];by_cases z1:p1=s1
  ·by_cases z2:p2=s2
   ·subst z1 z2;simp
   ·subst z1;simp[z2]
  ·simp[z1]
 rw[e]at this;exact this
theorem zp9 (I:Inv X pins σ H s)(hu:A.units+(Rep.depth α+Rep.depth β+1) < cLine)(h1:hasP X.K H p x)(h2:hasP X.K H q y)(r1:RelV x u)(r2:RelV y v):RcNeAt A s u v (!decide (p=q)):=by
 obtain ⟨a,x1,x2,rfl,q1,e1,e2⟩:=h1;obtain ⟨b,y1,y2,rfl,q2,f1,f2⟩:=h2;cases r1
 cases r2
 obtain ⟨us,ru,pu,_⟩:=I.tuple (SqT.of q1);obtain ⟨vs,rv,pv,_⟩:=I.tuple (SqT.of q2);obtain ⟨u1,u2,rfl,ru1,ru2⟩:=zgo ru;obtain ⟨v1,v2,rfl,rv1,rv2⟩:=zgo rv;have hin:∀ n,n≤Rep.depth α+Rep.depth β→A.in1.units+n < cLine:=fun n hn=>yaU (ya6 zbf _) (by omega);have c1:=Rep.eq (A:=A.in1) I (hin _ (by omega)) e1 f1 ru1 rv1;have c2:=Rep.eq (A:=A.in1) I (hin _ (by omega)) e2 f2 ru2 rv2;have:=RcNeAt.tuples (A:=A) (s:=s) (l:=a) (b:=b) (items:=#[u1,u2]) (items2:=#[v1,v2]) (e:=fun j=>if j=0 then (Rep.dec p.1 q.1).decide else (Rep.dec p.2 q.2).decide) pu pv (by omega) (by
  intro j h1 h2;have h1':j < 2:=h1;have z:j=0∨j=1:=by omega
  rcases z with rfl | rfl
  ·exact c1
  ·exact c2)
 have e:((List.range (min (#[u1,u2]:Array Value).size (#[v1,v2]:Array Value).size)).all (fun j=>if j=0 then (Rep.dec p.1 q.1).decide else (Rep.dec p.2 q.2).decide) && (#[u1,u2]:Array Value).size == (#[v1,v2]:Array Value).size)=decide (p=q):=by
  obtain ⟨p1,p2⟩:=p;obtain ⟨s1,s2⟩:=q;show (((List.range 2).all fun j=>if j=0 then (Rep.dec p1 s1).decide else (Rep.dec p2 s2).decide) && true)=_
  rw[show List.range 2=[0,1] from rfl];simp only[ybV,List.all_nil,yci,if_true];rw[if_neg (by decide)];by_cases z1:p1=s1
  ·by_cases z2:p2=s2
   ·subst z1 z2;simp
   ·subst z1;simp[z2]
  ·simp[z1]
 rw[e]at this;exact this
theorem zqa (I:Inv X pins σ H s)(hu:A.units+(Rep.depth α+Rep.depth β+1) < cLine)(h1:hasP X.K H p x)(h2:hasP X.K H q y)(r1:RelV x u)(r2:RelV y v):EqAt A s u v (decide (p=q)):=by
 have rc:=zmG (A:=A) I hu h1 h2 r1 r2;have h1':=id h1;have h2':=id h2;obtain ⟨a,x1,x2,rfl,q1,e1,e2⟩:=h1;obtain ⟨b,y1,y2,rfl,q2,f1,f2⟩:=h2;cases r1
 cases r2
 by_cases hab:a=b
 ·subst hab;rw[yae (zj5 I h1' h2')];exact EqAt.same _
 ·exact EqAt.of_refs hab rc
end
instance {α β:Type} [Rep α] [Rep β]:Rep (α×β) where
 dec:=inferInstance
 depth:=Rep.depth α+Rep.depth β+1
 has:=hasP
 mono:=fun e ⟨a,x,y,h1,h2,h3,h4⟩=>⟨a,x,y,h1,e _ _ h2 (fun _ z=>nomatch z),Rep.mono e h3,Rep.mono e h4⟩
 inj:=fun I h1 h2=>zj5 I h1 h2
 rc:=fun I hu h1 h2 r1 r2=>zmG I hu h1 h2 r1 r2
 rn:=fun I hu h1 h2 r1 r2=>zp9 I hu h1 h2 r1 r2
 eq:=fun I hu h1 h2 r1 r2=>zqa I hu h1 h2 r1 r2
theorem huD {A:Around}{k:Nat}{α:Type}[Rep α](hr:Room k A)(h:Rep.depth α≤64:=by decide):A.units+Rep.depth α < cLine:=yaU (ycu h _) hr.units
def rEqD (α:Type)[Rep α](K:Frag):R2:=fun x y H Q=>∃ a b:α,Rep.has K H a x∧Rep.has K H b y∧Q (.bl (decide (a=b))) H
def rNeD (α:Type)[Rep α](K:Frag):R2:=fun x y H Q=>∃ a b:α,Rep.has K H a x∧Rep.has K H b y∧Q (.bl (!decide (a=b))) H
section
variable {X:Cx}
theorem zjS (α:Type)[Rep α](hu:X.A.units+Rep.depth α < cLine):OpR X (compareOp .Eq) (rEqD α X.K):=by
 intro pins s σ H x y v u Q I rx ry h;obtain ⟨a,b,ha,hb,q⟩:=h;refine Rep.rc I hu ha hb rx ry X.prog X.w X.xe _ ⟨.bl _,H,I,rfl,?_⟩;have e:(Rep.dec a b).decide=decide (a=b):=rfl;rw[e];exact q
theorem zh0 (α:Type)[Rep α](hu:X.A.units+Rep.depth α < cLine):OpR X (compareOp .NotEq) (rNeD α X.K):=by
 intro pins s σ H x y v u Q I rx ry h;obtain ⟨a,b,ha,hb,q⟩:=h;refine Rep.rn I hu ha hb rx ry X.prog X.w X.xe _ ⟨.bl _,H,I,rfl,?_⟩;have e:(Rep.dec a b).decide=decide (a=b):=rfl;rw[e];exact q
end
end L2
namespace L2
open PySem PySem.Spec PyProof.Rows
section
variable {X:Cx}{pins:List (Addr×Obj)}{σ:St}{H:Hp}{s:Shared}{h':Heap}
theorem Inv.turnedNew {t':Nat}{fp:List Addr}{p:Addr}{o:HO}(I:Inv X pins σ H s)(k:∀ b ob,b∉fp→s.heap.get? b=some ob→h'.get? b=some ob)(hf:∀ b∈fp,FpOk X pins H b)
  (hp:s.heap.objs.size≤p) (new:zbl X.prog X.w (upd H p o) h' p o):Inv X pins σ (upd H p o) { s with heap:=h',toks:=t' }:=by
 have hn:H p=none:=I.hok.fresh hp;have nfp:∀ b u,H b=some u→b∉fp:=fun b u e z=>by rw[(hf b z).1]at e;cases e
 have nep:∀ b ob,s.heap.get? b=some ob→b≠p:=fun b ob e=>yas (yax (yag e) hp);refine I.step (g':=s.gens) (d':=s.drawn) (ch:=fp) (fun b hb=>?_) (fun b ob _ _ hc e _=>k b ob hc e) (fun b ob _ _ hc e _=>⟨ob.slots,k b ob hc e⟩) (fun b ob _ e n=>by rw[zaf (nep b ob e)];exact n)
  (fun b ob hc e=>⟨ob,k b ob hc e⟩) (fun b xs e=>by rw[zaf (zad e hn)];exact e) (fun b ob u e=>by rw[zaf (zad e hn)];exact e) (fun b ps e=>⟨#[],by rw[zaf (zad e hn),e];simp⟩) (fun m hm=>?_) (fun b u e=>?_) I.bare
 ·obtain ⟨_,h2,_,h4,h5,h6⟩:=hf b hb;exact ⟨h4,h2,h5,h6⟩
 ·obtain ⟨ob,es,ep,ho,r⟩:=hm;exact ⟨ob,es,ep,k _ ob (fun z=>(hf _ z).2.1 rfl) ho,r⟩
 ·by_cases hb:b=p
  ·subst hb;rw[zab]at e;cases e;exact new
  ·rw[zaf hb]at e;refine (I.hok b u e).stay (fun c v hc q=>k c v ?_ q) (fun c q=>by rw[zaf (zad q hn)];exact q) fun c xs q=>by rw[zaf (zad q hn)];exact q
   rcases hc with z | z
   ·rw[z];exact nfp b u e
   ·exact nfp c _ z
theorem zld {P:Program}{w:World}{H:Hp}{h:Heap}{p:Addr}{x y:V}{u v:Value}(rx:RelV x u)(ry:RelV y v)(e:h.get? p=some { cls:=.type "tuple",data:=.seq #[u,v] }):zbl P w H h p (.tup [x,y]):=
 ⟨by show 2≤sizeLine;decide,[u,v],.cons rx (.cons ry .nil),_,e,rfl,0,rfl⟩
end
def Ite (K:Frag)(a:Addr):It:=
 ⟨fun i H=>∃ xs x,SqL K H a xs∧xs[i]?=some x,fun i H x H'=>∃ p y,x=.ref p∧H p=none∧(∀ xs,SqL K H a xs→xs[i]?=some y)∧H'=upd H p (.tup [.int i,y]),fun i H=>∃ xs,SqL K H a xs∧xs.length≤i⟩
theorem zla {P:Program}{w:World}{K:Frag}{es:List Expr}{k0}{pos:Pos}(a it e:Addr)(hne:e≠it):Turn P w K (.Tuple es k0 pos) (Ite K a) [e,it] e (fun i h=>(∃ old,IsEnum h e it i old)∧h.IsListIter it a i) where
 mem:=by simp
 obj:=fun i h st b hb=>by
  obtain ⟨⟨old,he⟩,o,ho,c,d⟩:=st;rcases yak.mp hb with z | z
  ·subst z;exact ⟨_,he,fun v z=>by cases z⟩
  ·have z:=yaj.mp z;subst z;exact ⟨o,ho,fun v z=>by rw[d]at z;cases z⟩
 keep:=fun i h h' st k=>by
  obtain ⟨⟨old,he⟩,hi⟩:=st;exact ⟨⟨old,k e (by simp) _ he⟩,hi.at fun o q=>k it (by simp) o q⟩
 item:=by
  intro X hP hw hK hc i pins s σ H E I hf st hg;subst hP hw hK;obtain ⟨⟨old,he⟩,hi⟩:=st;obtain ⟨xs,x,hq,hx⟩:=hg;obtain ⟨its,rv,p,hz⟩:=I.list hq;obtain ⟨u,hu,ru⟩:=rv.get hx;refine wpAny_pyNext_enum_item he hi p.isList (x:=u) (by simpa using hu) hne fun h1 he1 hi1 ht1 _ k1=>?_;refine ⟨_,rfl,wpAny_letOwnedTupleGo_enum (s:={ s with heap:=h1,toks:=s.toks+1 }) he1 fun h2 he2 sb=>?_⟩;have np:s.heap.objs.size≠e:=ybk (yag he);have ht2:h2.get? s.heap.objs.size=some { cls:=.type "tuple",data:=.seq #[.int i s.toks,u] }:=(sb.2 _ np).trans ht1;have I2:Inv X pins σ (upd H s.heap.objs.size (.tup [.int i,x])) { s with heap:=h2,toks:=s.toks+1 }:=
   I.turnedNew (fp:=[e,it]) (fun b ob hb q=>(sb.2 b (fun z=>hb (by simp[z]))).trans (k1 b ob (fun z=>hb (by simp[z])) (fun z=>hb (by simp[z])) q)) hf (yaa _) (zld ⟨_,rfl⟩ ru ht2)
  refine ⟨.ref s.heap.objs.size,_,I2,rfl,⟨_,x,rfl,I.hok.fresh (yaa _),fun ys hy=>by rw[I.list_inj hy hq];exact hx,rfl⟩,⟨⟨u,?_⟩,?_⟩,fun b hb=>?_⟩
  ·have z:IsEnum h2 e it ((i:Int)+1) u:=he2;exact z
  ·exact hi1.at fun o q=>(sb.2 it (Ne.symm hne)).trans q
  ·have z:=(hf b hb).1;rw[zaf ?_]
   ·exact z
   ·rcases yak.mp hb with q | q
    ·rw[q];exact Ne.symm np
    ·rw[yaj.mp q];obtain ⟨o,ho,_⟩:=hi;exact yas (yag ho)
 done:=by
  intro X hP hw hK hc i pins s σ H E I hf st hg;subst hP hw hK;obtain ⟨⟨old,he⟩,hi⟩:=st;obtain ⟨xs,hq,hx⟩:=hg;obtain ⟨its,rv,p,hz⟩:=I.list hq;obtain ⟨f0,f1,f2,f3,f4,f5⟩:=hf it (by simp);have hl:=rv.length;exact wpAny_pyNext_enum_end (I.ok.hd hc) he hi p.isList (by simp;omega) fun h' eb=>⟨rfl,I.turned (t':=s.toks) (fun b o hb q=>eb b o hb q) f0 f1 f3 f4 f5⟩
 self:=fun _ _ _ _ _ st h=>by
  obtain ⟨⟨old,he⟩,_⟩:=st;exact wpAny_pyIter_enum he h
def zr9 (K:Frag)(ta:TA):TI:=fun σ H R=>ta σ H fun vs H1=>∃ a,vs=[.ref a]∧(∃ xs,SqL K H1 a xs)∧R (Ite K a) H1
section
variable {X:Cx}
theorem zhY {es:List Expr}{k0}{tp:Pos}{a:Expr}{ta:TA}{p pos:Pos}(hg:Gl X "enumerate")(hm:X.mg "enumerate" = none)(ha:PA X [a] ta)(hs:starEach [a] X.env=[(false,eval a X.env)]:=by rfl):PI X (.Tuple es k0 tp) (.Call (.Name "enumerate" p) [a] [] pos) (zr9 X.K ta):=by
 intro pins s σ H R I h;refine Call_ (zfi I hg hm boot_enumerate (PyProof.Rows.callWith_type1 (thn (ha pos pins s σ H _ I h) fun us s1 zq0=>?_) hs rfl));obtain ⟨vs,H1,I1,r1,q1⟩:=zq0;obtain ⟨l,e,⟨xs,hq⟩,q⟩:=q1;subst e;cases r1 with
 | cons r rr=>
  cases rr
  cases r
  obtain ⟨its,rv,pl,hz⟩:=I1.list hq;refine call_enumerate_list pl.isList fun h' he hi _ hk=>?_;have I2:Inv X pins σ H1 { s1 with heap:=h' }:=I1.kept (t':=s1.toks) hk;refine wpAny_pyIter_enum (s:={ s1 with heap:=h' }) he ⟨_,[s1.heap.objs.size+1,s1.heap.objs.size],_,_,H1,rfl,I2,zla l s1.heap.objs.size (s1.heap.objs.size+1) (Nat.succ_ne_self _),⟨⟨_,he⟩,hi⟩,fun b hb=>?_,q⟩;have hb':s1.heap.objs.size≤b:=by
   rcases yak.mp hb with z | z
   ·rw[z];exact ybd _
   ·rw[yaj.mp z];exact yaa _
  exact I1.fpOk hb' (I1.hok.fresh hb')
end
theorem zot {K:Frag}{a:Addr}{xs:List V}{g:TG}{tb:TS}{D:Ends}{σ:St}{H:Hp}(Pv:Nat→St→Hp→Prop)(h0:Pv 0 σ H)(hl:∀ i σ H,i≤xs.length→Pv i σ H→SqL K H a xs)
  (hs:∀ i x σ H p,xs[i]?=some x→Pv i σ H→H p=none→g (.ref p) σ (upd H p (.tup [.int i,x])) fun σ2 H2=>tb { D with nx:=Pv (i+1),ct:=Pv (i+1),bk:=D.nx } σ2 H2) (hd:∀ σ H,Pv xs.length σ H→D.nx σ H) :
  ∃ W:Nat→Nat→St→Hp→Prop,(∃ m,W 0 m σ H)∧∀ i m σ H,W i m σ H→((Ite K a).stop i H∧D.nx σ H)∨((Ite K a).go i H∧∃ N:St→Hp→Prop,(∀ σ' H',N σ' H'→∃ m',m' < m∧W (i+1) m' σ' H')∧∀ x H',(Ite K a).yld i H x H'→g x σ H' fun σ2 H2=>tb { D with nx:=N,ct:=N,bk:=D.nx } σ2 H2):=by
 refine ⟨fun i m σ H=>i+m=xs.length∧Pv i σ H,⟨xs.length,by omega,h0⟩,fun i m σ H zq0=>?_⟩;obtain ⟨e,pv⟩:=zq0;have hS:=hl i σ H (by omega) pv;by_cases hi:i < xs.length
 ·refine .inr ⟨⟨xs,xs[i],hS,yac hi⟩,Pv (i+1),fun σ' H' q=>⟨m - 1,by omega,by omega,q⟩,fun x H' y=>?_⟩;obtain ⟨p,z,rfl,hp,hz,rfl⟩:=y;exact hs i z σ H p (hz xs hS) pv hp
 ·have:i=xs.length:=by omega
  subst this;exact .inl ⟨⟨xs,hS,yaa _⟩,hd σ H pv⟩
def Itz (K:Frag)(a b:Addr):It:=
 ⟨fun i H=>∃ xs ys x y,SqL K H a xs∧SqL K H b ys∧xs[i]?=some x∧ys[i]?=some y,fun i H x H'=>∃ p y z,x=.ref p∧H p=none∧(∀ xs,SqL K H a xs→xs[i]?=some y)∧(∀ xs,SqL K H b xs→xs[i]?=some z)∧H'=upd H p (.tup [y,z]),fun i H=>∃ xs ys,SqL K H a xs∧SqL K H b ys∧(xs.length≤i∨ys.length≤i)⟩
theorem zno {P:Program}{w:World}{K:Frag}{es:List Expr}{k0}{pos:Pos}{a b z TI TO i1 i2:Addr}(D:ZipApart z TI TO i1 i2 a b):Turn P w K (.Tuple es k0 pos) (Itz K a b) [z,TI,TO,i1,i2] z
  (fun i h=>IsZip h z TI TO .none∧IsPair h TI (.ref i1) (.ref i2)∧(∃ u v,IsPair h TO u v)∧h.IsListIter i1 a i∧h.IsListIter i2 b i) where
 mem:=by simp
 obj:=fun i h st c hc=>by
  obtain ⟨hz,hTI,⟨u,v,hTO⟩,⟨o1,e1,_,d1⟩,⟨o2,e2,_,d2⟩⟩:=st;simp only[yak,yaS,or_false]at hc;rcases hc with rfl | rfl | rfl | rfl | rfl
  ·exact ⟨_,hz,fun v q=>by cases q⟩
  ·exact ⟨_,hTI,fun v q=>by cases q⟩
  ·exact ⟨_,hTO,fun v q=>by cases q⟩
  ·exact ⟨o1,e1,fun v q=>by rw[d1]at q;cases q⟩
  ·exact ⟨o2,e2,fun v q=>by rw[d2]at q;cases q⟩
 keep:=fun i h h' st k=>by
  obtain ⟨hz,hTI,⟨u,v,hTO⟩,h1,h2⟩:=st;exact ⟨k z (by simp) _ hz,k TI (by simp) _ hTI,⟨u,v,k TO (by simp) _ hTO⟩,h1.at fun o q=>k i1 (by simp) o q,h2.at fun o q=>k i2 (by simp) o q⟩
 item:=by
  intro X hP hw hK hc i pins s σ H E I hf st hg;subst hP hw hK;obtain ⟨hz,hTI,⟨u0,v0,hTO⟩,h1,h2⟩:=st;obtain ⟨xs,ys,x,y,hqa,hqb,hx,hy⟩:=hg;obtain ⟨its,rv,p,_⟩:=I.list hqa;obtain ⟨jts,rw',p',_⟩:=I.list hqb;obtain ⟨u,hu,ru⟩:=rv.get hx;obtain ⟨v,hv,rv'⟩:=rw'.get hy;refine wpAny_pyNext_zip_item D hz hTI hTO h1 h2 p.isList p'.isList (x:=u) (y:=v) (by simpa using hu) (by simpa using hv) fun h1' hz1 hTO1 hi1 hi2 ht1 _ k1=>?_;refine ⟨_,rfl,wpAny_letOwnedTupleGo_zip (s:={ s with heap:=h1' }) hz1 fun h2' hz2 sb=>?_⟩;have np:s.heap.objs.size≠z:=ybk (yag hz);have ht2:h2'.get? s.heap.objs.size=some { cls:=.type "tuple",data:=.seq #[u,v] }:=(sb.2 _ np).trans ht1;have I2:Inv X pins σ (upd H s.heap.objs.size (.tup [x,y])) { s with heap:=h2',toks:=s.toks }:=
   I.turnedNew (fp:=[z,TI,TO,i1,i2]) (fun c ob hb q=>(sb.2 c (fun r=>hb (by simp[r]))).trans (k1 c ob (fun r=>hb (by simp[r])) (fun r=>hb (by simp[r])) (fun r=>hb (by simp[r])) (fun r=>hb (by simp[r])) q)) hf (yaa _) (zld ru rv' ht2)
  refine ⟨.ref s.heap.objs.size,_,I2,rfl,⟨_,x,y,rfl,I.hok.fresh (yaa _),fun ys hy'=>by rw[I.list_inj hy' hqa];exact hx,fun ys hy'=>by rw[I.list_inj hy' hqb];exact hy,rfl⟩,⟨hz2,(sb.2 _ D.TIz).trans (k1 TI _ D.TIz D.TITO D.TIi1 D.TIi2 hTI),⟨_,_,(sb.2 _ D.TOz).trans hTO1⟩,hi1.at fun o q=>(sb.2 i1 D.i1z).trans q,hi2.at fun o q=>(sb.2 i2 D.i2z).trans q⟩,fun c hb=>?_⟩;have zf:=(hf c hb).1;have lt:c < s.heap.objs.size:=by
   simp only[yak,yaS,or_false]at hb;obtain ⟨o1,e1,_⟩:=h1;obtain ⟨o2,e2,_⟩:=h2;rcases hb with rfl | rfl | rfl | rfl | rfl
   ·exact yag hz
   ·exact yag hTI
   ·exact yag hTO
   ·exact yag e1
   ·exact yag e2
  rw[zaf (yas lt)];exact zf
 done:=by
  intro X hP hw hK hc i pins s σ H E I hf st hg;subst hP hw hK;obtain ⟨hz,hTI,⟨u0,v0,hTO⟩,h1,h2⟩:=st;obtain ⟨xs,ys,hqa,hqb,hend⟩:=hg;obtain ⟨its,rv,p,_⟩:=I.list hqa;obtain ⟨jts,rw',p',_⟩:=I.list hqb;have l1:=rv.length;have l2:=rw'.length;refine wpAny_pyNext_zip_end (I.ok.hd hc) D hz hTI hTO h1 h2 p.isList p'.isList (by
   rcases hend with q | q
   ·left;simp;omega
   ·right;simp;omega) fun h' kk=>⟨rfl,?_⟩
  refine I.step (g':=s.gens) (d':=s.drawn) (t':=s.toks) (ch:=[z,TI,TO,i1,i2]) (fun c hb=>?_) (fun c ob _ _ hn q _=>kk c ob (fun r=>hn (by simp[r])) (fun r=>hn (by simp[r])) (fun r=>hn (by simp[r])) (fun r=>hn (by simp[r])) q)
   (fun c ob _ _ hn q _=>⟨ob.slots,kk c ob (fun r=>hn (by simp[r])) (fun r=>hn (by simp[r])) (fun r=>hn (by simp[r])) (fun r=>hn (by simp[r])) q⟩) (fun _ _ _ _ n=>n)
   (fun c ob hn q=>⟨ob,kk c ob (fun r=>hn (by simp[r])) (fun r=>hn (by simp[r])) (fun r=>hn (by simp[r])) (fun r=>hn (by simp[r])) q⟩) (fun _ _ q=>q) (fun _ _ _ q=>q) (fun c ps q=>⟨#[],by rw[q];simp⟩) (fun m hm=>?_) (fun c u e=>?_) I.bare
  ·obtain ⟨_,q2,_,q4,q5,q6⟩:=hf c hb;exact ⟨q4,q2,q5,q6⟩
  ·obtain ⟨ob,es,ep,ho,r⟩:=hm;have nL:∀ c∈[z,TI,TO,i1,i2],X.env.locals≠c:=fun c hc=>Ne.symm (hf c hc).2.1;exact ⟨ob,es,ep,kk _ ob (nL z (by simp)) (nL TO (by simp)) (nL i1 (by simp)) (nL i2 (by simp)) ho,r⟩
  ·have nf:∀ c' u,H c'=some u→∀ q∈[z,TI,TO,i1,i2],c'≠q:=fun c' u e q hq r=>by rw[r,(hf q hq).1]at e;cases e
   refine (I.hok c u e).stay (fun c' v hc' q=>?_) (fun _ q=>q) fun _ _ q=>q;have go:∀ u',H c'=some u'→h'.get? c'=some v:=fun u' e'=>kk c' v (nf c' _ e' z (by simp)) (nf c' _ e' TO (by simp)) (nf c' _ e' i1 (by simp)) (nf c' _ e' i2 (by simp)) q;rcases hc' with r | r
   ·exact go u (by rw[r];exact e)
   ·exact go _ r
 self:=fun _ _ _ _ _ st h=>wpAny_pyIter_zip st.1 h
theorem zkZ {l l' n:Nat}(hl:l < n)(hl':l' < n):ZipApart (n+4) (n+2) (n+3) n (n+1) l l':=by
 constructor <;> (intro z;have z':(_:Nat)=_:=z;omega)
theorem zqy {n c:Nat}(h:c∈[n+4,n+2,n+3,n,n+1]):n≤c:=by
 simp only[yak,yaS,or_false]at h;omega
def iZip (K:Frag)(ta:TA):TI:=fun σ H R=>ta σ H fun vs H1=>∃ a b,vs=[.ref a,.ref b]∧(∃ xs,SqL K H1 a xs)∧(∃ xs,SqL K H1 b xs)∧R (Itz K a b) H1
section
variable {X:Cx}
theorem zqY {es:List Expr}{k0}{tp:Pos}{a b:Expr}{ta:TA}{p pos:Pos}(hg:Gl X "zip")(hm:X.mg "zip" = none)(ha:PA X [a,b] ta)(hs:starEach [a,b] X.env=[(false,eval a X.env),(false,eval b X.env)]:=by rfl)(hs2:starEach [b] X.env=[(false,eval b X.env)]:=by rfl):PI X (.Tuple es k0 tp) (.Call (.Name "zip" p) [a,b] [] pos) (iZip X.K ta):=by
 intro pins s σ H R I h;refine Call_ (zfi I hg hm boot_zip (PyProof.Rows.callWith_type1 (thn (ha pos pins s σ H _ I h) fun us s1 zq0=>?_) (by rw[hs,hs2]) (by rw[hs2];rfl)));obtain ⟨vs,H1,I1,r1,q1⟩:=zq0;obtain ⟨l,l',e,⟨xs,hq⟩,⟨ys,hq'⟩,q⟩:=q1;subst e;cases r1 with
 | cons r rr=>
  cases rr with
  | cons r' rr=>
   cases rr
   cases r
   cases r'
   obtain ⟨its,rv,pl,hz⟩:=I1.list hq;obtain ⟨jts,rv',pl',hz'⟩:=I1.list hq';have hl:l < s1.heap.objs.size:=by obtain ⟨o,_,e,_⟩:=pl;exact yag e
   have hl':l' < s1.heap.objs.size:=by obtain ⟨o,_,e,_⟩:=pl';exact yag e
   refine call_zip_2 pl.isList pl'.isList fun h' hz hTI hTO hi hi' _ hk=>?_;have I2:Inv X pins σ H1 { s1 with heap:=h' }:=I1.kept (t':=s1.toks) hk;refine wpAny_pyIter_zip (s:={ s1 with heap:=h' }) hz ⟨_,[s1.heap.objs.size+4,s1.heap.objs.size+2,s1.heap.objs.size+3,s1.heap.objs.size,s1.heap.objs.size+1],_,_,H1,rfl,I2,zno (zkZ hl hl'),⟨hz,hTI,⟨_,_,hTO⟩,hi,hi'⟩,fun c hb=>?_,q⟩;have hb':s1.heap.objs.size≤c:=zqy hb;exact I1.fpOk hb' (I1.hok.fresh hb')
end
end L2
namespace L2
open PySem PySem.Spec PyProof.Rows
def zbM (X:Cx)(N:List Str)(scope:Scope)(cl:List (Str×Addr))(C:Addr)(s₂:Shared)(H₂:Hp)(fp:List Addr):Cx:=
 { X with N:=N,s₀:=s₂,H₀:=H₂,env:=compEnvC scope cl C X.env,outer:=X.stack,stack:=X.stack,ex:=fp,fn:=fun _=>false,xe:=fun _ _=>False }
structure zit (scope:Scope)(env:Env)(cl:List (Str×Addr)):Prop where
 eq:closureFor scope env=pure cl
 sub:∀ x c,cl.lookup x=some c→env.cells.lookup x=some c
 has:∀ x,(x,NameKind.free)∈scope.names→∃ c,cl.lookup x=some c
theorem zgg {env:Env}:∀(names:List (Str×NameKind)) (cs:List (Str×Addr)),(∀ x,(x,NameKind.free)∈names→∃ c,env.cells.lookup x=some c)→(∀ x c,cs.lookup x=some c→env.cells.lookup x=some c)→
  ∃ cl:List (Str×Addr),(forIn names cs (fun (x:Str×NameKind) (r:List (Str×Addr))=>if (x.2 == NameKind.free)=true then (do let c ← cellOf env x.1;pure (ForInStep.yield ((x.1,c)::r))) else pure (ForInStep.yield r)):Sem (List (Str×Addr)))=pure cl∧
   (∀ x c,cl.lookup x=some c→env.cells.lookup x=some c)∧(∀ x c,cs.lookup x=some c→∃ c',cl.lookup x=some c')∧∀ x,(x,NameKind.free)∈names→∃ c,cl.lookup x=some c
 | [],cs,_,h2=>⟨cs,by rw[List.forIn_nil],h2,fun x c e=>⟨c,e⟩,fun _ z=>nomatch z⟩
 | (n,k)::r,cs,h1,h2=>by
  by_cases hk:k=.free
  ·subst hk;obtain ⟨c,hc⟩:=h1 n yaL;have hn:∀ x c',((n,c)::cs).lookup x=some c'→env.cells.lookup x=some c':=fun x c' e=>by
    rw[ya4]at e;cases hx:x == n with
    | true=>
     rw[hx]at e;cases e
     rw[eq_of_beq hx];exact hc
    | false=>
     rw[hx]at e;exact h2 x c' e
   obtain ⟨cl,e,s1,s2,s3⟩:=zgg r ((n,c)::cs) (fun x hx=>h1 x (yaA _ hx)) hn;have here:∃ c',cl.lookup n=some c':=s2 n c (by rw[ya4,beq_self_eq_true]);refine ⟨cl,?_,s1,fun x c' q=>?_,fun x hx=>?_⟩
   ·rw[List.forIn_cons,if_pos (by rfl)];have q:cellOf env n=pure c:=by unfold cellOf;rw[hc]
    rw[q];simp only[pure_bind];exact e
   ·cases hxn:x == n with
    | true=>rw[eq_of_beq hxn];exact here
    | false=>exact s2 x c' (by rw[ya4,hxn];exact q)
   ·rcases yak.mp hx with z | z
    ·cases z;exact here
    ·exact s3 x z
  ·obtain ⟨cl,e,s1,s2,s3⟩:=zgg r cs (fun x hx=>h1 x (yaA _ hx)) h2;refine ⟨cl,?_,s1,s2,fun x hx=>?_⟩
   ·have hb:(k == NameKind.free)=false:=by simpa using hk
    rw[List.forIn_cons,if_neg (by rw[hb];exact yay)];simp only[pure_bind];exact e
   ·rcases yak.mp hx with z | z
    ·cases z;exact absurd rfl hk
    ·exact s3 x z
theorem zgf {scope:Scope}{env:Env}(h:∀ x,(x,NameKind.free)∈scope.names→∃ c,env.cells.lookup x=some c):∃ cl,zit scope env cl:=by
 obtain ⟨cl,e,s1,_,s3⟩:=zgg scope.names [] h (fun _ _ z=>nomatch z);refine ⟨cl,?_,s1,s3⟩;unfold closureFor;exact (by simpa using e)
theorem zcp {env:Env}:∀{names:List (Str×NameKind)} {x:Str},names.lookup x=some .free→
  (names.map fun (n,k)=>if (k == NameKind.free && env.scope.kind == .function && env.kindOf n == some .cell) then (n,NameKind.cell) else (n,k)).lookup x=some .cell∨
  (names.map fun (n,k)=>if (k == NameKind.free && env.scope.kind == .function && env.kindOf n == some .cell) then (n,NameKind.cell) else (n,k)).lookup x=some .free
 | [],_,h=>by simp at h
 | (n,k)::r,x,h=>by
  have ih:=@zcp env r x;show List.lookup x ((if (k == NameKind.free && env.scope.kind == .function && env.kindOf n == some .cell)=true then (n,NameKind.cell) else (n,k))::_)=_∨List.lookup x ((if (k == NameKind.free && env.scope.kind == .function && env.kindOf n == some .cell)=true then (n,NameKind.cell) else (n,k))::_)=_
  cases hx:x == n with
  | true=>
   simp only[ya4,hx]at h;cases h
   by_cases hc:(NameKind.free == NameKind.free && env.scope.kind == .function && env.kindOf n == some .cell)=true
   ·rw[if_pos hc];left;simp only[ya4,hx]
   ·rw[if_neg hc];right;simp only[ya4,hx]
  | false=>
   simp only[ya4,hx]at h;by_cases hc:(k == NameKind.free && env.scope.kind == .function && env.kindOf n == some .cell)=true
   ·rw[if_pos hc];simp only[ya4,hx];exact ih h
   ·rw[if_neg hc];simp only[ya4,hx];exact ih h
theorem zd3 {env:Env}:∀{names:List (Str×NameKind)} {x:Str} {k':NameKind},(names.map fun (n,k)=>if (k == NameKind.free && env.scope.kind == .function && env.kindOf n == some .cell) then (n,NameKind.cell) else (n,k)).lookup x=some k'→k'=.cell∨k'=.free→
  (∀ y∈names,y.2≠.cell)→(x,NameKind.free)∈names
 | [],_,_,h,_,_=>by simp at h
 | (n,k)::r,x,k',h,hk,hc=>by
  have ih:=@zd3 env r x k';have h':List.lookup x ((if (k == NameKind.free && env.scope.kind == .function && env.kindOf n == some .cell)=true then (n,NameKind.cell) else (n,k))::r.map fun (n,k)=>if (k == NameKind.free && env.scope.kind == .function && env.kindOf n == some .cell) then (n,NameKind.cell) else (n,k))=some k':=h
  cases hx:x == n with
  | true=>
   have e:=eq_of_beq hx;subst e;by_cases hf:k=.free
   ·subst hf;exact yaL
   ·have hb:(k == NameKind.free)=false:=by simpa using hf
    rw[if_neg (by rw[hb];simp),ya4,hx]at h';cases h'
    rcases hk with z | z
    ·exact absurd z (hc (x,k) yaL)
    ·exact absurd z hf
  | false=>
   refine yaA _ (ih ?_ hk fun y hy=>hc y (yaA _ hy));by_cases hcd:(k == NameKind.free && env.scope.kind == .function && env.kindOf n == some .cell)=true
   ·rw[if_pos hcd,ya4,hx]at h';exact h'
   ·rw[if_neg hcd,ya4,hx]at h';exact h'
def zfc (own:Nat)(cap:List Nat)(σ:St):St:=List.replicate own none++cap.map fun i=>(σ[i]?).getD none
structure zkd (X:Cx)(scope:Scope)(N:List Str)(own:Nat)(cap:List Nat):Prop where
 kind:scope.kind=.function
 nocell:(scope.names.all fun y=>y.2 != .cell)=true
 locs:(scope.names.all fun y=>y.2 != .local || scope.names.lookup y.1 == some .local)=true
 frees:(scope.names.all fun y=>y.2 != .free || (X.env.kindOf y.1 == some .cell || X.env.kindOf y.1 == some .free))=true
 len:N.length=own+cap.length
 caps:((List.range cap.length).all fun j=>(N[own+j]? == X.N[cap[j]!]?) && (match N[own+j]? with | some x=>scope.names.lookup x == some .free && (X.env.kindOf x == some .cell || X.env.kindOf x == some .free) | none=>false))=true
section
variable {prog:Program}{w:World}{A:Around}{R:Result→Shared→Prop}{s:Shared}
theorem zja {elt target iter:Expr}{ifs:List Expr}{scope:Scope}{pos:Pos}{it acc:Value}{env:Env}(I:Nat→Shared→Prop)
  (turn:∀ n s,I n s→wpAny (model prog w) A (pyNext it) (fun r s₁=>match r with
   | none=>R (.ok .next) s₁
   | some v=>wpAny (model prog w) A (letOwnedTupleGo target it v) (fun _ s₁'=>wpAny (model prog w) A (assign target env v) (fun _ s₂=>
     wpAny (model prog w) A (forIn ifs true fun c r=>if r=true then do let ok ← isTrue c env (eval c env);pure (ForInStep.yield ok) else pure (ForInStep.yield r)) (fun ok s₃=>
      if ok=true then wpAny (model prog w) A (eval elt env) (fun x s₄=>
       wpAny (model prog w) A (call (.builtin "list.append") [acc,x]) (fun _ s₅=>∃ m,m < n∧I m s₅) (fun _ _=>False) s₄) (fun _ _=>False) s₃
      else ∃ m,m < n∧I m s₃) (fun _ _=>False) s₂) (fun _ _=>False) s₁') (fun _ _=>False) s₁) (fun _ _=>False) s)
  (n:Nat) (h:I n s) :
  codeAny (model prog w) A (.compLoop (.ListComp elt [⟨target,iter,ifs,0⟩] scope pos) 0 it acc env) R s:=by
 refine codeAny_loop rfl I (fun n s hI=>?_) n h;show wpAny _ A ((compTurn (.ListComp elt [⟨target,iter,ifs,0⟩] scope pos) 0 it acc env).onRaise (fun x=>do noteFrame x env;theTreesLotGoes x)) _ _ s
 refine wpAny_noted ?_;rw[compTurn_list];refine wpAny_bind (wpAny_standAt (wpAny_bind (wpAny_mono (turn n s hI) (fun r s₁ h₁=>?_) fun _ _ h'=>h'.elim)));cases r with
 | none=>exact wpAny_pure h₁
 | some v=>
  refine wpAny_bind (wpAny_mono h₁ (fun _ s₁' h₁'=>?_) fun _ _ h'=>h'.elim);refine wpAny_bind (wpAny_mono h₁' (fun _ s₂ h₂=>wpAny_bind (wpAny_mono h₂ (fun ok s₃ h₃=>?_) fun _ _ h'=>h'.elim)) fun _ _ h'=>h'.elim);cases ok with
  | true=>
   simp only[if_true]at h₃ ⊢;exact wpAny_bind (wpAny_bind (wpAny_mono h₃ (fun x s₄ h₄=>wpAny_bind (wpAny_mono h₄ (fun _ s₅ h₅=>wpAny_pure (wpAny_pure ⟨rfl,h₅⟩)) fun _ _ h'=>h'.elim)) fun _ _ h'=>h'.elim))
  | false=>
   simp only[yaW,if_false]at h₃ ⊢;exact wpAny_pure ⟨rfl,h₃⟩
end
section
variable {X:Cx}
def PTs (X:Cx)(ifs:List Expr)(t:TT):Prop:=
 ∀(pins:List (Addr×Obj)) (s:Shared) (σ:St) (H:Hp) (Q:Bool→Hp→Prop),Inv X pins σ H s→t σ H Q→
  wpAny (model X.prog X.w) X.A (forIn ifs true fun c r=>if r=true then do let ok ← isTrue c X.env (eval c X.env);pure (ForInStep.yield ok) else pure (ForInStep.yield r)) (TP X pins σ Q) X.xe s
def tYes:TT:=fun _ H Q=>Q true H
theorem zc1:PTs X [] tYes:=fun _ _ _ H _ I h=>wpAny_tests_nil ⟨H,I,h⟩
theorem zfU {c:Expr}{t:TT}(h:PT X c t):PTs X [c] t:=fun pins s σ H Q I q=>wpAny_tests_one (h pins s σ H Q I q)
theorem zok {pins:List (Addr×Obj)}{σ:St}{H:Hp}{s:Shared}{N:List Str}{own:Nat}{cap:List Nat}{scope:Scope}{cl:List (Str×Addr)}{C:Addr}{fp:List Addr}{h₁:Heap}{tk:Nat}{D:Addr}
  (I:Inv X pins σ H s) (c:zkd X scope N own cap) (hcl:zit scope X.env cl) (f:∀ b∈fp,FpOk X pins H b) (hD:s.heap.objs.size≤D) (hC:s.heap.objs.size≤C) (hCD:D≠C)
  (kp:∀ b o,s.heap.get? b=some o→h₁.get? b=some o) (hnew:h₁.get? D=some { cls:=.type "list",data:=.seq #[] }) (hns:∃ m,h₁.Ns C m) (hfp:∀ b∈fp,b < s.heap.objs.size) (hcalm:X.calm=true) :
  Inv (zbM X N scope cl C s H fp) pins (zfc own cap σ) (upd H D (.lst [])) { s with heap:=h₁,toks:=tk }:=by
 have hfr:H D=none:=I.hok.fresh hD;have hfrC:H C=none:=I.hok.fresh hC;have sz:∀ b o,s.heap.get? b=some o→b≠D∧b≠C:=fun b o e=>⟨yas (yax (yag e) hD),yas (yax (yag e) hC)⟩;have cells:∀ x cc,cl.lookup x=some cc→∃ v,s.heap.IsCell cc v:=fun x cc e=>I.cell x cc (hcl.sub x cc e);have cellne:∀ x cc,cl.lookup x=some cc→cc≠D∧cc≠C:=fun x cc e=>by
  obtain ⟨v,o,ho,_⟩:=cells x cc e;exact sz cc o ho
 have ok:(zbM X N scope cl C s H fp).Ok:=by
  refine ⟨I.ok.mod,c.kind,I.ok.glob,I.ok.blt,hC,fun x y cc e1 e2=>I.ok.inj x y cc (hcl.sub x cc e1) (hcl.sub y cc e2),fun x hx=>?_,(fun x cc z _=>nomatch z),I.ok.hd,I.ok.frames,.inl rfl,fun b hb=>?_,fun b o e=>I.bs b o e,?_,fun b o e hb=>?_,fun b hb z=>?_,I.stack,fun b hb=>I.stkFree b hb⟩
  ·have hm:(x,NameKind.free)∈scope.names:=by
    rcases hx with z | z
    ·exact zd3 (env:=X.env) (names:=scope.names) (x:=x) (k':=.cell) z (.inl rfl) fun y hy q=>by
      have:=ya1.mp c.nocell y hy;rw[q]at this;exact absurd this (by decide)
    ·exact zd3 (env:=X.env) (names:=scope.names) (x:=x) (k':=.free) z (.inr rfl) fun y hy q=>by
      have:=ya1.mp c.nocell y hy;rw[q]at this;exact absurd this (by decide)
   exact hcl.has x hm
  ·exact ⟨yas (yax (hfp b hb) hC),fun x cc e z=>(f b hb).2.2.2.2.1 x cc (hcl.sub x cc e) z⟩
  ·exact yaw I.ok.bsz I.sz
  ·obtain ⟨_,_,_,h4,_⟩:=f b hb;rcases h4 with z | z
   ·exact I.ok.noex b o e z
   ·exact absurd (yax (yag e) (yaw I.ok.bsz z)) (ybj _)
  ·obtain ⟨_,h2,h3,_⟩:=f b hb;rcases yak.mp (I.stkSub b z) with q | q
   ·exact h2 q
   ·exact h3 q
 have hokN:zbl X.prog X.w (upd H D (.lst [])) h₁ D (.lst []):=⟨yaF _,[],0,.nil,hnew⟩;refine ⟨ok,I.os.symm ▸ rfl,I.bare,Un.laid kp hD hfr,?_,fun x cc e=>?_,?_,fun x cc e=>?_,fun p hp=>?_,I.hok.laid kp hD hokN,?_⟩
 ·obtain ⟨m,hm⟩:=hns;refine ⟨m,hm,fun i x v e1 e2 e3=>?_⟩;have hi:own≤i:=by
   false_or_by_contra
   rename_i z;unfold zfc at e2;rw[ybl (by rw[ybm];omega),yct]at e2;split at e2 <;> cases e2
  obtain ⟨j,rfl⟩:∃ j,i=own+j:=⟨i - own,by omega⟩;have hj:j < cap.length:=by
   have:=(yam.mp e1).1;have z:=c.len;have this':own+j < N.length:=this;omega
  have hc:=ya1.mp c.caps j (ybc.mpr hj);have e1':N[own+j]?=some x:=e1;rw[e1']at hc;simp only[ybs,beq_iff_eq,Bool.or_eq_true]at hc;obtain ⟨hN,hf,hk⟩:=hc;have e2':σ[cap[j]!]?=some (some v):=by
   unfold zfc at e2;rw[ybe (by rw[ybm];omega),ybm,show own+j - own=j by omega,yat]at e2;have g:cap[j]! = cap[j]:=by simp[hj]
   rw[yac hj,Option.map_some]at e2;rw[g];have e2:=yad e2;cases q:σ[cap[j]]? with
   | none=>rw[q]at e2;cases e2
   | some z=>rw[q]at e2;exact congrArg some e2
  obtain ⟨m0,_,hl⟩:=I.loc;obtain ⟨u,ru,lk⟩:=hl (cap[j]!) x v hN.symm e2' (by
   rcases hk with z | z
   ·exact .inr (.inl z)
   ·exact .inr (.inr z))
  refine ⟨u,ru,.inr ⟨zcp (env:=X.env) hf,?_⟩⟩;rcases lk with ⟨z,_⟩ | ⟨_,cc,ec,ic⟩
  ·rcases hk with q | q
   ·rw[q]at z;cases z
   ·rw[q]at z;cases z
  ·obtain ⟨c',hc'⟩:=hcl.has x (by
    have:(x,NameKind.free)∈scope.names:=by
     have hlk:=hf;obtain ⟨l1,l2,hs,hno⟩:=List.lookup_eq_some_iff.mp hlk;rw[hs];exact yaC _ yaL
    exact this)
   have:=hcl.sub x c' hc';rw[ec]at this;cases this
   obtain ⟨o,ho,hd⟩:=ic;exact ⟨cc,hc',o,kp cc o ho,hd⟩
 ·obtain ⟨v,o,ho,hd⟩:=cells x cc e;exact ⟨v,o,kp cc o ho,hd⟩
 ·show upd H D (.lst []) C=none;rw[zaf (Ne.symm hCD)];exact hfrC
 ·show upd H D (.lst []) cc=none;rw[zaf (cellne x cc e).1];exact I.freeC x cc (hcl.sub x cc e)
 ·obtain ⟨e,n,ne,nf,d⟩:=I.pin p hp;refine ⟨kp _ _ e,?_,(sz _ _ e).2,fun z=>?_,d⟩
  ·show upd H D (.lst []) p.1=none;rw[zaf (sz _ _ e).1];exact n
  ·rcases yak.mp (I.stkSub p.1 z) with q | q
   ·exact ne q
   ·exact nf q
 ·show (zfc own cap σ).length=N.length;unfold zfc;rw[yap,ybm,yab,c.len]
def zqG (own:Nat)(cap:List Nat)(wi:TI)(g:TG)(ts:TT)(te:TE):TE:=fun σ H Q=>wi σ H fun J H1=>∀ D,H1 D=none→∃ W:Nat→Nat→St→Hp→Prop,(∃ m,W 0 m (zfc own cap σ) (upd H1 D (.lst [])))∧∀ i m σ H,W i m σ H→
 (J.stop i H∧Q (.ref D) H)∨(J.go i H∧∀ x H',J.yld i H x H'→g x σ H' fun σ2 H2=>ts σ2 H2 fun b H3=>if b=true then te σ2 H3 fun y H4=>∃ xs,H4 D=some (.lst xs)∧xs.length < sizeLine∧∃ m',m' < m∧W (i+1) m' σ2 (upd H4 D (.lst (xs++[y]))) else ∃ m',m' < m∧W (i+1) m' σ2 H3)
theorem zih {pins:List (Addr×Obj)}{σ:St}{H2:Hp}{s2:Shared}{N:List Str}{own:Nat}{cap:List Nat}{scope:Scope}{cl:List (Str×Addr)}{fp:List Addr}{tg elt iter:Expr}{ifs:List Expr}{pos:Pos}{J:It}{it:Addr}{tn:Nat→Heap→Prop}{g:TG}{ts:TT}{te:TE}{Q:VK}
  {E:Value→Shared→Prop} {RR:Value→Addr→Result→Shared→Prop}
  (hcalm:X.calm=true) (c:zkd X scope N own cap) (hcl:zit scope X.env cl)
  (hg:∀ cl C s₂ H₂ fp,PG (zbM X N scope cl C s₂ H₂ fp) tg g) (hts:∀ cl C s₂ H₂ fp,PTs (zbM X N scope cl C s₂ H₂ fp) ifs ts) (he:∀ cl C s₂ H₂ fp,PE (zbM X N scope cl C s₂ H₂ fp) elt te)
  (I2:Inv X pins σ H2 s2) (T:Turn X.prog X.w X.K tg J fp it tn) (st2:tn 0 s2.heap) (f2:∀ b∈fp,FpOk X pins H2 b)
  (rd:∀ D,H2 D=none→∃ W:Nat→Nat→St→Hp→Prop,(∃ m,W 0 m (zfc own cap σ) (upd H2 D (.lst [])))∧∀ i m σ H,W i m σ H→
   (J.stop i H∧Q (.ref D) H)∨(J.go i H∧∀ x H',J.yld i H x H'→g x σ H' fun σ2 H2=>ts σ2 H2 fun b H3=>if b=true then te σ2 H3 fun y H4=>∃ xs,H4 D=some (.lst xs)∧xs.length < sizeLine∧∃ m',m' < m∧W (i+1) m' σ2 (upd H4 D (.lst (xs++[y]))) else ∃ m',m' < m∧W (i+1) m' σ2 H3))
  (hRR:∀ D C s' H',Inv X pins σ H' s'→(∃ m,s'.heap.Ns C m)→FpOk X pins H' C→Q (.ref D) H'→RR (.ref D) C (.ok .next) s') :
  wpAny (model X.prog X.w) X.A (newList []) (fun acc s₃=>wpAny (model X.prog X.w) X.A (newFunctionEnv scope X.env.globals cl [] X.env.qual none .none (some X.env)) (fun cenv s₄=>
   codeAny (model X.prog X.w) X.A (.compStart (.ListComp elt [⟨tg,iter,ifs,0⟩] scope pos) 0 (.ref it) acc { cenv with scope:=relabel scope X.env }) (RR acc cenv.locals) s₄) E s₃) E s2:=by
 have hcell:∀ y∈scope.names,y.2≠.cell:=fun y hy q=>by
  have:=ya1.mp c.nocell y hy;rw[q]at this;exact absurd this (by decide)
 have hfp:∀ b∈fp,b < s2.heap.objs.size:=fun b hb=>by
  obtain ⟨o,e,_⟩:=T.obj 0 _ st2 b hb;exact yag e
 refine wpAny_newObj_type (wpAny_newFunctionEnv hcell (by intro y hy;simp at hy) (fun h₁ hns₁ hsb₁=>?_) c.kind);dsimp only at hns₁ hsb₁ ⊢;generalize hHH:s2.heap.push { cls:=.type "list",dict:=none,data:=.seq ([]:List Value).toArray }=HH at hns₁ hsb₁ ⊢;have hC:HH.objs.size=s2.heap.objs.size+1:=by rw[← hHH,yb3]
 have hDC:s2.heap.objs.size≠HH.objs.size:=by rw[hC];exact yas (yb4 _)
 have hCle:s2.heap.objs.size≤HH.objs.size:=by rw[hC];exact ybd _
 have old:∀ b o,s2.heap.get? b=some o→h₁.get? b=some o:=fun b o e=>hsb₁.extBut b o (yas (by rw[hC];exact Nat.lt_succ_of_lt (yag e))) (yal _ (hHH ▸ yal _ e));have hnew:h₁.get? s2.heap.objs.size=some { cls:=.type "list",data:=.seq #[] }:=hsb₁.extBut _ _ hDC (yal _ (hHH ▸ yaB _ rfl));have I3:∀ tk,Inv (zbM X N scope cl HH.objs.size s2 H2 fp) pins (zfc own cap σ) (upd H2 s2.heap.objs.size (.lst [])) { s2 with heap:=h₁,toks:=tk }:=fun tk=>
  zok I2 c hcl f2 (yaa _) hCle hDC old hnew ⟨_,hns₁⟩ hfp hcalm
 obtain ⟨W,⟨m0,w0⟩,turn⟩:=rd s2.heap.objs.size (I2.hok.fresh (yaa _));have st3:tn 0 h₁:=T.keep _ _ _ st2 fun b _ o e=>old b o e;have fr3:∀ b∈fp,upd H2 s2.heap.objs.size (.lst []) b=none:=fun b hb=>by rw[zaf (yas (hfp b hb))];exact (f2 b hb).1
 have stat:∀{H':Hp},(∀ b∈fp,H' b=none)→∀ b∈fp,FpOk (zbM X N scope cl HH.objs.size s2 H2 fp) pins H' b:=fun hn b hb=>by
  obtain ⟨_,h2,h3,_,h5,h6⟩:=f2 b hb;refine ⟨hn b hb,yas (yax (hfp b hb) hCle),fun z=>?_,.inl hb,fun x cc e=>h5 x cc (hcl.sub x cc e),h6⟩;rcases yak.mp (I2.stkSub b z) with q | q
  ·exact h2 q
  ·exact h3 q
 have loop:∀ s₃:Shared,s₃={ s2 with heap:=h₁,toks:=s2.toks+([]:List (Str×Value)).length }→
   codeAny (model X.prog X.w) X.A (.compLoop (.ListComp elt [⟨tg,iter,ifs,0⟩] scope pos) 0 (.ref it) (.ref s2.heap.objs.size) (compEnvC scope cl HH.objs.size X.env)) (RR (.ref s2.heap.objs.size) HH.objs.size) s₃:=by
  rintro s₃ rfl;refine zja (fun n s'=>∃ i σ' H',Inv (zbM X N scope cl HH.objs.size s2 H2 fp) pins σ' H' s'∧tn i s'.heap∧(∀ b∈fp,H' b=none)∧W i n σ' H') ?_ m0 ⟨0,_,_,I3 _,st3,fr3,w0⟩;rintro n s3 ⟨i,σ3,H3,J3,t3,fr,w3⟩;rcases turn i n σ3 H3 w3 with ⟨stop,qn⟩ | ⟨go,step⟩
  ·refine thn (T.done (zbM X N scope cl HH.objs.size s2 H2 fp) rfl rfl rfl hcalm i pins s3 σ3 H3 (fun _ _=>False) J3 (stat fr) t3 stop) fun r s4 zq0=>?_;obtain ⟨hr,I4⟩:=zq0;subst hr;obtain ⟨mm,hmm,_⟩:=I4.loc;refine hRR _ _ s4 H3 (I2.call' I4.os I4.base I4.hok I4.bare fun b hb=>?_) ⟨mm,hmm⟩ (I2.fpOk hCle I4.free) qn;obtain ⟨_,h2,_,h4,h5,h6⟩:=f2 b hb;exact ⟨h4,h2,h5,h6⟩
  ·refine thn (T.item (zbM X N scope cl HH.objs.size s2 H2 fp) rfl rfl rfl hcalm i pins s3 σ3 H3 (fun _ _=>False) J3 (stat fr) t3 go) fun r s4 zq0=>?_;obtain ⟨u,hr,h4⟩:=zq0;subst hr;refine thn h4 fun _ s5 zq0=>?_;obtain ⟨x,H5,I5,r5,y5,st5,fr5⟩:=zq0;have I5':=I5.pinned (stat fr5) (T.obj _ _ st5);have back:∀{σ7:St} {H7:Hp} {s7:Shared} {m':Nat},Inv (zbM X N scope cl HH.objs.size s2 H2 fp) (pins++zhX fp s5.heap) σ7 H7 s7→W (i+1) m' σ7 H7→∃ i σ' H',Inv (zbM X N scope cl HH.objs.size s2 H2 fp) pins σ' H' s7∧tn i s7.heap∧(∀ b∈fp,H' b=none)∧W i m' σ' H':=fun {σ7 H7 s7 m'} I7 w7=>by
    refine ⟨i+1,σ7,H7,I7.unpinned,T.keep _ _ _ st5 fun b hb o e=>(I7.pin (b,o) (yaC _ (yaC _ (zdP hb e)))).1,fun b hb=>?_,w7⟩;obtain ⟨o,e,d⟩:=T.obj _ _ st5 b hb;exact (I7.pin (b,o) (yaC _ (yaC _ (zdP hb e)))).2.1
   refine thn (hg cl HH.objs.size s2 H2 fp _ s5 σ3 H5 x u _ I5' r5 (step x H5 y5)) fun _ s6 zq0=>?_;obtain ⟨σ6,H6,I6,q6⟩:=zq0;refine thn (hts cl HH.objs.size s2 H2 fp _ s6 σ6 H6 _ I6 q6) fun b s7 zq0=>?_;obtain ⟨H7,I7,q7⟩:=zq0;cases b with
   | false=>
    rw[if_neg yay]at q7 ⊢;obtain ⟨m',hm,w7⟩:=q7;exact ⟨m',hm,back I7 w7⟩
   | true=>
    rw[if_pos rfl]at q7 ⊢;refine thn (he cl HH.objs.size s2 H2 fp _ s7 σ6 H7 _ I7 q7) fun v s8 zq0=>?_;obtain ⟨y,H8,I8,r8,q8⟩:=zq0;obtain ⟨xs,hx,hz,m',hm,w8⟩:=q8;refine thn (zbo (X:=zbM X N scope cl HH.objs.size s2 H2 fp) _ s8 σ6 H8 (.ref s2.heap.objs.size) [y] (.ref s2.heap.objs.size) [v] (fun _ H9=>H9=upd H8 s2.heap.objs.size (.lst (xs++[y]))) I8 rfl (.cons r8 .nil) ⟨_,xs,y,rfl,rfl,hx,hz,rfl⟩) fun _ s9 zq0=>?_;obtain ⟨_,H9,I9,_,e9⟩:=zq0;subst e9;exact ⟨m',hm,back I9 w8⟩
 refine codeAny_compStart_list (loop _ rfl) ?_;exact T.self _ 0 _ _ _ st3 (loop _ rfl)
theorem zcm {N:List Str}{own:Nat}{cap:List Nat}{scope:Scope}{tg elt iter:Expr}{ifs:List Expr}{pos:Pos}{wi:TI}{g:TG}{ts:TT}{te:TE}(hcalm:X.calm=true)(hi:PI X tg iter wi)(c:zkd X scope N own cap)
  (hg:∀ cl C s₂ H₂ fp,PG (zbM X N scope cl C s₂ H₂ fp) tg g) (hts:∀ cl C s₂ H₂ fp,PTs (zbM X N scope cl C s₂ H₂ fp) ifs ts) (he:∀ cl C s₂ H₂ fp,PE (zbM X N scope cl C s₂ H₂ fp) elt te)
  (hs:∀ x,foldedSetIterable iter X.env x=pure x:=by intro _;rfl):PE X (.ListComp elt [⟨tg,iter,ifs,0⟩] scope pos) (zqG own cap wi g ts te):=by
 intro pins s σ H Q I h;obtain ⟨cl,hcl⟩:=zgf (scope:=scope) (env:=X.env) fun x hx=>I.ok.has x (by
  have:=ya1.mp c.frees _ hx;simpa using this)
 rw[eval_ListComp];refine wpAny_comprehension_free (use:=none) rfl hs hcl.eq c.kind (fun x hx hl=>by
  have:=ya1.mp c.locs x hx;rw[hl]at this;simpa using this) (thn (hi pins s σ H _ I h) fun v s1 h1=>thn h1 fun itv s2 h2=>?_)
 obtain ⟨it,fp,tn,J,H2,e,I2,T,st2,f2,rd⟩:=h2;subst e;refine zih (RR:=fun acc C=>compPost (model X.prog X.w) X.A X.xe none (EP X pins σ Q) acc C) hcalm c hcl hg hts he I2 T st2 f2 rd ?_;intro D C s' H' I' hm fC q;obtain ⟨m,hm⟩:=hm;obtain ⟨f0,f1,f2,f3,f4,f5⟩:=fC;exact ⟨m,hm,fun h' hsb=>⟨.ref D,H',I'.turned (t':=s'.toks) (fun b o hb e=>(hsb.2 b hb).trans e) f0 f1 f3 f4 f5,rfl,q⟩⟩
theorem ziJ {i:Nat}{x:Str}{N:List Str}{own:Nat}{cap:List Nat}{scope:Scope}{tg elt iter:Expr}{ifs:List Expr}{pos pos' spos:Pos}{wi:TI}{g:TG}{ts:TT}{te:TE}(hN:X.N.Nodup)(hxi:X.N[i]?=some x)(hx:X.env.scope.names.lookup x=some .local)(hcalm:X.calm=true)(hi:PI X tg iter wi)(c:zkd X scope N own cap)
  (hg:∀ cl C s₂ H₂ fp,PG (zbM X N scope cl C s₂ H₂ fp) tg g) (hts:∀ cl C s₂ H₂ fp,PTs (zbM X N scope cl C s₂ H₂ fp) ifs ts) (he:∀ cl C s₂ H₂ fp,PE (zbM X N scope cl C s₂ H₂ fp) elt te)
  (hsw:swapsWith (.ListComp elt [⟨tg,iter,ifs,0⟩] scope pos) (some (.Name x pos')) spos.line X.env=pure true:=by rfl)
  (hs:∀ x,foldedSetIterable iter X.env x=pure x:=by intro _;rfl):PS X (.Assign [.Name x pos'] (.ListComp elt [⟨tg,iter,ifs,0⟩] scope pos) spos) (tAsg (zqG own cap wi g ts te) (zkJ i)):=by
 intro pins s σ H D I h;obtain ⟨cl,hcl⟩:=zgf (scope:=scope) (env:=X.env) fun x hx=>I.ok.has x (by
  have:=ya1.mp c.frees _ hx;simpa using this)
 rw[exec_Assign_Name_used _ _ _ _ hsw];refine wpAny_bind (wpAny_standAt (wpAny_bind ?_));show wpAny _ X.A (do let _ ← comprehension (.ListComp elt [⟨tg,iter,ifs,0⟩] scope pos) scope X.env _ (newList []) false (eval iter X.env) (some (assign (.Name x pos') X.env))) _ _ s
 refine wpAny_bind (wpAny_mono (wpAny_comprehension_free (use:=some (assign (.Name x pos') X.env)) (Q:=fun _ s'=>SP X pins D .next s') rfl hs hcl.eq c.kind (fun x hx hl=>by
  have:=ya1.mp c.locs x hx;rw[hl]at this;simpa using this) (thn (hi pins s σ H _ I h) fun v s1 h1=>thn h1 fun itv s2 h2=>?_)) (fun _ s' hq=>wpAny_pure (wpAny_pure hq)) fun _ _ e=>e)
 obtain ⟨it,fp,tn,J,H2,e,I2,T,st2,f2,rd⟩:=h2;subst e;refine zih (RR:=fun acc C=>compPost (model X.prog X.w) X.A X.xe (some (assign (.Name x pos') X.env)) (fun _ s'=>SP X pins D .next s') acc C) (Q:=fun x H1=>zkJ i x σ H1 D.nx) hcalm c hcl hg hts he I2 T st2 f2 rd ?_;intro Dd C s' H' I' hm fC q;obtain ⟨m,hm⟩:=hm;have hne:∀ a,(a=X.env.locals∨X.env.cells.lookup x=some a)→a≠C:=fun a z=>by
  obtain ⟨f0,f1,f2,f3,f4,f5⟩:=fC;rcases z with z | z
  ·rw[z];exact Ne.symm f1
  ·exact f4 x a z
 show wpAny _ X.A (assign (.Name x pos') X.env (.ref Dd)) _ _ _;refine wpAny_assign_Name (zhO I' hN hxi (.inl hx) (v:=.ref Dd) rfl (fun s'' I'' hch=>?_) (.inr hx));obtain ⟨a,hsb,ha⟩:=hch;refine ⟨m,hm.sameBut hsb (Ne.symm (hne a ha)),fun h' hs'=>?_⟩;obtain ⟨f0,f1,f2,f3,f4,f5⟩:=fC;exact ⟨_,H',I''.turned (t':=s''.toks) (fun b o hb e=>(hs'.2 b hb).trans e) f0 f1 f3 f4 f5,q⟩
end
end L2
namespace L2
open PySem PySem.Spec PyProof.Rows PySem.SeqAt
class Srt (α:Type)[Rep α] where
 blt:α→α→Bool
 irrefl:∀ a,blt a a=false
 trans:∀ a b c,blt a b=true→blt b c=true→blt a c=true
 negTrans:∀ a b c,blt a c=true→blt a b=true∨blt b c=true
 total:∀ a b,blt a b=false→blt b a=false→a=b
 kd:SortKind
 one:α
 lt:∀{X:Cx} {pins:List (Addr×Obj)} {σ:St} {H:Hp} {s:Shared} {A:Around} {a b:α} {x y:V} {u v:Value} {Q:Bool→Shared→Prop} {E:Value→Shared→Prop},Inv X pins σ H s→Rep.has X.K H a x→Rep.has X.K H b y→RelV x u→RelV y v→Q (blt a b) s→wpAny (model X.prog X.w) A (keyLt' kd u v) Q E s
 kind:∀{X:Cx} {pins:List (Addr×Obj)} {σ:St} {H:Hp} {s:Shared} {A:Around} {as:List α} {xs:List V} {us:List Value} {Q:SortKind→Shared→Prop} {E:Value→Shared→Prop},Inv X pins σ H s→zak X.K H as xs→Vals xs us→2≤us.length→Q kd s→wpAny (model X.prog X.w) A (keyKind' us.toArray) Q E s
section
variable {α:Type}[Rep α][Srt α]
noncomputable def srtKind (α:Type)[Rep α][Srt α](K:Frag)(H:Hp):PyProof.Rows.KeyKind where
 α:=α
 blt:=Srt.blt
 irrefl:=Srt.irrefl
 trans:=Srt.trans
 negTrans:=Srt.negTrans
 total:=Srt.total
 keyOf:=fun u=>open Classical in if h:∃ a:α,∃ x,RelV x u∧Rep.has K H a x then some (Classical.choose h) else none
 dflt:=Srt.one
theorem zoi {X:Cx}{pins:List (Addr×Obj)}{σ:St}{H:Hp}{s:Shared}{a:α}{x:V}{u:Value}(I:Inv X pins σ H s)(r:RelV x u)(h:Rep.has X.K H a x):(srtKind α X.K H).keyOf u=some a:=by
 have e:∃ a:α,∃ x,RelV x u∧Rep.has X.K H a x:=⟨a,x,r,h⟩;unfold srtKind;dsimp only;rw[dif_pos e];obtain ⟨y,ry,hy⟩:=Classical.choose_spec e;have z:=ry.inj r;subst z;exact congrArg some (Rep.inj I hy h)
theorem zdQ {K:Frag}{H:Hp}{a:α}{u:Value}(h:(srtKind α K H).keyOf u=some a):∃ x,RelV x u∧Rep.has K H a x:=by
 unfold srtKind at h;dsimp only at h;split at h
 ·rename_i e;cases h
  exact Classical.choose_spec e
 ·cases h
def zcG (as:List α):List α:=as.mergeSort fun a b=>!Srt.blt b a
theorem zce (as:List α):(zcG as).Perm as:=List.mergeSort_perm _ _
theorem zeg {as:List α}{a:α}:a∈zcG as↔a∈as:=(zce as).mem_iff
theorem zdh (as:List α):(zcG as).length=as.length:=(zce as).length_eq
theorem zil {a b:α}(h:Srt.blt a b=true):Srt.blt b a=false:=by
 cases e:Srt.blt b a with
 | false=>rfl
 | true=>
  have:=Srt.trans _ _ _ h e;rw[Srt.irrefl]at this;cases this
theorem zjA (as:List α):(zcG as).Pairwise fun a b=>Srt.blt b a=false:=by
 have h:=List.pairwise_mergeSort (le:=fun a b:α=>!Srt.blt b a) (fun a b c h1 h2=>by
  simp only[ybY]at h1 h2 ⊢;cases e:Srt.blt c a with
  | false=>rfl
  | true=>
   rcases Srt.negTrans c b a e with z | z
   ·rw[h2]at z;cases z
   ·rw[h1]at z;cases z) (fun a b=>by
  cases e:Srt.blt b a with
  | false=>rfl
  | true=>rw[zil e];rfl) as
 exact h.imp fun {a b} z=>by simpa using z
theorem zdy {as bs:List α}(hp:bs.Perm as)(hs:bs.Pairwise fun a b=>Srt.blt b a=false):bs=zcG as:=
 List.Perm.eq_of_pairwise (fun a b _ _ h1 h2=>Srt.total a b h2 h1) hs (zjA as) (hp.trans (zce as).symm)
theorem zlC {as:List α}(hs:as.Pairwise fun a b=>Srt.blt b a=false):zcG as=as:=(zdy (List.Perm.refl _) hs).symm
theorem zeN {as:List α}(hn:as.Nodup):(zcG as).Pairwise fun a b=>Srt.blt a b=true:=by
 have h1:=zjA as;have h2:(zcG as).Nodup:=(zce as).nodup_iff.mpr hn;refine (h1.and h2).imp fun {a b} z=>?_;cases e:Srt.blt a b with
 | true=>rfl
 | false=>exact absurd (Srt.total a b e z.1) z.2
theorem zf2 {K:Frag}{H:Hp}:∀{out:List Value},(∀ v∈out,∃ a:α,∃ x,RelV x v∧Rep.has K H a x∧(srtKind α K H).keyOf v=some a)→
  ∃(ws:List V) (bs:List α),Vals ws out∧zak K H bs ws∧bs=out.map (Tim.keyV (srtKind α K H))
 | [],_=>⟨[],[],.nil,.nil,rfl⟩
 | v::out,h=>by
  obtain ⟨ws,bs,h1,h2,h3⟩:=zf2 (out:=out) fun u hu=>h u (yaA _ hu);obtain ⟨a,x,r,e,k⟩:=h v yaL;refine ⟨x::ws,a::bs,.cons r h1,.cons e h2,?_⟩;rw[yar,← h3];have z:Tim.keyV (srtKind α K H) v=a:=by
   unfold Tim.keyV;rw[k];rfl
  rw[z];rfl
theorem ziZ {X:Cx}{pins:List (Addr×Obj)}{σ:St}{H:Hp}{s:Shared}(I:Inv X pins σ H s):∀{as:List α} {xs:List V} {us:List Value},zak X.K H as xs→Vals xs us→us.map (Tim.keyV (srtKind α X.K H))=as∧∀ v∈us,∃ a:α,∃ x,RelV x v∧Rep.has X.K H a x∧(srtKind α X.K H).keyOf v=some a
 | _,_,_,.nil,.nil=>⟨rfl,fun _ z=>nomatch z⟩
 | _,_,_,.cons e t,.cons r q=>by
  obtain ⟨h1,h2⟩:=ziZ I t q;have k:=zoi I r e;refine ⟨?_,fun v hv=>?_⟩
  ·rw[yar,h1];unfold Tim.keyV;rw[k];rfl
  ·rcases yak.mp hv with z | z
   ·subst z;exact ⟨_,_,r,e,k⟩
   ·exact h2 v z
end
def zo6 (α:Type)[Rep α][Srt α](K:Frag):List V→Hp→VK→Prop:=fun xs H Q=>∃(p:Addr) (vs:List V) (as:List α),xs=[.ref p]∧SqL K H p vs∧zak K H as vs∧
 ∀ l ws,H l=none→zak K H (zcG as) ws→Q (.ref l) (upd H l (.lst ws))
section
variable {X:Cx}
theorem zdS (α:Type)[Rep α][Srt α]:zb1 X (.builtin "sorted") (zo6 α X.K):=by
 intro pins s σ H xs us Q I r h;obtain ⟨p,vs,as,rfl,hq,ha,q⟩:=h;obtain ⟨u,rfl,rx⟩:=zfm r;cases rx
 obtain ⟨its,rv,pl,hz⟩:=I.list hq;have hlen:=rv.length;obtain ⟨km,kk⟩:=ziZ I ha rv;refine Tim.znB (κ:=srtKind α X.K H) (kd:=Srt.kd α) pl.isList (by omega) (fun v hv=>?_) (fun h' k E x y a b Q hx hy q=>?_) (fun h' E Q k h2 q=>Srt.kind (Inv.kept (t':=s.toks) I k) ha rv h2 q) fun out h' c p1 p2 k hc=>?_
 ·obtain ⟨a,_,_,_,e⟩:=kk v hv;exact ⟨a,e⟩
 ·obtain ⟨x1,r1,e1⟩:=zdQ hx;obtain ⟨y1,r2,e2⟩:=zdQ hy;exact Srt.lt (Inv.kept (t':=s.toks) I k) e1 e2 r1 r2 q
 ·obtain ⟨ws,bs,w1,w2,w3⟩:=zf2 (α:=α) (K:=X.K) (H:=H) (out:=out) fun v hv=>kk v (p1.mem_iff.mp hv);have eb:bs=zcG as:=by
   refine zdy ?_ ?_
   ·rw[w3,← km];exact p1.map _
   ·rw[w3];exact ybJ.mpr p2
  rw[eb]at w2;have hw:ws.length≤sizeLine:=by
   have:=w1.length;have:=p1.length_eq;omega
  exact ⟨.ref (s.heap.objs.size+1),_,I.laid (a:=s.heap.objs.size+1) (o:=.lst ws) (t':=s.toks) k (ybd _) ⟨hw,out,c,w1,hc⟩,rfl,q _ ws (I.hok.fresh (ybd _)) w2⟩
end
instance:Srt Int where
 blt:=fun a b=>decide (a < b)
 irrefl:=fun a=>by simp
 trans:=fun a b c h1 h2=>by
  simp only[decide_eq_true_eq]at *;omega
 negTrans:=fun a b c h=>by
  simp only[decide_eq_true_eq]at *;omega
 total:=fun a b h1 h2=>by
  simp only[decide_eq_false_iff_not]at *;omega
 kd:=oneType'
 one:=0
 lt:=fun {X pins σ H s A a b x y u v Q E} _ h1 h2 r1 r2 q=>by
  have h1:x=.int a:=h1;have h2:y=.int b:=h2;subst h1 h2;obtain ⟨t,rfl⟩:=r1;obtain ⟨t',rfl⟩:=r2;exact PySem.W.kat_lt_int q
 kind:=fun {X pins σ H s A as xs us Q E} _ h r hl q=>by
  have e:=zak.toInts h;subst e;have hi:IntsAre us as:=by
   clear q hl
   induction as generalizing us with
   | nil=>cases r;exact .nil
   | cons a as ih=>
    cases r with
    | cons r1 r2=>
     obtain ⟨t,rfl⟩:=r1;exact .cons a t (ih (by first | exact zak.ints | assumption) r2)
  match us,hl,hi with
  | v₁::v₂::rest,_,hi=>
   rw[keyKind_ints hi];exact wpAny_pure q
def pLt (a b:Int×Int):Bool:=decide (a.1 < b.1) || (decide (a.1=b.1) && decide (a.2 < b.2))
theorem zcI {a b:Int×Int}:pLt a b=true↔a.1 < b.1∨(a.1=b.1∧a.2 < b.2):=by
 unfold pLt;simp
theorem ziM {a b:Int×Int}:pLt a b=false↔¬ (a.1 < b.1∨(a.1=b.1∧a.2 < b.2)):=by
 rw[← zcI];simp
theorem zhe {X:Cx}{pins:List (Addr×Obj)}{σ:St}{H:Hp}{s:Shared}{a:Int×Int}{x:V}{u:Value}(I:Inv X pins σ H s)(h:Rep.has X.K H a x)(r:RelV x u) :
  ∃(p:Addr) (o:Obj) (n:Nat) (t t':Tok),u=.ref p∧s.heap.get? p=some o∧o.cls=.type "tuple"∧o.data=.seq #[.int a.1 t,.int a.2 t'] n:=by
 obtain ⟨p,x1,x2,rfl,q,e1,e2⟩:=(show hasP X.K H a x from h);have e1:x1=.int a.1:=e1;have e2:x2=.int a.2:=e2;subst e1 e2;cases r
 obtain ⟨us,ru,pu,_⟩:=I.tuple (SqT.of q);obtain ⟨u1,u2,rfl,⟨t,rfl⟩,⟨t',rfl⟩⟩:=zgo ru;obtain ⟨o,ho,hc,n,hd⟩:=pu;exact ⟨p,o,n,t,t',rfl,ho,hc,hd⟩
theorem zpb {prog:Program}{w:World}{A:Around}{E:Value→Shared→Prop}{s:Shared}{x y:Int}{t u:Tok}{Q:Bool→Shared→Prop}(b:Bool)(h:Q (decide (x < y)) s):wpAny (model prog w) A (oneLt' b (.int x t) (.int y u)) Q E s:=by
 cases b with
 | true=>
  rw[← keyLt'_oneType];exact PySem.W.kat_lt_int h
 | false=>exact PySem.W.kat_one _ _ (lt_int h)
instance:Srt (Int×Int) where
 blt:=pLt
 irrefl:=fun a=>by rw[ziM];omega
 trans:=fun a b c h1 h2=>by
  rw[zcI]at *;omega
 negTrans:=fun a b c h=>by
  rw[zcI]at *;rw[zcI];omega
 total:=fun a b h1 h2=>by
  rw[ziM]at *;obtain ⟨a1,a2⟩:=a;obtain ⟨b1,b2⟩:=b;have:a1=b1∧a2=b2:=by dsimp only at *;omega
  rw[this.1,this.2]
 kd:=tuples' true
 one:=(0,0)
 lt:=fun {X pins σ H s A a b x y u v Q E} I h1 h2 r1 r2 q=>by
  obtain ⟨p,o,n,t1,t2,rfl,ho,hc,hd⟩:=zhe I h1 r1;obtain ⟨p',o',n',t3,t4,rfl,ho',hc',hd'⟩:=zhe I h2 r2;refine PySem.W.kat_lt ho hd ho' hd' ?_;show PySem.W.KatLex X.prog X.w A true _ Q [(.int a.1 t1,.int b.1 t3),(.int a.2 t2,.int b.2 t4)] 0 s;refine PySem.W.kat_cons (EqAt.int_int a.1 t1 b.1 t3 _ _ _ _ (PySem.W.kat_go (fun e=>PySem.W.kat_yes ?_) (fun e=>PySem.W.kat_no ?_)))
  ·have e1:a.1=b.1:=eq_of_beq e;refine PySem.W.kat_cons (EqAt.int_int a.2 t2 b.2 t4 _ _ _ _ (PySem.W.kat_go (fun e=>PySem.W.kat_yes (PySem.W.kat_nil ?_)) (fun e=>PySem.W.kat_no (zpb _ ?_))))
   ·have e2:a.2=b.2:=eq_of_beq e;have z:pLt a b=false:=by rw[ziM];omega
    rw[z]at q;exact q
   ·have z:pLt a b=decide (a.2 < b.2):=by
     unfold pLt;rw[yah (by omega:¬ a.1 < b.1),yae e1];rfl
    rw[z]at q;exact q
  ·have e1:¬ a.1=b.1:=fun z=>by rw[z]at e;simp at e
   refine zpb _ ?_;have z:pLt a b=decide (a.1 < b.1):=by
    unfold pLt;rw[yah e1];simp
   rw[z]at q;exact q
 kind:=fun {X pins σ H s A as xs us Q E} I h r hl q=>by
  have go:∀{as:List (Int×Int)} {xs:List V} {us:List Value},zak X.K H as xs→Vals xs us→∃ fs,PySem.W.KatTups s.heap us fs∧fs.length=us.length∧∀ v∈fs,∃ i t,v=Value.int i t:=by
   intro as
   induction as with
   | nil=>
    intro xs us h r;cases h
    cases r
    exact ⟨[],.nil,rfl,fun _ z=>nomatch z⟩
   | cons a as ih=>
    intro xs us h r;cases h with
    | cons h1 h2=>
     cases r with
     | cons r1 r2=>
      obtain ⟨fs,f1,f2,f3⟩:=ih h2 r2;obtain ⟨p,o,n,t,t',rfl,ho,hc,hd⟩:=zhe I h1 r1;refine ⟨.int a.1 t::fs,PySem.W.KatTups.cons ho hc hd rfl f1,by rw[yaI,yaI,f2],fun v hv=>?_⟩;rcases yak.mp hv with z | z
      ·exact ⟨_,_,z⟩
      ·exact f3 v z
  obtain ⟨fs,f1,f2,f3⟩:=go h r;refine PySem.W.kat_kind (T:=.type "int") f1 (by omega) (fun v hv=>?_) (by decide) ?_
  ·obtain ⟨i,t,rfl⟩:=f3 v hv;exact PySem.W.Looks.of_pure rfl
  ·exact q
end L2
namespace L2
open PySem PySem.Spec PyProof.Rows
section
variable {X:Cx}
theorem zew {x:Str}{i:Int}{pos:Pos}(hg:Gl X x)(hm:∃ t,X.mg x=some (.int i t))(hd:(x == ("__debug__" : Str))=false:=by decide):PE X (.Name x pos) (tC (.int i)):=by
 obtain ⟨t,e⟩:=hm;exact zpG hg e ⟨t,rfl⟩ hd
end
theorem zcs {K:Frag}{a D:Addr}{xs:List V}{g:TG}{ts:TT}{te:TE}{σ:St}{H:Hp}{Q:Hp→Prop}(Pv:Nat→St→Hp→Prop)(h0:Pv 0 σ H)(hl:∀ i σ H,i≤xs.length→Pv i σ H→SqL K H a xs)
  (hs:∀ i m x σ H,xs[i]?=some x→i+m=xs.length→Pv i σ H→g x σ H fun σ2 H2=>ts σ2 H2 fun b H3=>if b=true then te σ2 H3 fun y H4=>∃ zs,H4 D=some (.lst zs)∧zs.length < sizeLine∧∃ m',m' < m∧(i+1+m'=xs.length∧Pv (i+1) σ2 (upd H4 D (.lst (zs++[y])))) else ∃ m',m' < m∧(i+1+m'=xs.length∧Pv (i+1) σ2 H3))
  (hd:∀ σ H,Pv xs.length σ H→Q H) :
  ∃ W:Nat→Nat→St→Hp→Prop,(∃ m,W 0 m σ H)∧∀ i m σ H,W i m σ H→((Itl K a).stop i H∧Q H)∨((Itl K a).go i H∧∀ x H',(Itl K a).yld i H x H'→g x σ H' fun σ2 H2=>ts σ2 H2 fun b H3=>if b=true then te σ2 H3 fun y H4=>∃ xs,H4 D=some (.lst xs)∧xs.length < sizeLine∧∃ m',m' < m∧W (i+1) m' σ2 (upd H4 D (.lst (xs++[y]))) else ∃ m',m' < m∧W (i+1) m' σ2 H3):=by
 refine ⟨fun i m σ H=>i+m=xs.length∧Pv i σ H,⟨xs.length,by omega,h0⟩,fun i m σ H zq0=>?_⟩;obtain ⟨e,pv⟩:=zq0;have hS:=hl i σ H (by omega) pv;by_cases hi:i < xs.length
 ·refine .inr ⟨⟨xs,xs[i],hS,yac hi⟩,fun x H' y=>?_⟩;obtain ⟨e1,y⟩:=y;subst e1;exact hs i m x σ _ (y xs hS) e pv
 ·have:i=xs.length:=by omega
  subst this;exact .inl ⟨⟨xs,hS,yaa _⟩,hd σ H pv⟩
theorem ze2 {lo:Int}{n:Nat}{D:Addr}{g:TG}{ts:TT}{te:TE}{σ:St}{H:Hp}{Q:Hp→Prop}(Pv:Nat→St→Hp→Prop)(h0:Pv 0 σ H)
  (hs:∀ i m σ H,i+m=n→i < n→Pv i σ H→g (.int (lo+i)) σ H fun σ2 H2=>ts σ2 H2 fun b H3=>if b=true then te σ2 H3 fun y H4=>∃ zs,H4 D=some (.lst zs)∧zs.length < sizeLine∧∃ m',m' < m∧(i+1+m'=n∧Pv (i+1) σ2 (upd H4 D (.lst (zs++[y])))) else ∃ m',m' < m∧(i+1+m'=n∧Pv (i+1) σ2 H3))
  (hd:∀ σ H,Pv n σ H→Q H) :
  ∃ W:Nat→Nat→St→Hp→Prop,(∃ m,W 0 m σ H)∧∀ i m σ H,W i m σ H→((Itr lo n).stop i H∧Q H)∨((Itr lo n).go i H∧∀ x H',(Itr lo n).yld i H x H'→g x σ H' fun σ2 H2=>ts σ2 H2 fun b H3=>if b=true then te σ2 H3 fun y H4=>∃ xs,H4 D=some (.lst xs)∧xs.length < sizeLine∧∃ m',m' < m∧W (i+1) m' σ2 (upd H4 D (.lst (xs++[y]))) else ∃ m',m' < m∧W (i+1) m' σ2 H3):=by
 refine ⟨fun i m σ H=>i+m=n∧Pv i σ H,⟨n,by omega,h0⟩,fun i m σ H zq0=>?_⟩;obtain ⟨e,pv⟩:=zq0;by_cases hi:i < n
 ·refine .inr ⟨hi,fun x H' y=>?_⟩;obtain ⟨e1,y⟩:=y;subst e1 y;exact hs i m σ _ e hi pv
 ·have:i=n:=by omega
  subst this;exact .inl ⟨yaa _,hd σ H pv⟩
end L2
namespace L2
open PySem PySem.Spec PyProof.Rows
def metI (ns:List Int):List Int:=firstMet (fun i=>ns.getD i 0) ns.length
theorem zko:∀ ns:List Int,(List.range ns.length).map (fun i=>ns.getD i 0)=ns:=fun ns=>by
 apply ybb;intro i;rw[yat];by_cases h:i < ns.length
 ·rw[ycj h,Option.map_some,yaf,yac h];rfl
 ·rw[yaY (by rw[ybi];omega),yaY (by omega)];rfl
theorem zga:∀(ns σ:List Int),(σ++ns).Nodup→ns.foldl step_dedup σ=σ++ns
 | [],σ,_=>by simp
 | n::ns,σ,h=>by
  have hn:¬ (σ.any (· == n))=true:=fun z=>by
   obtain ⟨x,hx,e⟩:=List.any_eq_true.mp z;have e:=eq_of_beq e;subst e;rw[ya7]at h;exact h.2.2 x hx x yaL rfl
  rw[List.foldl_cons];have e:step_dedup σ n=σ++[n]:=by
   unfold step_dedup;rw[if_neg hn]
  rw[e,zga ns (σ++[n]) (by rw[yaQ];exact h),yaQ];rfl
theorem zdO {ns:List Int}(h:ns.Nodup):metI ns=ns:=by
 unfold metI firstMet;rw[zko];exact zga ns [] h
theorem zbU:∀{ns:List Int} {us:List Value},Vals (ns.map V.int) us→IntsAre us ns
 | [],_,.nil=>.nil
 | n::_,_,.cons ⟨t,e⟩ q=>by
  subst e;exact .cons n t (zbU q)
def zqU (K:Frag):List V→Hp→VK→Prop:=fun xs H Q=>∃(p:Addr) (ns:List Int),xs=[.ref p]∧SqL K H p (ns.map V.int)∧ns.length≤1000∧
 ∀ l,H l=none→Q (.ref l) (upd H l (.set (fun k=>(metI ns).any (· == k)) (metI ns).length))
section
variable {X:Cx}
theorem zm7 (hc:X.calm=true):zb1 X (.type "set") (zqU X.K):=by
 intro pins s σ H xs us Q I r h;obtain ⟨p,ns,rfl,hq,hz,q⟩:=h;obtain ⟨u,rfl,rx⟩:=zfm r;cases rx
 obtain ⟨its,rv,pl,_⟩:=I.list hq;have hl:=rv.length;rw[yab]at hl;refine call_set_list (ns:=ns) (I.ok.hd hc) pl.isList (by simpa using zbU rv) (by unfold scanBound;simp only[yaq];omega) fun h' tk hS hk=>?_;have e:its.toArray.size=ns.length:=by simp only[yaq];omega
 rw[e]at hS;exact ⟨.ref s.heap.objs.size,_,I.laid (a:=s.heap.objs.size) (o:=.set _ _) (t':=tk) (fun b o eb=>hk b o (yag eb) eb) (yaa _) hS,rfl,q _ (I.hok.fresh (yaa _))⟩
theorem zkV:zb1 X (.builtin "len") (fun xs H Q=>∃ p S n,xs=[.ref p]∧H p=some (.set S n)∧n≤1000∧Q (.int (n:Nat)) H):=by
 intro pins s σ H xs us Q I r h;obtain ⟨p,S,n,rfl,hp,hn,q⟩:=h;obtain ⟨u,rfl,rx⟩:=zfm r;cases rx
 have ok:s.heap.SetOf (intKind X.prog X.w) p S n:=I.hok p _ hp;obtain ⟨o,ho,hex,es,ep,t,hd,_,_,hm,hf⟩:=ok.objOf;subst hm;exact call_len_set ho hex hd hf (by omega) ⟨.int _,H,I.tok _,⟨_,rfl⟩,q⟩
end
end L2
namespace L2
theorem zdr {i:Nat}{x:V}{σ:St}{H:Hp}{A B:St→Hp→Prop}(h:A (σ.set i (some x)) H):zkJ i x σ H fun σ2 H2=>tYes σ2 H2 fun b H3=>if b=true then A σ2 H3 else B σ2 H3:=by
 show (if true=true then A (σ.set i (some x)) H else B (σ.set i (some x)) H)
 rw[if_pos rfl];exact h
end L2
namespace L2
open PySem PySem.Spec PyProof.Rows
section
variable {X:Cx}
theorem zm4 (hc:X.calm=true):zb1 X (.builtin "sum") (fun xs H Q=>∃(p:Addr) (ns:List Int),xs=[.ref p]∧SqL X.K H p (ns.map V.int)∧Q (.int ns.sum) H):=by
 intro pins s σ H xs us Q I r h;obtain ⟨p,ns,rfl,hq,q⟩:=h;obtain ⟨u,rfl,rx⟩:=zfm r;cases rx
 obtain ⟨its,rv,pl,_⟩:=I.list hq;have hi:=zbU rv;obtain ⟨xs,hx⟩:=hi.allInts.items;have hl':s.heap.IsList p (intItems xs):=hx ▸ pl.isList;refine sum_intListG (I.ok.hd hc) hl' fun h' tk t' hk=>?_;have e1:ns=xs.toList.map (·.1):=by
  rw[← nums_intItems,← hx];exact (show numsOf its.toArray.toList=ns from hi.numsOf).symm
 have e2:preSum (numAt xs) xs.size=ns.sum:=by
  rw[preSum_eq,yao (by simp),e1]
 rw[e2];exact ⟨.int _,H,Inv.kept (t':=tk) I hk,⟨t',rfl⟩,q⟩
end
end L2
namespace L2
open PySem PySem.Spec PyProof.Rows
section
variable {X:Cx}{K:Frag}
theorem zhA (h:X.K=K:=by rfl):zb1 X (.builtin "len") (fun xs H Q=>∃ p ys,xs=[.ref p]∧(SqL K H p ys∨SqT K H p ys)∧Q (.int ys.length) H):=by
 subst h;exact zan
theorem zmx (h:X.K=K:=by rfl):IxR X (rIxT K):=by
 subst h;exact za0
end
end L2
namespace L2
open PySem PySem.Spec PyProof.Rows
section
variable {X:Cx}
def zpv:V→List V→Hp→VK→Prop:=fun x vs H Q=>∃ l xs i y,x=.ref l∧vs=[.int i,y]∧H l=some (.lst xs)∧0≤i∧i < 2 ^ 63∧xs.length < sizeLine∧Q .non (upd H l (.lst (xs.take i.toNat++y::xs.drop i.toNat)))
theorem znt {α:Type}(l:List α)(k:Nat):l.take (min k l.length)=l.take k:=by
 by_cases h:k≤l.length
 ·rw[ybh h]
 ·rw[ybK (by omega),yao (yaa _),yao (by omega)]
theorem zow {α:Type}(l:List α)(k:Nat):l.drop (min k l.length)=l.drop k:=by
 by_cases h:k≤l.length
 ·rw[ybh h]
 ·rw[ybK (by omega),yaX (yaa _),yaX (by omega)]
theorem zma:MtM X "list.insert" zpv:=by
 intro pins s σ H x vs v us Q I rx rv h;obtain ⟨l,xs,i,y,rfl,rfl,hH,h0,h1,hz,q⟩:=h;cases rx
 obtain ⟨u,u2,rfl,ru,ru2⟩:=zgo rv;obtain ⟨t,rfl⟩:=ru;obtain ⟨z,its,n,r,hl,e⟩:=I.lstM hH;refine call_meets F.slot_list_insert ⟨_,e,rfl⟩ F.entry_list_insert (F.args_list_insert_3 _ _ _)
  (AutoSeq1.list_insert_list_int_val_1 l its.toArray n i t u2 (by rw[fitsIndex_both (by omega) h1];decide) (by rw[yaq];omega)) ⟨e,?_⟩
 refine ⟨.non,_,I.lset (its':=its.take i.toNat++u2::its.drop i.toNat) hH e ?_ ((r.take i.toNat).append (.cons ru2 (r.drop i.toNat))) ?_,rfl,q⟩
 ·show (its.toArray.extract 0 (if i < 0 then (i+(its.toArray.size:Int)).toNat else min i.toNat its.toArray.size)).push u2++its.toArray.extract (if i < 0 then (i+(its.toArray.size:Int)).toNat else min i.toNat its.toArray.size)=_
  rw[if_neg (by omega),yaq];apply Array.ext';simp[znt,zow];exact yao (by rw[yaM];omega)
 ·rw[yap,yaI,yan,yaM];omega
end
theorem zhF {c:TT}{tb:TS}{D:Ends}{σ:St}{H:Hp}(Pv Pe:St→Hp→Prop)(μ:St→Hp→Nat)(h0:Pv σ H)
  (hs:∀ σ H,Pv σ H→c σ H fun b H1=>if b=true then tb { D with nx:=fun σ' H'=>Pv σ' H'∧μ σ' H' < μ σ H,ct:=fun σ' H'=>Pv σ' H'∧μ σ' H' < μ σ H,bk:=D.nx } σ H1 else Pe σ H1)
  (mono:∀ σ H Q Q',(∀ b H1,Q b H1→Q' b H1)→c σ H Q→c σ H Q') (he:∀ σ H,Pe σ H→D.nx σ H):zlj c tb D σ H:=by
 refine znj Pv μ h0 (fun σ H p=>mono σ H _ _ (fun b H1 q=>?_) (hs σ H p)) mono;cases b with
 | true=>exact q
 | false=>exact he _ _ q
def zqw (c:TT):Prop:=∀ σ H Q Q',(∀ b H1,Q b H1→Q' b H1)→c σ H Q→c σ H Q'
theorem zll {a b:TT}(ha:zqw a)(hb:zqw b):zqw (tAnd a b):=fun σ H Q Q' m h=>ha σ H _ _ (fun c H1 q=>by
 cases c with
 | false=>exact m _ _ q
 | true=>exact hb σ H1 Q Q' m q) h
section
variable {X:Cx}{K:Frag}
theorem zhg (h:X.K=K:=by rfl):OpR X (compareOp .NotIn) (rIn K true):=by
 subst h;exact zbZ
theorem zpC {es:List Expr}{k:Nat}{t:TGs}{n:Nat}{pos:Pos}(hc:X.calm=true)(h:PGs X es t)(hK:X.K=K:=by rfl)
  (hn:(assignEach es X.env).length=n:=by rfl) (hst:(assignEach es X.env).findIdx? (·.1)=none:=by rfl):PG X (.Tuple es k pos) (gTup K n t):=by
 subst hK;exact zgB hc h hn hst
end
theorem zoC {K:Frag}{a b D:Addr}{xs ys:List V}{g:TG}{ts:TT}{te:TE}{σ:St}{H:Hp}{Q:Hp→Prop}(hlen:xs.length=ys.length)(Pv:Nat→St→Hp→Prop)(h0:Pv 0 σ H)(hl:∀ i σ H,i≤xs.length→Pv i σ H→SqL K H a xs∧SqL K H b ys)
  (hs:∀ i m x y σ H r,xs[i]?=some x→ys[i]?=some y→i+m=xs.length→Pv i σ H→H r=none→g (.ref r) σ (upd H r (.tup [x,y])) fun σ2 H2=>ts σ2 H2 fun b H3=>if b=true then te σ2 H3 fun y H4=>∃ zs,H4 D=some (.lst zs)∧zs.length < sizeLine∧∃ m',m' < m∧(i+1+m'=xs.length∧Pv (i+1) σ2 (upd H4 D (.lst (zs++[y])))) else ∃ m',m' < m∧(i+1+m'=xs.length∧Pv (i+1) σ2 H3))
  (hd:∀ σ H,Pv xs.length σ H→Q H) :
  ∃ W:Nat→Nat→St→Hp→Prop,(∃ m,W 0 m σ H)∧∀ i m σ H,W i m σ H→((Itz K a b).stop i H∧Q H)∨((Itz K a b).go i H∧∀ x H',(Itz K a b).yld i H x H'→g x σ H' fun σ2 H2=>ts σ2 H2 fun b H3=>if b=true then te σ2 H3 fun y H4=>∃ xs,H4 D=some (.lst xs)∧xs.length < sizeLine∧∃ m',m' < m∧W (i+1) m' σ2 (upd H4 D (.lst (xs++[y]))) else ∃ m',m' < m∧W (i+1) m' σ2 H3):=by
 refine ⟨fun i m σ H=>i+m=xs.length∧Pv i σ H,⟨xs.length,by omega,h0⟩,fun i m σ H zq0=>?_⟩;obtain ⟨e,pv⟩:=zq0;obtain ⟨hS,hS'⟩:=hl i σ H (by omega) pv;by_cases hi:i < xs.length
 ·refine .inr ⟨⟨xs,ys,xs[i],ys[i]'(by omega),hS,hS',yac hi,yac (by omega)⟩,fun x H' y=>?_⟩;obtain ⟨p,z,z',rfl,hp,hz,hz',rfl⟩:=y;exact hs i m z z' σ H p (hz xs hS) (hz' ys hS') e pv hp
 ·have:i=xs.length:=by omega
  subst this;exact .inl ⟨⟨xs,ys,hS,hS',.inl (yaa _)⟩,hd σ H pv⟩
end L2
namespace L2
open PySem PySem.Spec PyProof.Rows
section
variable {X:Cx}
theorem zm8 (hc:X.calm=true):zb1 X (.builtin "min") (fun xs H Q=>∃(p:Addr) (ns:List Int),xs=[.ref p]∧SqL X.K H p (ns.map V.int)∧0 < ns.length∧∀ M,M∈ns→(∀ a,a∈ns→M≤a)→Q (.int M) H):=by
 intro pins s σ H xs us Q I r h;obtain ⟨p,ns,rfl,hq,hne,q⟩:=h;obtain ⟨u,rfl,rx⟩:=zfm r;cases rx
 obtain ⟨its,rv,pl,_⟩:=I.list hq;have hi:=zbU rv;obtain ⟨xs,hx⟩:=hi.allInts.items;have hl':s.heap.IsList p (intItems xs):=hx ▸ pl.isList;have e1:ns=xs.toList.map (·.1):=by
  rw[← nums_intItems,← hx];exact (show numsOf its.toArray.toList=ns from hi.numsOf).symm
 have hsz:0 < xs.size:=by
  rw[e1,yab,yau]at hne;exact hne
 refine min_intList (I.ok.hd hc) hl' hsz fun v h' tk hv hk=>?_;obtain ⟨t,rfl⟩:=intItems_at hv;obtain ⟨h1,h2⟩:=argBest_lt (numAt xs) (xs.size - 1);refine ⟨.int _,H,Inv.kept (t':=tk) I hk,⟨t,rfl⟩,q _ ?_ fun a ha=>?_⟩
 ·rw[e1,numAt_eq];rw[yaf,yac (by rw[yab,yau];omega)];exact yaN _
 ·rw[e1]at ha;obtain ⟨j,hj,rfl⟩:=mem_getD ha;rw[yab,yau]at hj;rw[← numAt_eq];exact h2 j (by omega)
end
theorem zeE {K:Frag}{a D:Addr}{xs:List V}{g:TG}{ts:TT}{te:TE}{σ:St}{H:Hp}{Q:Hp→Prop}(Pv:Nat→St→Hp→Prop)(h0:Pv 0 σ H)(hl:∀ i σ H,i≤xs.length→Pv i σ H→SqT K H a xs)
  (hs:∀ i m x σ H,xs[i]?=some x→i+m=xs.length→Pv i σ H→g x σ H fun σ2 H2=>ts σ2 H2 fun b H3=>if b=true then te σ2 H3 fun y H4=>∃ zs,H4 D=some (.lst zs)∧zs.length < sizeLine∧∃ m',m' < m∧(i+1+m'=xs.length∧Pv (i+1) σ2 (upd H4 D (.lst (zs++[y])))) else ∃ m',m' < m∧(i+1+m'=xs.length∧Pv (i+1) σ2 H3))
  (hd:∀ σ H,Pv xs.length σ H→Q H) :
  ∃ W:Nat→Nat→St→Hp→Prop,(∃ m,W 0 m σ H)∧∀ i m σ H,W i m σ H→((Itt K a).stop i H∧Q H)∨((Itt K a).go i H∧∀ x H',(Itt K a).yld i H x H'→g x σ H' fun σ2 H2=>ts σ2 H2 fun b H3=>if b=true then te σ2 H3 fun y H4=>∃ xs,H4 D=some (.lst xs)∧xs.length < sizeLine∧∃ m',m' < m∧W (i+1) m' σ2 (upd H4 D (.lst (xs++[y]))) else ∃ m',m' < m∧W (i+1) m' σ2 H3):=by
 refine ⟨fun i m σ H=>i+m=xs.length∧Pv i σ H,⟨xs.length,by omega,h0⟩,fun i m σ H zq0=>?_⟩;obtain ⟨e,pv⟩:=zq0;have hS:=hl i σ H (by omega) pv;by_cases hi:i < xs.length
 ·refine .inr ⟨⟨xs,xs[i],hS,yac hi⟩,fun x H' y=>?_⟩;obtain ⟨e1,y⟩:=y;subst e1;exact hs i m x σ _ (y xs hS) e pv
 ·have:i=xs.length:=by omega
  subst this;exact .inl ⟨⟨xs,hS,yaa _⟩,hd σ H pv⟩
end L2
namespace L2
open PySem PySem.Spec PyProof.Rows
def Itv (K:Frag)(a:Addr)(n:Nat):It:=
 ⟨fun i H=>i < n∧∃ xs,SqL K H a xs∧xs.length=n,fun i H x H'=>H'=H∧∀ xs,SqL K H a xs→xs.length=n→xs.reverse[i]?=some x,fun i _=>i=n⟩
theorem znp {P:Program}{w:World}{K:Frag}{tg:Expr}(a it:Addr)(n:Nat):Turn P w K tg (Itv K a n) [it] it (fun i h=>h.IsRevIter it a ((n:Int) - 1 - (i:Int))) where
 mem:=by simp
 obj:=fun i h st b hb=>by
  have e:b=it:=by simpa using hb
  subst e;obtain ⟨o,e,c,d⟩:=st;exact ⟨o,e,fun v z=>by rw[d]at z;cases z⟩
 keep:=fun i h h' st k=>st.at fun o e=>k it (by simp) o e
 item:=by
  intro X hP hw hK hc i pins s σ H E I hf st hg;subst hP hw hK;obtain ⟨hi,xs,hq,hn⟩:=hg;obtain ⟨its,rv,p,hz⟩:=I.list hq;have hx:xs[n - 1 - i]?=some (xs[n - 1 - i]'(by omega)):=yac (by omega);obtain ⟨u,hu,ru⟩:=rv.get hx;obtain ⟨f0,f1,f2,f3,f4,f5⟩:=hf it (by simp);have e1:(n:Int) - 1 - (i:Int)=((n - 1 - i:Nat):Int):=by omega
  rw[e1]at st;refine wpAny_pyNext_rev_item st p.isList (x:=u) (by simpa using hu) fun h' st' sb=>?_;have e2:((n - 1 - i:Nat):Int) - 1=(n:Int) - 1 - ((i+1:Nat):Int):=by omega
  rw[e2]at st';have I1:Inv X pins σ H { s with heap:=h' }:=I.turned (t':=s.toks) (fun b o hb e=>(sb.2 b hb).trans e) f0 f1 f3 f4 f5;obtain ⟨o,e,c,d⟩:=id st';refine ⟨u,rfl,zoq (s:={ s with heap:=h' }) e c d (by decide) ⟨xs[n - 1 - i]'(by omega),H,I1,ru,⟨rfl,fun ys hy hyn=>?_⟩,st',fun b hb=>(hf b hb).1⟩⟩;rw[I.list_inj hy hq,ycz (by omega),show xs.length - 1 - i=n - 1 - i by omega];exact hx
 done:=by
  intro X hP hw hK hc i pins s σ H E I hf st hg;subst hP hw hK;have hi:i=n:=hg;subst hi;obtain ⟨f0,f1,f2,f3,f4,f5⟩:=hf it (by simp);have e1:(i:Int) - 1 - (i:Int) = -1:=by omega
  rw[e1]at st;exact wpAny_pyNext_rev_end (I.ok.hd hc) st fun h' eb=>⟨rfl,I.turned (t':=s.toks) (fun b o hb e=>eb b o hb e) f0 f1 f3 f4 f5⟩
 self:=fun _ _ _ _ _ st h=>wpAny_pyIter_revIter st h
def iRev (K:Frag)(ta:TA):TI:=fun σ H R=>ta σ H fun vs H1=>∃ a xs,vs=[.ref a]∧SqL K H1 a xs∧R (Itv K a xs.length) H1
section
variable {X:Cx}
theorem zfV {tg:Expr}{a:Expr}{ta:TA}{p pos:Pos}(hg:Gl X "reversed")(hm:X.mg "reversed" = none)(ha:PA X [a] ta)(hs:starEach [a] X.env=[(false,eval a X.env)]:=by rfl):PI X tg (.Call (.Name "reversed" p) [a] [] pos) (iRev X.K ta):=by
 intro pins s σ H R I h;refine Call_ (zfi I hg hm boot_reversed (PyProof.Rows.callWith_type1 (thn (ha pos pins s σ H _ I h) fun us s1 zq0=>?_) hs rfl));obtain ⟨vs,H1,I1,r1,q1⟩:=zq0;obtain ⟨l,xs,e,hq,q⟩:=q1;subst e;cases r1 with
 | cons r rr=>
  cases rr
  cases r
  obtain ⟨its,rv,pl,hz⟩:=I1.list hq;have hl:=rv.length;refine call_reversed_list pl.isList ?_;have I2:Inv X pins σ H1 { s1 with heap:=s1.heap.push (revObj l ((its.toArray.size:Int) - 1)) }:=I1.kept (t':=s1.toks) fun b o e=>yal _ e;have hr:(s1.heap.push (revObj l ((its.toArray.size:Int) - 1))).IsRevIter s1.heap.objs.size l (((xs.length:Nat):Int) - 1 - ((0:Nat):Int)):=by
   refine ⟨_,yaB _ rfl,rfl,?_⟩;have:(its.toArray.size:Int) - 1=((xs.length:Nat):Int) - 1 - ((0:Nat):Int):=by
    rw[yaq,hl];omega
   rw[this];rfl
  refine wpAny_pyIter_revIter (s:={ s1 with heap:=s1.heap.push (revObj l ((its.toArray.size:Int) - 1)) }) hr ⟨_,[s1.heap.objs.size],_,_,H1,rfl,I2,znp l s1.heap.objs.size xs.length,hr,fun b hb=>?_,q⟩;have e:b=s1.heap.objs.size:=by simpa using hb
  subst e;exact I1.fpOk (yaa _) (I1.hok.fresh (yaa _))
end
theorem zmP {K:Frag}{a:Addr}{xs:List V}{g:TG}{tb:TS}{D:Ends}{σ:St}{H:Hp}(Pv:Nat→St→Hp→Prop)(h0:Pv 0 σ H)(hl:∀ i σ H,i≤xs.length→Pv i σ H→SqL K H a xs)
  (hs:∀ i x σ H,xs.reverse[i]?=some x→Pv i σ H→g x σ H fun σ2 H2=>tb { D with nx:=Pv (i+1),ct:=Pv (i+1),bk:=D.nx } σ2 H2) (hd:∀ σ H,Pv xs.length σ H→D.nx σ H) :
  ∃ W:Nat→Nat→St→Hp→Prop,(∃ m,W 0 m σ H)∧∀ i m σ H,W i m σ H→((Itv K a xs.length).stop i H∧D.nx σ H)∨((Itv K a xs.length).go i H∧∃ N:St→Hp→Prop,(∀ σ' H',N σ' H'→∃ m',m' < m∧W (i+1) m' σ' H')∧∀ x H',(Itv K a xs.length).yld i H x H'→g x σ H' fun σ2 H2=>tb { D with nx:=N,ct:=N,bk:=D.nx } σ2 H2):=by
 refine ⟨fun i m σ H=>i+m=xs.length∧Pv i σ H,⟨xs.length,by omega,h0⟩,fun i m σ H zq0=>?_⟩;obtain ⟨e,pv⟩:=zq0;have hS:=hl i σ H (by omega) pv;by_cases hi:i < xs.length
 ·refine .inr ⟨⟨hi,xs,hS,rfl⟩,Pv (i+1),fun σ' H' q=>⟨m - 1,by omega,by omega,q⟩,fun x H' y=>?_⟩;obtain ⟨e1,y⟩:=y;subst e1;exact hs i x σ _ (y xs hS rfl) pv
 ·have:i=xs.length:=by omega
  subst this;exact .inl ⟨rfl,hd σ H pv⟩
end L2
namespace L2
open PySem PySem.Spec PyProof.Rows
theorem zlJ {P:Program}{w:World}{k:Key}{u:Value}(h:(za6 P w).is k u=true):RelV (kV k) u:=by
 rw[zkA]at h;rcases zaU h with ⟨i,t,rfl,rfl⟩ | ⟨x,t,rfl,rfl⟩
 ·exact ⟨t,rfl⟩
 ·exact ⟨t,rfl⟩
section
variable {X:Cx}
theorem zkU (hc:X.calm=true):zb1 X (.type "list") (fun xs H Q=>∃(p:Addr) (kvs:List (Key×V)),xs=[.ref p]∧H p=some (.dK kvs)∧∀ l,H l=none→Q (.ref l) (upd H l (.lst (kvs.map fun kv=>kV kv.1)))):=by
 intro pins s σ H xs us Q I r h;obtain ⟨p,kvs,rfl,hq,q⟩:=h;obtain ⟨u,rfl,rx⟩:=zfm r;cases rx
 obtain ⟨hz,hne,vs,rel,o,es,ep,h1,h2,h3,h4,h5,h6⟩:=zqj I.hok hq;have hlen:kvs.length=vs.length:=rel.length;refine PySem.W.kdl_call (PySem.W.kdl_dict (knd:=za6 X.prog X.w) (kvs:=vs) (ep:=ep) hne) (I.ok.hd hc) ⟨o,es,h1,h2,h3,h4,h5,h6⟩ (by omega) fun h' tk acc c k e hi=>?_;have hv:Vals (kvs.map fun kv=>kV kv.1) acc.toList:=by
  obtain ⟨g1,g2⟩:=hi;have key:∀(m:Nat) (kvs:List (Key×V)) (vs:List (Key×Value)) (us:List Value),KV kvs vs→us.length=vs.length→(∀(i:Nat) (v:Value),us[i]?=some v→∃ k x,vs[i]?=some (k,x)∧(za6 X.prog X.w).is k v=true)→Vals (kvs.map fun kv=>kV kv.1) us:=by
   intro m kvs
   induction kvs with
   | nil=>
    intro vs us r hl _;cases r
    have:us=[]:=ycA hl;subst this;exact .nil
   | cons kv kvs ih=>
    intro vs us r hl hh;cases r with
    | cons a b=>
     cases us with
     | nil=>cases hl
     | cons v us=>
      refine .cons ?_ (ih _ us b (Nat.succ.inj hl) fun i v e=>?_)
      ·obtain ⟨k,x,e1,e2⟩:=hh 0 v rfl;cases e1
       have h9:=zlJ e2;have a1:kv.1=k:=a.1;rw[← a1]at h9;exact h9
      ·have:=hh (i+1) v (by simpa using e);simpa using this
  refine key 0 kvs vs acc.toList rel (by rw[yau];exact g1) fun i v e=>?_;exact g2 i v (by rw[← ya0];exact e)
 refine ⟨.ref s.heap.objs.size,_,I.laid (a:=s.heap.objs.size) (o:=.lst (kvs.map fun kv=>kV kv.1)) (t':=tk) k (yaa _) ⟨?_,acc.toList,c,hv,by rw[Array.toArray_toList];exact e⟩,rfl,q _ (I.hok.fresh (yaa _))⟩;rw[yab];omega
end
end L2
namespace L2
open PySem PySem.Spec PyProof.Rows
def iSeq (K:Frag)(tl:TE):TI:=fun σ H R=>tl σ H fun x H1=>∃ a,x=.ref a∧((∃ xs,SqL K H1 a xs)∧R (Itl K a) H1∨(∃ xs,SqT K H1 a xs)∧R (Itt K a) H1)
section
variable {X:Cx}{tg:Expr}
theorem zlO {l:Expr}{tl:TE}(hl:PE X l tl):PI X tg l (iSeq X.K tl):=by
 intro pins s σ H R I h;refine thn (hl pins s σ H _ I h) fun v s1 zq0=>?_;obtain ⟨x,H1,I1,r1,a,e,q1⟩:=zq0;subst e;cases r1
 have new:∀ b∈[s1.heap.objs.size],FpOk X pins H1 b:=fun b hb=>by
  rw[yaj.mp hb];exact I1.fpOk (yaa _) (I1.hok.fresh (yaa _))
 rcases q1 with ⟨⟨xs,hq⟩,q⟩ | ⟨⟨xs,hq⟩,q⟩
 ·obtain ⟨its,rv,p,hz⟩:=I1.list hq;exact wpAny_pyIter_list p.isList ⟨s1.heap.objs.size,[s1.heap.objs.size],_,_,H1,rfl,Inv.kept (t':=s1.toks) I1 (fun b o e=>yal _ e),zhI a _,⟨_,yaB _ rfl,rfl,rfl⟩,new,q⟩
 ·obtain ⟨its,rv,p,hz⟩:=I1.tuple hq;exact wpAny_pyIter_tuple (show s1.heap.IsTuple a its.toArray from p) ⟨s1.heap.objs.size,[s1.heap.objs.size],_,_,H1,rfl,Inv.kept (t':=s1.toks) I1 (fun b o e=>yal _ e),zgs a _,⟨_,yaB _ rfl,rfl,rfl⟩,new,q⟩
end
section
variable {prog:Program}{w:World}{A:Around}{E:Value→Shared→Prop}{s:Shared}
theorem zjb {l:Addr}{vs:List Value}{Q:List Value→Shared→Prop}(hl:s.heap.IsTuple l vs.toArray)
  (h:Q vs { s with heap:=(s.heap.push (seqObj "list" #[] 0)).update s.heap.objs.size (Obj.mapSeq (· ++ vs.toArray)) }) (hsz:vs.length≤sizeLine):wpAny (model prog w) A (collect (.ref l)) Q E s:=by
 obtain ⟨o,ho,hc,n,hd⟩:=id hl;unfold collect;refine wpAny_bind (wpAny_runValue (codeAny_builtin entry_proto_collect' ?_));show wpAny _ _ (do again (.builtin "list.__iadd__" ⟨[← newList [],.ref l],[]⟩)) _ _ s
 refine wpAny_bind (wpAny_newList (wpAny_pure ⟨Code.quiet_builtin _ (by decide +kernel),codeAny_builtin entry_list_iadd' ?_⟩));show wpAny _ _ (Builtin.List.listExtendWith (.ref s.heap.objs.size) (.ref l) (.ref s.heap.objs.size)) _ _ { s with heap:=s.heap.push (seqObj "list" #[] 0) };unfold Builtin.List.listExtendWith;have there:(s.heap.push (seqObj "list" #[] 0)).get? l=some o:=yal _ ho;refine wpAny_bind (wpAny_typeOf (T := "tuple") ⟨o,there,hc⟩ ?_);have ht:(Value.type "tuple" == Value.type "tuple")=true:=rfl;rw[if_pos (by rw[ht,Bool.or_true])];refine wpAny_bind (listItems_at there hd ?_);refine wpAny_bind (listItems_at (xs:=#[]) (n:=0) (yaB _ rfl) rfl ?_);rw[if_neg (by simp)];have fits:(#[]++vs.toArray).size≤sizeLine+1:=by
  simp only[Array.size_append,yaq,ybu];omega
 refine wpAny_bind (listUpdate_at (xs:=#[]) (n:=0) (yaB _ rfl) rfl ?_ (yaF _) fits);refine wpAny_pure ?_;show wpAny (model prog w) A (load s.heap.objs.size >>= fun o=>match o.data with | .seq xs _=>pure xs.toList | _=>unsupported "internal:collect") Q E { s with heap:=(s.heap.push (seqObj "list" #[] 0)).update s.heap.objs.size (Obj.mapSeq (· ++ vs.toArray)) }
 refine wpAny_bind (wpAny_load (get?_update_seq (yaB _ rfl) _) ?_);show wpAny _ _ (pure ((#[]:Array Value)++vs.toArray).toList) Q E _;have e0:((#[]:Array Value)++vs.toArray).toList=vs:=by simp
 rw[e0];exact wpAny_pure h
end
end L2
namespace Tim
open PySem PyProof.Rows
section
variable {prog:Program}{w:World}{A:Around}{E:Value→Shared→Prop}{s:Shared}{κ:KeyKind}{kd:SortKind}
theorem znA {l:Addr}{vs:List Value}{Q:Value→Shared→Prop}(hl:s.heap.IsTuple l vs.toArray)(hz:vs.length≤sizeLine)(keys:∀ v∈vs,∃ k,κ.keyOf v=some k)
  (hlt:∀ h',(∀ b o,s.heap.get? b=some o→h'.get? b=some o)→LtG prog w A.in1.in1 { s with heap:=h' } κ kd)
  (hkd:∀(h':Heap) (E:Value→Shared→Prop) (Q:SortKind→Shared→Prop),(∀ b o,s.heap.get? b=some o→h'.get? b=some o)→2≤vs.length→Q kd { s with heap:=h' }→wpAny (model prog w) A.in1.in1 (keyKind' vs.toArray) Q E { s with heap:=h' })
  (h:∀(out:List Value) (h':Heap) (c:Nat),out.Perm vs→out.Pairwise (fun x y=>κ.kle (keyV κ x) (keyV κ y))→(∀ b o,s.heap.get? b=some o→h'.get? b=some o)→
   h'.get? (s.heap.objs.size+1)=some (seqObj "list" out.toArray c)→Q (.ref (s.heap.objs.size+1)) { s with heap:=h' }) :
  wpAny (model prog w) A (call (.builtin "sorted") [.ref l]) Q E s:=by
 refine Calls.call_function_entry kind_sorted plain_sorted entry_sorted (args_sorted1 _) ?_;unfold Builtin.«sorted»;refine wpAny_bind (m:=checkCount "sorted" 1 1 _) (wpAny_pure ?_);refine wpAny_bind (L2.zjb hl ?_ hz);refine wpAny_bind (wpAny_newList ?_ (by simpa using hz));have z1:((s.heap.push (seqObj "list" #[] 0)).update s.heap.objs.size (Obj.mapSeq (· ++ vs.toArray))).objs.size=s.heap.objs.size+1:=by
  rw[Heap.size_update,size_push']
 have hn:(((s.heap.push (seqObj "list" #[] 0)).update s.heap.objs.size (Obj.mapSeq (· ++ vs.toArray))).push (seqObj "list" vs.toArray 0)).get? (s.heap.objs.size+1)=some (seqObj "list" vs.toArray 0):=by
  rw[← z1];exact yaB _ rfl
 have hk:∀ b o,s.heap.get? b=some o→(((s.heap.push (seqObj "list" #[] 0)).update s.heap.objs.size (Obj.mapSeq (· ++ vs.toArray))).push (seqObj "list" vs.toArray 0)).get? b=some o:=fun b o e=>
  yal _ ((ybt _ _ (ybk (yag e))).trans (yal _ e))
 show wpAny _ _ _ _ _ { s with heap:=((s.heap.push (seqObj "list" #[] 0)).update s.heap.objs.size (Obj.mapSeq (· ++ vs.toArray))).push (seqObj "list" vs.toArray 0) };rw[z1];generalize ((s.heap.push (seqObj "list" #[] 0)).update s.heap.objs.size (Obj.mapSeq (· ++ vs.toArray))).push (seqObj "list" vs.toArray 0)=h1 at hn hk ⊢;have up:∀ h',zfa (s.heap.objs.size+1) h1 h'→∀ b o,s.heap.get? b=some o→h'.get? b=some o:=fun h' kb b o e=>kb b o (fun z=>by
  have:=yag e;rw[z]at this;exact absurd this (Nat.not_lt.mpr (ybd _))) (hk b o e)
 refine wpAny_bind (wpAny_holding (wpAny_call_entry slot_list_sort ⟨_,hn,rfl⟩ entry_list_sort (zo3 (s:={ s with heap:=h1 }) hn hz keys (fun h' kb=>hlt h' (up h' kb)) (fun h' E Q kb h2 q=>hkd h' E Q (up h' kb) h2 q) fun out p1 p2=>⟨_,rfl,?_⟩) (args_list_sort _)));obtain ⟨kb,c,hc⟩:=zf5 (out:=out) hn;exact wpAny_pure ⟨_,rfl,h out _ c p1 p2 (up _ kb) hc⟩
end
end Tim
namespace L2
open PySem PySem.Spec PyProof.Rows
section
variable {X:Cx}
def zo5 (α:Type)[Rep α][Srt α](K:Frag):List V→Hp→VK→Prop:=fun xs H Q=>∃(p:Addr) (vs:List V) (as:List α),xs=[.ref p]∧SqT K H p vs∧zak K H as vs∧
 ∀ l ws,H l=none→zak K H (zcG as) ws→Q (.ref l) (upd H l (.lst ws))
theorem zkS (α:Type)[Rep α][Srt α]:zb1 X (.builtin "sorted") (zo5 α X.K):=by
 intro pins s σ H xs us Q I r h;obtain ⟨p,vs,as,rfl,hq,ha,q⟩:=h;obtain ⟨u,rfl,rx⟩:=zfm r;cases rx
 obtain ⟨its,rv,pl,hz⟩:=I.tuple hq;have hlen:=rv.length;obtain ⟨km,kk⟩:=ziZ I ha rv;refine Tim.znA (κ:=srtKind α X.K H) (kd:=Srt.kd α) (show s.heap.IsTuple p its.toArray from pl) (by omega) (fun v hv=>?_) (fun h' k E x y a b Q hx hy q=>?_) (fun h' E Q k h2 q=>Srt.kind (Inv.kept (t':=s.toks) I k) ha rv h2 q) fun out h' c p1 p2 k hc=>?_
 ·obtain ⟨a,_,_,_,e⟩:=kk v hv;exact ⟨a,e⟩
 ·obtain ⟨x1,r1,e1⟩:=zdQ hx;obtain ⟨y1,r2,e2⟩:=zdQ hy;exact Srt.lt (Inv.kept (t':=s.toks) I k) e1 e2 r1 r2 q
 ·obtain ⟨ws,bs,w1,w2,w3⟩:=zf2 (α:=α) (K:=X.K) (H:=H) (out:=out) fun v hv=>kk v (p1.mem_iff.mp hv);have eb:bs=zcG as:=by
   refine zdy ?_ ?_
   ·rw[w3,← km];exact p1.map _
   ·rw[w3];exact ybJ.mpr p2
  rw[eb]at w2;have hw:ws.length≤sizeLine:=by
   have:=w1.length;have:=p1.length_eq;omega
  exact ⟨.ref (s.heap.objs.size+1),_,I.laid (a:=s.heap.objs.size+1) (o:=.lst ws) (t':=s.toks) k (ybd _) ⟨hw,out,c,w1,hc⟩,rfl,q _ ws (I.hok.fresh (ybd _)) w2⟩
end
section
variable {prog:Program}{w:World}{A:Around}{E:Value→Shared→Prop}{s:Shared}
theorem ziA:isSubtype (.type "tuple") (.type "set")=pure false:=by rw[isSubtype_type];kernel_rfl
theorem zgp:isSubtype (.type "tuple") (.type "frozenset")=pure false:=by rw[isSubtype_type];kernel_rfl
abbrev zhk (led:Bool):Obj:={ cls:=.type "set",dict:=none,data:=.set #[] 0 (.fresh 0 0 led) }
set_option maxRecDepth 100000 in
set_option maxHeartbeats 3200000 in
theorem zkl {l:Addr}{items:Array Value}{ns:List Int}{Q:Value→Shared→Prop}(hh:A.handled=none)(hl:s.heap.IsTuple l items)(hi:IntsAre items.toList ns)(hb:items.size+1 < scanBound)
  (h:∀(h':Heap) (tk:Nat),h'.SetOf (intKind prog w) s.heap.objs.size (fun k'=>(firstMet (fun i=>ns.getD i 0) items.size).any (· == k')) (firstMet (fun i=>ns.getD i 0) items.size).length→
   (∀ b o,b < s.heap.objs.size→s.heap.get? b=some o→h'.get? b=some o)→Q (.ref s.heap.objs.size) { s with heap:=h',toks:=tk }) :
  wpAny (model prog w) A (call (.type "set") [.ref l]) Q E s:=by
 obtain ⟨c,tl,hmro⟩:=F.called_set.mro;have hmade:=F.called_set.made;have hsub:=F.called_set.sub;refine wpAny_call (codeAny_of_tree ?_);show wpAny _ _ (callAny (.type "set") _) _ _ _;refine wpAny_pure ⟨Code.quiet_builtin _ (by decide +kernel),codeAny_builtin F.entry_type_call ?_⟩;rw[Around.under_plain (weight_type_call_type "set" [.ref l] []) rfl];have h1:=F.called_set.notType;have h2:=F.called_set.canCreate;have hct:=F.typeCall_set_1 (.ref l)
 repeat (any_goals (first | assumption | wp_step))
 refine codeAny_mono (code_set_new_1 (.ref l) (E:=E) (Q₁:=fun obj s₁=>∃ led:Bool,obj=.ref s.heap.objs.size∧s₁={ s with heap:=s.heap.push (zhk led) }) fun led=>⟨led,rfl,rfl⟩) fun r s₁ hr=>?_;cases r with
 | error e=>exact hr
 | ok fl=>
  cases fl with
  | ret obj=>
   obtain ⟨led,rfl,rfl⟩:=hr;have hS:(s.heap.push (zhk led)).get? s.heap.objs.size=some (zhk led):=yaB _ rfl;have hT:Shared.TypeIs { s with heap:=s.heap.push (zhk led) } (.ref s.heap.objs.size) "set":=⟨_,hS,rfl⟩;have hli:=F.called_set.init.lookup;have hbi:=F.called_set.init.bind (.ref s.heap.objs.size)
   repeat (any_goals (first | assumption | wp_step))
   refine codeAny_mono (codeAny_call_builtin (R:=wants (fun r s₂=>r=.none∧∃ h' tk,s₂={ s with heap:=h',toks:=tk }∧
     h'.SetOf (intKind prog w) s.heap.objs.size (fun k'=>(firstMet (fun i=>ns.getD i 0) items.size).any (· == k')) (firstMet (fun i=>ns.getD i 0) items.size).length∧
     (∀ b o,b < s.heap.objs.size→s.heap.get? b=some o→h'.get? b=some o)) E) F.called_set.init.plain F.entry_set_init (check_set_init_1 hT ?_)) fun r₂ s₂ hr₂=>?_
   ·obtain ⟨ol,hol,hcl,nl,hdl⟩:=hl;obtain ⟨ocls,odict,odata,oslots⟩:=ol;simp only at hcl hdl;subst hcl;subst hdl;have there:(s.heap.push (zhk led)).get? l=some { cls:=.type "tuple",dict:=odict,data:=.seq items nl,slots:=oslots }:=yal _ hol;have hsls:=ziA;have hslf:=zgp;have hne:(Value.type "tuple" == Value.type "dict")=false:=by decide
    have hl1:(s.heap.push (zhk led)).IsTuple l items:=⟨_,there,rfl,nl,rfl⟩;unfold Builtin.«set.__init__» noKeywords Builtin.Frozenset.updateFrom;generalize hPI:pyIter=PI
    wp_walk
    subst hPI;refine wpAny_pyIter_tuple hl1 ?_;refine wpAny_bind (wpAny_runValue ?_);have hlS:l < s.heap.objs.size:=yag hol;have h3:A.in1.in1.in1.handled=none:=by simp[hh]
    have hsz:(s.heap.push (zhk led)).objs.size=s.heap.objs.size+1:=yb3 ..;have hneI:l≠(s.heap.push (zhk led)).objs.size:=by
     rw[hsz];exact yas (Nat.lt_succ_of_lt hlS)
    have hSf:s.heap.objs.size∉[(s.heap.push (zhk led)).objs.size,l]:=by
     rw[hsz];simp only[yak,yaS,or_false,not_or];exact ⟨yas (yb4 _),ybk hlS⟩
    have hval:∀(i:Nat) (v:Value),items[i]?=some v→∃ t,v=.int ((fun i=>ns.getD i 0) i) t:=fun i v hv=>
     IntsAre.int_at hi i v (by rw[ya0];exact hv)
    refine codeAny_set_update_loopS ((Walks.tuple h3 _ l hneI items).toS) s.heap.objs.size
     hSf (fun i=>ns.getD i 0) hval hb (items.size - 0) 0 _ (by omega) (yaF _)
     ⟨⟨_,yaB _ rfl,rfl,rfl⟩,(hl1.push _)⟩ ?hS0 ?hR
    case hS0=>
     exact SetOf_congr ((setObjOf_fresh (knd:=intKind prog w) led).setOf (yal _ hS) (by unfold scanBound;omega)) (fun _=>rfl) rfl
    case hR=>
     intro s' hm hS';obtain ⟨h',g',d',tk',os'⟩:=s';have eg:g'=s.gens:=hm.gens;have ed:d'=s.drawn:=hm.drawn;have eo:os'=s.os:=hm.os;subst eg;subst ed;subst eo;show wpAny _ _ _ _ _ _;refine wpAny_pure ?_;show wpAny _ _ (ret Value.none) _ _ _;refine wpAny_pure ⟨rfl,h',tk',rfl,hS',fun b o hb e=>?_⟩;refine hm.heap b o ?_ (yal _ (yal _ e));rw[hsz];simp only[yak,yaS,or_false,not_or];exact ⟨yas hb,yas (Nat.lt_succ_of_lt hb)⟩
   ·cases r₂ with
    | error e=>exact hr₂
    | ok fl₂=>
     cases fl₂ with
     | ret r=>
      obtain ⟨rfl,h',tk,rfl,hS',hk'⟩:=hr₂
      repeat (any_goals (first | assumption | wp_step))
      exact h _ _ hS' hk'
     | _=>exact hr₂.elim
  | _=>exact hr.elim
end
section
variable {X:Cx}
def zqT (K:Frag):List V→Hp→VK→Prop:=fun xs H Q=>∃(p:Addr) (ns:List Int),xs=[.ref p]∧SqT K H p (ns.map V.int)∧ns.length≤1000∧
 ∀ l,H l=none→Q (.ref l) (upd H l (.set (fun k=>(metI ns).any (· == k)) (metI ns).length))
theorem zm5 (hc:X.calm=true):zb1 X (.type "set") (zqT X.K):=by
 intro pins s σ H xs us Q I r h;obtain ⟨p,ns,rfl,hq,hz,q⟩:=h;obtain ⟨u,rfl,rx⟩:=zfm r;cases rx
 obtain ⟨its,rv,pl,_⟩:=I.tuple hq;have hl:=rv.length;rw[yab]at hl;refine zkl (ns:=ns) (I.ok.hd hc) (show s.heap.IsTuple p its.toArray from pl) (by simpa using zbU rv) (by unfold scanBound;simp only[yaq];omega) fun h' tk hS hk=>?_;have e:its.toArray.size=ns.length:=by simp only[yaq];omega
 rw[e]at hS;exact ⟨.ref s.heap.objs.size,_,I.laid (a:=s.heap.objs.size) (o:=.set _ _) (t':=tk) (fun b o eb=>hk b o (yag eb) eb) (yaa _) hS,rfl,q _ (I.hok.fresh (yaa _))⟩
theorem ze4:zb1 X (.builtin "isinstance") (fun xs H Q=>∃ a p,xs=[.ref a,.ref p]∧H p=some (.tup [.ty "list",.ty "tuple"])∧((∃ ys,H a=some (.lst ys))∨∃ ys,H a=some (.tup ys))∧Q (.bl true) H):=by
 intro pins s σ H xs us Q I r h;obtain ⟨a,p,rfl,hp,ha,q⟩:=h;obtain ⟨u,w',rfl,r1,r2⟩:=zgo r;cases r1
 cases r2
 obtain ⟨_,its,rv,⟨oc,od,odt,osl⟩,h1,h2,n,h3⟩:=(show zbl X.prog X.w H s.heap p (.tup [.ty "list",.ty "tuple"]) from I.hok p _ hp);have h2:oc=.type "tuple":=h2;have h3:odt=.seq its.toArray n:=h3;subst h2 h3;obtain ⟨c1,c2,rfl,e1,e2⟩:=zgo rv;have e1:c1=.type "list":=e1;have e2:c2=.type "tuple":=e2;subst e1 e2;have fin:∀ tk,(fun v s'=>∃ x H',Inv X pins σ H' s'∧RelV x v∧Q x H') (Value.bool true) { s with toks:=tk }:=fun tk=>⟨.bl true,H,I.tok tk,rfl,q⟩;rcases ha with ⟨ys,ha⟩ | ⟨ys,ha⟩
 ·obtain ⟨_,_,n,_,g1⟩:=(show zbl X.prog X.w H s.heap a (.lst ys) from I.hok a _ ha);exact PySem.W.kia_tup PySem.W.kitx_list I.kIn ⟨_,g1,rfl⟩ h1 (b:=true) (by rfl) (fun z=>nomatch z) fin
 ·obtain ⟨_,_,_,o,g1,g2,_⟩:=(show zbl X.prog X.w H s.heap a (.tup ys) from I.hok a _ ha);exact PySem.W.kia_tup PySem.W.kitx_tuple I.kIn ⟨o,g1,g2⟩ h1 (b:=true) (by rfl) (fun z=>nomatch z) fin
end
end L2
namespace HT
open PySem PySem.Spec PyProof.Rows
section
variable {prog:Program}{w:World}{A:Around}{E:Value→Shared→Prop}{s:Shared}
theorem getItem_tuple_all {t sl:Addr}{items:Array Value}{vl vu:Value}{lo hi:Option Int}{Q:Value→Shared→Prop}(ht:IsTup s.heap t items)(hs:s.heap.IsSliceOf sl vl vu .none)(pl:IsPart vl lo)(pu:IsPart vu hi)
  (hw:sIx items.size 0 lo=0∧sIx items.size items.size hi=items.size) (h:Q (.ref t) s):wpAny (model prog w) A (getItem (.ref t) (.ref sl)) Q E s:=by
 obtain ⟨os,hos,hcs,hds⟩:=id hs;have hTs:s.TypeIs (.ref sl) "slice":=⟨os,hos,hcs⟩;unfold getItem
 try with_reducible refine wpAny_holding ?_
 first | refine wpAny_bind (wpAny_pure ?_) | skip
 refine wpAny_bind (wpAny_sequenceKey ht.typeIs (by decide) ?_);refine wpAny_bind (wpAny_callSpecial?_slot (name:=Str.ofString "__getitem__") ht.typeIs PyProof.Rows.slot_tuple_getitem (wpAny_call_entry PyProof.Rows.slot_tuple_getitem ht.typeIs entry_tuple_getitem ?_ (args_tuple_getitem _ _)));show wpAny _ _ (Builtin.Tuple.tupleItemsOf (.ref t) >>= _) _ _ s;refine wpAny_bind (tupleItemsOf_ ht ?_);refine wpAny_bind (wpAny_typeOf hTs ?_);rw[if_pos (by decide)];refine wpAny_bind (zc8 hs pl pu ?_);have yes:(((sIx items.size 0 lo:Nat):Int) == 0 && (1:Int) == 1 && (sIx items.size items.size hi - sIx items.size 0 lo) == items.size)=true:=by
  rw[hw.1,hw.2];simp
 show wpAny _ _ (if (((sIx items.size 0 lo:Nat):Int) == 0 && (1:Int) == 1 && (sIx items.size items.size hi - sIx items.size 0 lo) == items.size)=true then _ else _) _ _ s
 rw[if_pos yes];refine wpAny_bind ?_;unfold Builtin.Tuple.tupleIsExact;refine wpAny_bind (wpAny_typeOf ht.typeIs ?_);refine wpAny_pure ?_;rw[if_pos (by decide)];exact wpAny_bind (wpAny_rule (wpAny_pure ⟨_,rfl,wpAny_pure h⟩))
end
end HT
namespace L2
open PySem PySem.Spec PyProof.Rows
section
variable {X:Cx}
def rSlX (K:Frag):V→Option Int→Option Int→Hp→VK→Prop:=fun x lo hi H Q=>∃ a xs,x=.ref a∧SqT K H a xs∧
 ((HT.sIx xs.length 0 lo=0∧HT.sIx xs.length xs.length hi=xs.length)→Q (.ref a) H)∧(¬ (HT.sIx xs.length 0 lo=0∧HT.sIx xs.length xs.length hi=xs.length)→∀ p,H p=none→Q (.ref p) (upd H p (.tup (cutV xs lo hi))))
theorem zd2:SlR X (rSlX X.K):=by
 intro pins s σ H x v vl vu lo hi sl Q I rx hs pl pu h;obtain ⟨a,xs,e,hx,q1,q2⟩:=h;by_cases hw:HT.sIx xs.length 0 lo=0∧HT.sIx xs.length xs.length hi=xs.length
 ·subst e;cases rx
  obtain ⟨its,r,ht,hz⟩:=I.tuple hx;have hlen:its.toArray.size=xs.length:=by rw[yaq];exact r.length.symm
  refine ⟨"tuple",_,PyProof.Rows.slot_tuple_getitem.lookup,ht.typeIs,?_⟩;exact HT.getItem_tuple_all ht hs pl pu (by rw[hlen];exact hw) ⟨.ref a,H,I,rfl,q1 hw⟩
 ·exact zqO pins s σ H x v vl vu lo hi sl Q I rx hs pl pu ⟨a,xs,e,hx,hw,q2 hw⟩
theorem znC {K:Frag}(h:X.K=K:=by rfl):SlR X (rSlX K):=by
 subst h;exact zd2
def zqV (K:Frag):R2:=fun x y H Q=>∃ a b xs ys,x=.ref a∧y=.ref b∧SqT K H a xs∧SqT K H b ys∧ys≠[]∧xs.length+ys.length≤sizeLine∧
 (xs=[]→Q (.ref b) H)∧(xs≠[]→∀ p,H p=none→Q (.ref p) (upd H p (.tup (xs++ys))))
theorem zlZ:OpR X (binaryOp .Add) (zqV X.K):=by
 intro pins s σ H x y v u Q I rx ry h;obtain ⟨a,b,xs,ys,e1,e2,ha,hb,hy,hz,q1,q2⟩:=h;by_cases hx:xs=[]
 ·subst e1 e2;cases rx
  cases ry
  obtain ⟨its,r1,p1,_⟩:=I.tuple ha;obtain ⟨its2,r2,p2,_⟩:=I.tuple hb;obtain ⟨⟨cls,dd,data,sl⟩,ho,hc,n,hd⟩:=id p1;obtain ⟨⟨cls2,dd2,data2,sl2⟩,ho2,hc2,n2,hd2⟩:=id p2;simp only at hc hd hc2 hd2;subst hc hd hc2 hd2;have hv:its=[]:=r1.nil_iff.mpr hx;exact concat_meets ⟨_,ho,rfl⟩ ⟨_,ho2,rfl⟩ noFill_tuple_add seq_tuple_add PySem.F.slot_tuple_add PySem.F.entry_tuple_add (PySem.F.args_tuple_add_2 _ _)
   (tuple_addW0 a b its.toArray its2.toArray n n2 dd dd2 sl sl2 (by simp[hv])) ⟨ho,ho2,.ref b,H,I,rfl,q1 hx⟩
 ·exact zhh pins s σ H x y v u Q I rx ry ⟨a,b,xs,ys,e1,e2,ha,hb,hx,hz,fun z=>absurd z hy,fun _=>q2 hx⟩
end
end L2
namespace L2
open PySem PySem.Spec PyProof.Rows PySem.SeqAt
def hasO (o:Option Int)(v:V):Prop:=match o with
 | none=>v=.non
 | some i=>v=.int i
instance:Rep (Option Int) where
 dec:=inferInstance
 depth:=0
 has:=fun _ _ o v=>hasO o v
 mono:=fun _ h=>h
 inj:=fun {_ _ _ _ _ a b v} _ h1 h2=>by
  cases a <;> cases b
  ·rfl
  ·have h1:v=.non:=h1;have h2:v=.int _:=h2;rw[h1]at h2;cases h2
  ·have h1:v=.int _:=h1;have h2:v=.non:=h2;rw[h1]at h2;cases h2
  ·have h1:v=.int _:=h1;have h2:v=.int _:=h2;rw[V.int.inj (h1.symm.trans h2)]
 rc:=fun {_ _ _ _ _ _ a b x y u v} _ _ h1 h2 r1 r2=>by
  cases a with
  | none=>
   have h1:x=.non:=h1;subst h1;obtain rfl:u=.none:=r1;cases b with
   | none=>
    have h2:y=.non:=h2;subst h2;obtain rfl:v=.none:=r2;exact RcAt.none_none
   | some j=>
    have h2:y=.int j:=h2;subst h2;obtain ⟨t,rfl⟩:=r2;exact RcAt.none_int _ _
  | some i=>
   have h1:x=.int i:=h1;subst h1;obtain ⟨t,rfl⟩:=r1;cases b with
   | none=>
    have h2:y=.non:=h2;subst h2;obtain rfl:v=.none:=r2;exact RcAt.int_none _ _
   | some j=>
    have h2:y=.int j:=h2;subst h2;obtain ⟨t',rfl⟩:=r2;have e:decide (some i=some j)=(i == j):=by
     by_cases z:i=j
     ·subst z;simp
     ·rw[yah (fun q=>z (yad q)),beq_eq_false_iff_ne.mpr z]
    have:=RcAt.int_int (A:=‹Around›) (s:=‹Shared›) i t j t';rw[← e]at this;exact this
 rn:=fun {_ _ _ _ _ _ a b x y u v} _ _ h1 h2 r1 r2=>by
  cases a with
  | none=>
   have h1:x=.non:=h1;subst h1;obtain rfl:u=.none:=r1;cases b with
   | none=>
    have h2:y=.non:=h2;subst h2;obtain rfl:v=.none:=r2;exact RcNeAt.none_none
   | some j=>
    have h2:y=.int j:=h2;subst h2;obtain ⟨t,rfl⟩:=r2;exact RcNeAt.none_int _ _
  | some i=>
   have h1:x=.int i:=h1;subst h1;obtain ⟨t,rfl⟩:=r1;cases b with
   | none=>
    have h2:y=.non:=h2;subst h2;obtain rfl:v=.none:=r2;exact RcNeAt.int_none _ _
   | some j=>
    have h2:y=.int j:=h2;subst h2;obtain ⟨t',rfl⟩:=r2;have e:decide (some i=some j)=(i == j):=by
     by_cases z:i=j
     ·subst z;simp
     ·rw[yah (fun q=>z (yad q)),beq_eq_false_iff_ne.mpr z]
    have:=RcNeAt.int_int (A:=‹Around›) (s:=‹Shared›) i t j t';rw[← e]at this;exact this
 eq:=fun {_ _ _ _ _ _ a b x y u v} _ _ h1 h2 r1 r2=>by
  cases a with
  | none=>
   have h1:x=.non:=h1;subst h1;obtain rfl:u=.none:=r1;cases b with
   | none=>
    have h2:y=.non:=h2;subst h2;obtain rfl:v=.none:=r2;exact EqAt.same _
   | some j=>
    have h2:y=.int j:=h2;subst h2;obtain ⟨t,rfl⟩:=r2;exact EqAt.none_int _ _
  | some i=>
   have h1:x=.int i:=h1;subst h1;obtain ⟨t,rfl⟩:=r1;cases b with
   | none=>
    have h2:y=.non:=h2;subst h2;obtain rfl:v=.none:=r2;exact EqAt.int_none _ _
   | some j=>
    have h2:y=.int j:=h2;subst h2;obtain ⟨t',rfl⟩:=r2;have e:decide (some i=some j)=(i == j):=by
     by_cases z:i=j
     ·subst z;simp
     ·rw[yah (fun q=>z (yad q)),beq_eq_false_iff_ne.mpr z]
    have:=EqAt.int_int (A:=‹Around›) (s:=‹Shared›) i t j t';rw[← e]at this;exact this
structure Tup (α:Type) where
 l:List α
theorem Tup.ext' {α:Type}{a b:Tup α}(h:a.l=b.l):a=b:=by
 cases a
 cases b
 cases h
 rfl
instance {α:Type} [DecidableEq α]:DecidableEq (Tup α):=fun a b=>if h:a.l=b.l then .isTrue (Tup.ext' h) else .isFalse fun z=>h (by rw[z])
def hasT {α:Type}[Rep α](K:Frag)(H:Hp)(t:Tup α)(v:V):Prop:=∃ a xs,v=.ref a∧SqT K H a xs∧zak K H t.l xs
section
variable {α:Type}[r:Rep α]{X:Cx}{pins:List (Addr×Obj)}{σ:St}{H:Hp}{s:Shared}{A:Around}{as bs:Tup α}{x y:V}{u v:Value}
theorem zj4 (I:Inv X pins σ H s)(h1:hasT X.K H as x)(h2:hasT X.K H bs x):as=bs:=by
 obtain ⟨a,xs,rfl,q1,h1⟩:=h1;obtain ⟨b,ys,e,q2,h2⟩:=h2;cases e
 rw[I.tuple_inj q2 q1]at h2;exact Tup.ext' (h1.inj I h2)
theorem zlc {as bs:List α}(n m:Nat)(hn:as.length=n)(hm:bs.length=m):((List.range (min n m)).all (fun j=>decide (as[j]?=bs[j]?)) && n == m)=decide (as=bs):=by
 by_cases hl:as.length=bs.length
 ·have e:=ze9 as bs hl;have z:min n m=as.length:=by omega
  rw[z,e,beq_iff_eq.mpr (by omega:n=m),yci]
 ·rw[yah (fun z=>hl (by rw[z])),beq_eq_false_iff_ne.mpr (by omega:n≠m),Bool.and_false]
theorem zmT:decide (as=bs)=decide (as.l=bs.l):=by
 by_cases h:as.l=bs.l
 ·rw[yae h,yae (Tup.ext' h)]
 ·rw[yah h,yah (fun z=>h (by rw[z]))]
theorem zmF (I:Inv X pins σ H s)(hu:A.units+(Rep.depth α+1) < cLine)(h1:hasT X.K H as x)(h2:hasT X.K H bs y)(r1:RelV x u)(r2:RelV y v):RcAt A s u v (decide (as=bs)):=by
 obtain ⟨a,xs,rfl,q1,h1⟩:=h1;obtain ⟨b,ys,rfl,q2,h2⟩:=h2;cases r1
 cases r2
 obtain ⟨us,ru,pu,_⟩:=I.tuple q1;obtain ⟨vs,rv,pv,_⟩:=I.tuple q2;have l1:=ru.length;have l2:=rv.length;have m1:=h1.length;have m2:=h2.length;have hin:A.in1.units+Rep.depth α < cLine:=yaU (ya6 zbf _) (by omega);have:=RcAt.tuples (A:=A) (s:=s) (l:=a) (b:=b) (items:=us.toArray) (items2:=vs.toArray) (e:=fun j=>decide (as.l[j]?=bs.l[j]?)) pu pv (by omega) (zfH I hin h1 h2 ru rv);rw[zlc (as:=as.l) (bs:=bs.l) us.toArray.size vs.toArray.size (by simp;omega) (by simp;omega),← zmT]at this;exact this
theorem zp7 (I:Inv X pins σ H s)(hu:A.units+(Rep.depth α+1) < cLine)(h1:hasT X.K H as x)(h2:hasT X.K H bs y)(r1:RelV x u)(r2:RelV y v):RcNeAt A s u v (!decide (as=bs)):=by
 obtain ⟨a,xs,rfl,q1,h1⟩:=h1;obtain ⟨b,ys,rfl,q2,h2⟩:=h2;cases r1
 cases r2
 obtain ⟨us,ru,pu,_⟩:=I.tuple q1;obtain ⟨vs,rv,pv,_⟩:=I.tuple q2;have l1:=ru.length;have l2:=rv.length;have m1:=h1.length;have m2:=h2.length;have hin:A.in1.units+Rep.depth α < cLine:=yaU (ya6 zbf _) (by omega);have:=RcNeAt.tuples (A:=A) (s:=s) (l:=a) (b:=b) (items:=us.toArray) (items2:=vs.toArray) (e:=fun j=>decide (as.l[j]?=bs.l[j]?)) pu pv (by omega) (zfH I hin h1 h2 ru rv);rw[zlc (as:=as.l) (bs:=bs.l) us.toArray.size vs.toArray.size (by simp;omega) (by simp;omega),← zmT]at this;exact this
theorem zp8 (I:Inv X pins σ H s)(hu:A.units+(Rep.depth α+1) < cLine)(h1:hasT X.K H as x)(h2:hasT X.K H bs y)(r1:RelV x u)(r2:RelV y v):EqAt A s u v (decide (as=bs)):=by
 have rc:=zmF (A:=A) I hu h1 h2 r1 r2;have h1':=id h1;have h2':=id h2;obtain ⟨a,xs,rfl,q1,h1⟩:=h1;obtain ⟨b,ys,rfl,q2,h2⟩:=h2;cases r1
 cases r2
 by_cases hab:a=b
 ·subst hab;rw[yae (zj4 I h1' h2')];exact EqAt.same _
 ·exact EqAt.of_refs hab rc
end
instance {α:Type} [Rep α]:Rep (Tup α) where
 dec:=inferInstance
 depth:=Rep.depth α+1
 has:=hasT
 mono:=fun e ⟨a,xs,h1,h2,h3⟩=>⟨a,xs,h1,h2.ext e,h3.mono e⟩
 inj:=fun I h1 h2=>zj4 I h1 h2
 rc:=fun I hu h1 h2 r1 r2=>zmF I hu h1 h2 r1 r2
 rn:=fun I hu h1 h2 r1 r2=>zp7 I hu h1 h2 r1 r2
 eq:=fun I hu h1 h2 r1 r2=>zp8 I hu h1 h2 r1 r2
end L2
namespace L2
open PySem PySem.Spec PyProof.Rows
section
variable {X:Cx}
theorem zm6 (hc:X.calm=true):zb1 X (.type "set") (fun xs H Q=>zqU X.K xs H Q∨zqT X.K xs H Q):=zb1.or (zm7 hc) (zm5 hc)
theorem zkT (α:Type)[Rep α][Srt α]:zb1 X (.builtin "sorted") (fun xs H Q=>zo6 α X.K xs H Q∨zo5 α X.K xs H Q):=zb1.or (zdS α) (zkS α)
end
end L2
namespace L2
open PySem PySem.Spec PyProof.Rows PySem.SeqAt
theorem RelV.uniq {x y:V}{u:Value}(h:RelV x u)(g:RelV y u):x=y:=by
 cases x <;> cases y <;> (unfold RelV at h g) <;> (first | (obtain ⟨_,rfl⟩:=h) | subst h) <;> (first | (obtain ⟨_,g⟩:=g;cases g <;> rfl) | (cases g <;> rfl) | rfl)
theorem zhC (its:List Value)(e:Value→Bool):its.toArray.any e=its.any e:=by simp
def rInD (α:Type)[Rep α](K:Frag)(neg:Bool):R2:=fun x y H Q=>∃(p:Addr) (xs:List V) (a:α) (as:List α),y=.ref p∧(SqL K H p xs∨SqT K H p xs)∧Rep.has K H a x∧zak K H as xs∧∀ b:Bool,(b=true↔a∈as)→Q (.bl (if neg then !b else b)) H
section
variable {X:Cx}{α:Type}[Rep α]
theorem zne {pins:List (Addr×Obj)}{σ:St}{H:Hp}{s:Shared}(I:Inv X pins σ H s){a:α}{e:Value→Bool}(he:∀ u,e u=true↔∃ y,RelV y u∧Rep.has X.K H a y):∀{as:List α} {xs:List V} {us:List Value},zak X.K H as xs→Vals xs us→us.any e=decide (a∈as)
 | _,_,_,.nil,.nil=>rfl
 | b::as,x::xs,u::us,.cons h t,.cons r t2=>by
  rw[yba,zne I he t t2];by_cases z:a=b
  ·subst z;rw[(he u).mpr ⟨x,r,h⟩,yae yaL];rfl
  ·have e1:e u=false:=by
    cases c:e u with
    | false=>rfl
    | true=>
     obtain ⟨y,r2,h2⟩:=(he u).mp c;rw[RelV.uniq r2 r]at h2;exact absurd (Rep.inj I h2 h) z
   rw[e1,Bool.false_or];by_cases m:a∈as
   ·rw[yae m,yae (yaA _ m)]
   ·rw[yah m,yah (fun q=>(yak.mp q).elim z m)]
theorem zkC {pins:List (Addr×Obj)}{σ:St}{H:Hp}{s:Shared}{A:Around}(I:Inv X pins σ H s)(hu:A.units+Rep.depth α < cLine){a:α}{x0:V}{v:Value}(ha:Rep.has X.K H a x0)(rv:RelV x0 v){e:Value→Bool}(he:∀ u,e u=true↔∃ y,RelV y u∧Rep.has X.K H a y):∀{as:List α} {xs:List V} {us:List Value},zak X.K H as xs→Vals xs us→∀ u∈us,EqAt A s u v (e u)
 | _,_,_,.nil,.nil=>fun u hu=>by cases hu
 | b::as,x::xs,u::us,.cons h t,.cons r t2=>fun u' hm=>by
  rcases yak.mp hm with z | z
  ·subst z;have q:=Rep.eq (A:=A) I hu h ha r rv;have e2:e u'=(Rep.dec b a).decide:=by
    by_cases c:b=a
    ·have e3:(Rep.dec b a).decide=true:=yae c;rw[e3];exact (he u').mpr ⟨x,r,c ▸ h⟩
    ·have e3:(Rep.dec b a).decide=false:=yah c;rw[e3];cases k:e u' with
     | false=>rfl
     | true=>
      obtain ⟨y,r2,h2⟩:=(he u').mp k;rw[RelV.uniq r2 r]at h2;exact absurd (Rep.inj I h h2) c
   rw[e2];exact q
  ·exact zkC I hu ha rv he t t2 u' z
theorem zo9 (α:Type)[Rep α](hu:X.A.units+Rep.depth (List α) < cLine):OpR X (compareOp .In) (rInD α X.K false):=by
 intro pins s σ H x y v u Q I rx ry h;obtain ⟨p,xs,a,as,rfl,hq,ha,hs,q⟩:=h;cases ry
 have hin:X.A.in1.units+Rep.depth α < cLine:=yaU (ya6 zbf _) (by have e:Rep.depth (List α)=Rep.depth α+1:=rfl;omega);have he:∀ u,(@decide (∃ y,RelV y u∧Rep.has X.K H a y) (Classical.propDecidable _))=true↔∃ y,RelV y u∧Rep.has X.K H a y:=fun u=>by
  exact @decide_eq_true_iff _ (Classical.propDecidable _)
 rcases hq with hq | hq
 ·obtain ⟨its,r,pl,hz⟩:=I.list hq;refine SeqAt.in_listAt _ pl.isList (fun w hw=>zkC I hin ha rx he hs r w (by simpa using hw)) ⟨.bl _,H,I,rfl,?_⟩;rw[zhC,zne I he hs r];exact q _ decide_eq_true_iff
 ·obtain ⟨its,r,pl,hz⟩:=I.tuple hq;refine SeqAt.in_tupleAt _ pl (fun w hw=>zkC I hin ha rx he hs r w (by simpa using hw)) ⟨.bl _,H,I,rfl,?_⟩;rw[zhC,zne I he hs r];exact q _ decide_eq_true_iff
theorem zlX (α:Type)[Rep α](hu:X.A.units+Rep.depth (List α) < cLine):OpR X (compareOp .NotIn) (rInD α X.K true):=by
 intro pins s σ H x y v u Q I rx ry h;obtain ⟨p,xs,a,as,rfl,hq,ha,hs,q⟩:=h;cases ry
 have hin:X.A.in1.units+Rep.depth α < cLine:=yaU (ya6 zbf _) (by have e:Rep.depth (List α)=Rep.depth α+1:=rfl;omega);have he:∀ u,(@decide (∃ y,RelV y u∧Rep.has X.K H a y) (Classical.propDecidable _))=true↔∃ y,RelV y u∧Rep.has X.K H a y:=fun u=>by
  exact @decide_eq_true_iff _ (Classical.propDecidable _)
 rcases hq with hq | hq
 ·obtain ⟨its,r,pl,hz⟩:=I.list hq;refine SeqAt.notIn_listAt _ pl.isList (fun w hw=>zkC I hin ha rx he hs r w (by simpa using hw)) ⟨.bl _,H,I,rfl,?_⟩;rw[zhC,zne I he hs r];exact q _ decide_eq_true_iff
 ·obtain ⟨its,r,pl,hz⟩:=I.tuple hq;refine SeqAt.notIn_tupleAt _ pl (fun w hw=>zkC I hin ha rx he hs r w (by simpa using hw)) ⟨.bl _,H,I,rfl,?_⟩;rw[zhC,zne I he hs r];exact q _ decide_eq_true_iff
end
end L2
namespace L2
open PySem PySem.Spec PyProof.Rows PySem.SeqAt PySem.MeetsSeq
theorem znF (l:Addr)(ws:Array Value)(n:Nat)(x:Value)(e:Value→Bool)(j:Nat)(hj:j < ws.size)(hit:e ws[j]=true)(hz:ws.size≤sizeLine)(k:Nat) :
  ∀ i:Nat,j - i=k→i≤j→(∀ m (hm:m < ws.size),i≤m→m < j→e ws[m]=false)→Meets (Builtin.«list.remove.loop» ⟨[.ref l,x,rawInt i],[]⟩)
   (fun A R s=>s.heap.get? l=some ⟨.type "list",none,.seq ws n,#[]⟩∧(∀ y,y∈ws→EqAt A.in1 s y x (e y))∧R (.ok (.ret .none)) { s with heap:=s.heap.update l (Obj.mapSeq fun xs=>xs.eraseIdxIfInBounds j) }):=by
 induction k with
 | zero=>
  intro i hk hij _ prog w A R s h;obtain ⟨hp,g,d,tk,os⟩:=s;obtain ⟨hl,he,h⟩:=h;obtain rfl:i=j:=by omega
  wp_walk using wpAny_loadPart' hl
  rw[show ws[((i:Nat):Int).toNat]?=some ws[i] by simp[hj]];refine wpAny_bind (he _ (Array.getElem_mem hj) prog w _ _ ?_);rw[hit];have hz':(ws.eraseIdxIfInBounds i).size≤sizeLine+1:=yaw (size_erased ws _) (Nat.le_succ_of_le hz)
  wp_walk using (wpAny_updateSeq hl rfl (hz:=hz) (_hz':=hz')),wpAny_loadPart' hl
  simpa using h
 | succ k ih=>
  intro i hk hij hno prog w A R s h;obtain ⟨hp,g,d,tk,os⟩:=s;obtain ⟨hl,he,h⟩:=h;have il:i < ws.size:=by omega
  wp_walk using wpAny_loadPart' hl
  rw[show ws[((i:Nat):Int).toNat]?=some ws[i] by simp[il]];refine wpAny_bind (he _ (Array.getElem_mem il) prog w _ _ ?_);rw[hno i il (yaa _) (by omega)]
  wp_walk
  rw[show ((i:Int)+1)=((i+1:Nat):Int) by push_cast;rfl];exact ⟨plainId_quiet plain_remove_loop _,codeAny_builtin entry_remove_loop (by rw[Around.under_plainId plain_remove_loop _];exact ih (i+1) (by omega) (by omega) (fun m hm h1=>hno m hm (by omega)) prog w A R _ ⟨hl,he,h⟩)⟩
theorem zhp (l:Addr)(ws:Array Value)(n:Nat)(x:Value)(e:Value→Bool)(j:Nat)(hj:j < ws.size)(hit:e ws[j]=true)(hno:∀ m (hm:m < ws.size),m < j→e ws[m]=false)(hz:ws.size≤sizeLine) :
  Meets (Builtin.«list.remove» ⟨[.ref l,x],[]⟩)
   (fun A R s=>s.heap.get? l=some ⟨.type "list",none,.seq ws n,#[]⟩∧(∀ y,y∈ws→EqAt A.in1 s y x (e y))∧R (.ok (.ret .none)) { s with heap:=s.heap.update l (Obj.mapSeq fun xs=>xs.eraseIdxIfInBounds j) }):=by
 intro prog w A R s h;obtain ⟨hp,g,d,tk,os⟩:=s;obtain ⟨hl,he,h⟩:=h
 wp_walk using wpAny_loadPart' hl
 exact ⟨plainId_quiet plain_remove_loop _,codeAny_builtin entry_remove_loop (by rw[Around.under_plainId plain_remove_loop _];exact znF l ws n x e j hj hit hz _ 0 rfl (yaF _) (fun m hm _=>hno m hm) prog w A R _ ⟨hl,he,h⟩)⟩
section
variable {X:Cx}{α:Type}[Rep α]
def znG (α:Type)[Rep α](K:Frag):V→List V→Hp→VK→Prop:=fun x vs H Q=>∃(l:Addr) (xs:List V) (as:List α) (a:α) (y:V) (k:Nat),x=.ref l∧vs=[y]∧H l=some (.lst xs)∧zak K H as xs∧Rep.has K H a y∧as.length≤1000∧as[k]?=some a∧(∀ j,j < k→as[j]?≠some a)∧Q .non (upd H l (.lst (xs.eraseIdx k)))
theorem zky (α:Type)[Rep α](hu:X.A.units+Rep.depth (List α) < cLine):MtM X "list.remove" (znG α X.K):=by
 intro pins s σ H x vs v us Q I rx rv h;obtain ⟨l,xs,as,a,y,k,rfl,rfl,hH,hs,ha,hz,hk,hlt,q⟩:=h;cases rx
 obtain ⟨u,rfl,ru⟩:=rv.one;have hin:X.A.in1.units+Rep.depth α < cLine:=yaU (ya6 zbf _) (by have e:Rep.depth (List α)=Rep.depth α+1:=rfl;omega);have he:∀ u,(@decide (∃ y,RelV y u∧Rep.has X.K H a y) (Classical.propDecidable _))=true↔∃ y,RelV y u∧Rep.has X.K H a y:=fun u=>by
  exact @decide_eq_true_iff _ (Classical.propDecidable _)
 obtain ⟨z,its,n,r,hl,e⟩:=I.lstM hH;have l1:=r.length;have l2:=hs.length;obtain ⟨hk1,hk2⟩:=yam.mp hk;have at_:∀ j (hj:j < its.length),∃(b:α) (x:V),as[j]?=some b∧RelV x its[j]∧Rep.has X.K H b x:=fun j hj=>by
  obtain ⟨b,e1,h1⟩:=hs.get (i:=j) (yac (by omega));obtain ⟨w,e2,h2⟩:=r.get (i:=j) (yac (by omega));have:its[j]?=some its[j]:=yac hj;rw[e2]at this;exact ⟨b,_,e1,(yad this) ▸ h2,h1⟩
 have sz:its.toArray.size≤sizeLine:=yaw (by rw[yaq];omega) (show 1000≤sizeLine by decide);refine call_meets F.slot_list_remove ⟨_,e,rfl⟩ F.entry_list_remove (F.args_list_remove_2 _ _)
  (zhp l its.toArray n u (fun u=>@decide (∃ y,RelV y u∧Rep.has X.K H a y) (Classical.propDecidable _)) k (by simp;omega) ?_ ?_ sz) ⟨e,fun y hy=>zkC I hin ha ru he hs r y (by simpa using hy),?_⟩
 ·have hj:k < its.length:=by omega
  obtain ⟨b,x,e1,e2,e3⟩:=at_ k hj;rw[hk]at e1;cases e1
  exact (he _).mpr ⟨x,by simpa using e2,e3⟩
 ·intro j hjs hj;have hj':j < its.length:=by simpa using hjs
  obtain ⟨b,x,e1,e2,e3⟩:=at_ j hj';have ne:=hlt j hj;refine yb1.mpr fun c=>?_;obtain ⟨y,r2,h2⟩:=(he _).mp c;have e2':RelV x its.toArray[j]:=by simpa using e2
  rw[RelV.uniq r2 e2']at h2;exact ne (by rw[e1,Rep.inj I e3 h2])
 ·rw[List.eraseIdx_eq_take_drop_succ]at q;refine ⟨.non,_,I.lset (its':=its.take k++its.drop (k+1)) hH e ?_ ((r.take k).append (r.drop (k+1))) ?_,rfl,q⟩
  ·rw[← List.eraseIdx_eq_take_drop_succ];have hk':k < its.length:=by omega
   simp[Array.eraseIdxIfInBounds,hk']
  ·rw[yap,yan,yaM];have:(1000:Nat)≤sizeLine:=by decide
   omega
end
end L2
namespace L2
open PySem PySem.Spec PyProof.Rows
structure zhE (scope:Scope)(ps caps:List Str):Prop where
 kind:scope.kind=.function
 co:scope.isCoroutine=false
 gen:scope.isGenerator=false
 nocell:∀ x∈scope.names,x.2≠.cell
 par:∀ x∈ps,scope.names.lookup x=some .local
 cap:∀ x∈caps,scope.names.lookup x=some .free
 nd:(ps++caps).Nodup
def zoA (P:Program)(w:World)(K:Frag)(mg:Str→Option Value)(base:Heap)(N:List Str)(qual:Str)(scope:Scope)(f:Addr)(cd:Value)(cl:List (Str×Addr))(A:Around)(outer:List Env)(s:Shared)(H:Hp):Cx where
 prog:=P
 w:=w
 K:=K
 mg:=mg
 base:=base
 A:=A.deeper (PySem.W.envX qual scope s.heap.objs.size f cd cl)
 N:=N
 s₀:=s
 H₀:=H
 env:=PySem.W.envX qual scope s.heap.objs.size f cd cl
 outer:=outer
 stack:=PySem.W.envX qual scope s.heap.objs.size f cd cl::outer
 ex:=[]
 calm:=true
 fn:=fun _=>false
 pn:=[]
 xe:=fun _ _=>False
def zm2 (c:Addr)(q:Str):Heap→Prop:=fun h=>h.CodeRec (.ref c) q
def zgn (H:Hp)(c:Addr)(q:Str):Prop:=H c=some (.ext (zm2 c q))
theorem zkR {c:Addr}{q:Str}(h1 h2:Heap)(x:zm2 c q h1)(k:∀ o,h1.get? c=some o→h2.get? c=some o):zm2 c q h2:=by
 obtain ⟨c',o,vs,t,e,ho,r⟩:=x;cases e
 exact ⟨c,o,vs,t,rfl,k o ho,r⟩
theorem zgn.rec {P:Program}{w:World}{H:Hp}{h:Heap}{c:Addr}{q:Str}(x:zgn H c q)(ok:HOk P w H h):h.CodeRec (.ref c) q:=(ok c _ x).1
theorem zgy {x:Str}{u:Value}:∀{ps:List Str} {us:List Value} {i:Nat},ps.Nodup→ps[i]?=some x→us[i]?=some u→(ps.zip us).reverse.lookup x=some u
 | [],_,_,_,e,_=>by simp at e
 | _::_,[],_,_,_,e=>by simp at e
 | p::ps,v::us,0,hn,e1,e2=>by
  have e1:p=x:=by simpa using e1
  have e2:v=u:=by simpa using e2
  subst e1 e2;rw[ycy,ybL,List.lookup_append];have z:(ps.zip us).reverse.lookup p=none:=by
   rw[List.lookup_eq_none_iff];intro y hy;have:=ybT (ybx.mp hy);simp only[beq_eq_false_iff_ne,ne_eq,bne_iff_ne];intro q;rw[yaO]at hn
   first
    | exact hn.1 (q ▸ this.1)
    | (rw[q]at hn;exact hn.1 this.1)
  rw[z];simp
 | p::ps,v::us,i+1,hn,e1,e2=>by
  rw[yaO]at hn;have ih:=zgy (ps:=ps) (us:=us) (i:=i) hn.2 (by simpa using e1) (by simpa using e2);rw[ycy,ybL,List.lookup_append,ih];rfl
def zpt (n:Nat)(tb:TE)(vcs:List V)(c:Addr)(q:Str):Sp:=fun vs H Q _=>vs.length=n∧zgn H c q∧tb (vs.map some++vcs.map some) H Q
theorem zrt {P:Program}{w:World}{K:Frag}{mg:Str→Option Value}{base:Heap}{k:Nat}{f c:Addr}{name qual:Str}{params:Arguments}{body:Expr}{scope:Scope}{cl:List (Str×Addr)}{pm ctv:Value}{ps caps:List Str}{vcs:List V}{tb:TE}
  (S:zhE scope ps caps) (hf:base.get? f=some (PySem.W.kla_obj name qual params body scope cl pm c ctv)) (hlen:vcs.length=caps.length)
  (hcap:∀(j:Nat) (x:Str) (v:V),caps[j]?=some x→vcs[j]?=some v→∃ a u,cl.lookup x=some a∧base.IsCell a (some u)∧RelV v u)
  (hcell:∀ x a,cl.lookup x=some a→∃ v,base.IsCell a v) (hinj:∀ x y a,cl.lookup x=some a→cl.lookup y=some a→x=y) (hhas:∀ x,scope.names.lookup x=some .free→∃ a,cl.lookup x=some a)
  (hb:∀(A:Around) (outer:List Env) (s:Shared) (H:Hp),Room k (A.deeper (PySem.W.envX qual scope s.heap.objs.size f (.ref c) cl))→PE (zoA P w K mg base (ps++caps) qual scope f (.ref c) cl A outer s H) body tb) :
  FnOk P w K mg base CX0 (k+1) f (PySem.W.kla_fn name qual params body scope cl pm (.ref c) ctv) ps (zpt ps.length tb vcs c qual):=by
 refine ⟨fun vs H Q E h=>h.1,fun A outer s H args us vs Q E hr e0 hbind r hsp=>?_⟩;obtain ⟨hl,hc,hq⟩:=hsp;have bk:∀ b o,base.get? b=some o→s.heap.get? b=some o:=fun b o e=>(e0.bs b o e).1;have hul:us.length=ps.length:=by rw[← r.length];exact hl
 refine PySem.W.kla_callFunE hr.depth (bk _ _ hf) rfl S.co S.gen rfl (hc.rec e0.hok) ?_;refine hbind _ _ _ _ ?_;refine wpAny_newFunctionEnv S.nocell (fun y hy=>S.par _ (ybT hy).1) (fun h1 hns hsb=>⟨(e0.mod.nolimit.keeps bk).fresh _ hsb,?_⟩) S.kind;show codeAny _ _ (.expr body (PySem.W.envX qual scope s.heap.objs.size f (.ref c) cl)) _ _;have hk:∀ b o,s.heap.get? b=some o→h1.get? b=some o:=fun b o e=>hsb.extBut b o (yas (yag e)) (yal _ e);have cellK:∀ a v,base.IsCell a v→h1.IsCell a v∧H a=none:=fun a v ⟨o,ho,hd⟩=>⟨⟨o,hk _ _ (bk _ _ ho),hd⟩,(e0.bs _ _ ho).2⟩;have ndps:ps.Nodup:=(ya7.mp S.nd).1;have noA:∀ b:Addr,b∉([]:List Addr):=fun b z=>absurd z (by simp);have I:Inv (zoA P w K mg base (ps++caps) qual scope f (.ref c) cl A outer s H) [] (vs.map some++vcs.map some) H { s with heap:=h1,toks:=s.toks+(ps.zip us).length }:=by
  refine ⟨⟨e0.mod,S.kind,rfl,rfl,yaa _,hinj,fun y hy=>?_,fun y a z _=>(by cases z),fun _=>hr.hd,Around.frames_deeper e0.frames,.inr ⟨rfl,rfl⟩,fun b z=>absurd z (noA b),e0.bs,e0.bsz,fun b _ _=>noA b,fun b z=>absurd z (noA b),e0.funs,e0.frf⟩,
   rfl,e0.bare,Un.kept hk,⟨_,hns,fun i y v h1' h2 h3=>?_⟩,fun y a h=>?_,e0.hok.fresh (yaa _),fun y a h=>?_,fun p hp=>absurd (show p∈([]:List (Addr×Obj)) from hp) (by simp),e0.hok.kept hk,?_⟩
  ·have hy:scope.names.lookup y=some .cell∨scope.names.lookup y=some .free:=hy;rcases hy with hy | hy
   ·exact absurd rfl (S.nocell _ (PySem.mem_of_lookup hy))
   ·exact hhas y hy
  ·have h1':(ps++caps)[i]?=some y:=h1';by_cases hi:i < ps.length
   ·rw[ybl hi]at h1';rw[ybl (by rw[yab];omega),yat]at h2;cases e:vs[i]? with
    | none=>rw[e]at h2;cases h2
    | some v'=>
     rw[e]at h2;cases h2
     obtain ⟨u,hu,ru⟩:=r.get e;exact ⟨u,ru,.inl ⟨S.par y (yaD h1'),zgy ndps h1' hu⟩⟩
   ·rw[ybe (by omega)]at h1';rw[ybe (by rw[yab];omega),yab,yat]at h2;cases e:vcs[i - vs.length]? with
    | none=>rw[e]at h2;cases h2
    | some v'=>
     rw[e]at h2;cases h2
     rw[hl]at e;obtain ⟨a,u,e1,e2,ru⟩:=hcap _ _ _ h1' e;exact ⟨u,ru,.inr ⟨.inr (S.cap y (yaD h1')),a,e1,(cellK _ _ e2).1⟩⟩
  ·obtain ⟨v,z⟩:=hcell y a h;exact ⟨v,(cellK _ _ z).1⟩
  ·obtain ⟨v,z⟩:=hcell y a h;exact (cellK _ _ z).2
  ·show (vs.map some++vcs.map some).length=(ps++caps).length;rw[yap,yap,yab,yab,hl,hlen]
 refine PySem.W.kla_codeExpr (wpAny_mono (hb A outer s H (hr.deeper _) [] _ _ H Q I hq) (fun u s' hu=>?_) fun _ _ z=>(show False from z).elim);obtain ⟨v,H',J,rv,q⟩:=hu;exact ⟨v,H',J.os,J.bare,J.base,J.hok,rv,q⟩
end L2
namespace L2
open PySem PySem.Spec PyProof.Rows
def Gro (Pt:Addr)(H H':Hp):Prop:=∀ b o,b≠Pt→H b=some o→H' b=some o
theorem Gro.refl (Pt:Addr)(H:Hp):Gro Pt H H:=fun _ _ _ h=>h
structure za1 (H:Hp)(Pt:Addr)(pos:Pos)(q:Str):Prop where
 ex:∃ tab:Array Value,H Pt=some (.tbl tab)∧TriplesOk tab.toList∧(codeAmong pos tab.toList=none∨∃ c,codeAmong pos tab.toList=some (.ref c)∧zgn H c q)
theorem za1.ext {H H':Hp}{Pt:Addr}{pos:Pos}{q:Str}(x:za1 H Pt pos q)(e:Ext H H'):za1 H' Pt pos q:=by
 obtain ⟨tab,h1,h2,h3⟩:=x.ex;refine ⟨tab,e _ _ h1 (fun _ z=>nomatch z),h2,?_⟩;rcases h3 with h3 | ⟨c,h3,h4⟩
 ·exact .inl h3
 ·exact .inr ⟨c,h3,e _ _ h4 (fun _ z=>nomatch z)⟩
def BMAt (mg:Str→Option Value)(base:Heap):Prop:=∃ bm o,mg "__builtins__" = some (.ref bm)∧bm≠builtinsNs∧bm≠mainGlobals∧base.get? bm=some o∧o.cls=.type "module"∧o.dict=some builtinsNs∧o.data=.plain
section
variable {X:Cx}{pins:List (Addr×Obj)}{σ:St}{H:Hp}{s:Shared}{params:Arguments}{body:Expr}{scope:Scope}{lpos:Pos}{c Pt:Addr}{Q:Value→Shared→Prop}
theorem zop {c':Addr}{q:Str}{tab more:Array Value}{h':Heap}{tk:Nat}(I:Inv X pins σ H s)(hP:H Pt=some (.tbl tab))(hx:∀ b o,b≠Pt→s.heap.get? b=some o→h'.get? b=some o)(hge:s.heap.objs.size≤c')
  (hrec:h'.CodeRec (.ref c') q) (htb:h'.get? Pt=some (PySem.W.tabObj (tab++more))):Inv X pins σ (upd (upd H Pt (.tbl (tab++more))) c' (.ext (zm2 c' q))) { s with heap:=h',toks:=tk }:=by
 have hfr:H c'=none:=I.hok.fresh hge;have nPc:Pt≠c':=zad hP hfr;have low:∀ b u,H b=some u→b≠c':=fun b u e=>zad e hfr;have lows:∀ b o,s.heap.get? b=some o→b≠c':=fun b o e=>yas (yax (yag e) hge);have nP:∀ b,H b=none→b≠Pt:=fun b n z=>by rw[z,hP]at n;cases n
 refine I.un (t':=tk) ⟨fun b o e n _ _=>hx b o (nP b n) e,fun b o e n _ _=>⟨o.slots,hx b o (nP b n) e⟩,fun b o e n _=>?_,fun b o e _=>?_,fun b xs e=>?_,fun b o u e=>?_,fun b ps e=>?_⟩ fun a o e=>?_
 ·rw[zaf (lows b o e),zaf (nP b n)];exact n
 ·by_cases z:b=Pt
  ·exact ⟨_,by rw[z];exact htb⟩
  ·exact ⟨o,hx b o z e⟩
 ·rw[zaf (low b _ e),zaf (fun z=>by rw[z,hP]at e;cases e)]
  exact e
 ·rw[zaf (low b _ e),zaf (fun z=>by rw[z,hP]at e;cases e)]
  exact e
 ·by_cases z:b=Pt
  ·rw[z,hP]at e;cases e
   exact ⟨more,by rw[z,zaf nPc,zab]⟩
  ·exact ⟨#[],by rw[zaf (low b _ e),zaf z,e];simp⟩
 ·by_cases z:a=c'
  ·subst z;rw[zab]at e;cases e
   obtain ⟨c2,o2,vs,t,e2,ho2,r2⟩:=id hrec;cases e2
   exact ⟨hrec,⟨o2,ho2⟩,fun h1 h2 x k=>zkR h1 h2 x k⟩
  ·rw[zaf z]at e;by_cases y:a=Pt
   ·subst y;rw[zab]at e;cases e
    exact htb
   ·rw[zaf y]at e;refine (I.hok a o e).stay (fun b u hb q=>hx b u ?_ q) (fun b q=>?_) fun b xs q=>?_
    ·rcases hb with rfl | hb
     ·exact y
     ·intro z2;rw[z2,hP]at hb;cases hb
    ·rw[zaf (low b _ q),zaf (fun z2=>by rw[z2,hP]at q;cases q)]
     exact q
    ·rw[zaf (low b _ q),zaf (fun z2=>by rw[z2,hP]at q;cases q)]
     exact q
theorem zog (I:Inv X pins σ H s)(hdef:defaultsOf params X.env=([],[]))(hfr:∀ x,(x,NameKind.free)∈scope.names→(X.env.kindOf x=some .cell∨X.env.kindOf x=some .free))(hcode:X.env.code=.ref c)(hC:codeHdIn X.K c Pt=true)(hBM:BMAt X.mg X.base)
  (hT:za1 H Pt lpos (X.env.qual ++ "<lambda>"))
  (h:∀(f c':Addr) (cl:List (Str×Addr)) (pm ctv:Value) (H':Hp) (s':Shared),zit scope X.env cl→Inv X pins σ H' s'→s'.heap.get? f=some (PySem.W.kla_obj "<lambda>" (X.env.qual ++ "<lambda>") params body scope cl pm c' ctv)→H' f=none→s.heap.objs.size≤f→
   Gro Pt H H'→za1 H' Pt lpos (X.env.qual ++ "<lambda>")→zgn H' c' (X.env.qual ++ "<lambda>")→Q (.ref f) s') :
  wpAny (model X.prog X.w) X.A (eval (.Lambda params body scope lpos) X.env) Q X.xe s:=by
 obtain ⟨cl,hcl⟩:=zgf (scope:=scope) (env:=X.env) fun x hx=>I.ok.has x (hfr x hx);obtain ⟨tab,hP,ht,hor⟩:=hT.ex;have hPo:s.heap.get? Pt=some (PySem.W.tabObj tab):=I.hok Pt _ hP;have C:PySem.W.CodeHd s.heap c Pt:=(PySem.W.codeHd_of_K I.ok.mod.kin hC).keeps I.bk;have hgl:=I.mod.glob.keeps I.bk;have hgP:mainGlobals≠Pt:=fun z=>by
  obtain ⟨o,es,ep,e,_⟩:=I.mod.glob;have:=(I.bs _ _ e).2;rw[z,hP]at this;cases this
 have hb:s.heap.BuiltinsAt X.mg Pt:=by
  obtain ⟨bm,o,b1,b2,b3,b4,b5⟩:=hBM;refine ⟨bm,o,b1,b2,b3,fun z=>?_,I.bk _ _ b4,b5⟩;have:=(I.bs _ _ b4).2;rw[z,hP]at this;cases this
 refine PySem.W.kla_eval hdef ?_;rcases hor with hnone | ⟨c',hsome,hca⟩
 ·refine PySem.W.kla_makeFunction (clos:=cl) hcl.eq I.ok.glob hgl hcode C hPo ht hnone hgP hb fun c' ctv h' tk hx hge hlt hrec htb=>?_;have hx':∀ o2 b o,b≠Pt→s.heap.get? b=some o→(h'.push o2).get? b=some o:=fun o2 b o n e=>yal _ (hx b o n e);have I':=zop (c':=c') (q:=X.env.qual ++ "<lambda>") (tk:=tk) I hP (hx' _) hge (hrec.push (PySem.W.kla_obj "<lambda>" (X.env.qual ++ "<lambda>") params body scope cl ((X.mg "__name__").getD .none) c' ctv)) (yal _ htb);have hsz:s.heap.objs.size≤h'.objs.size:=ya8 (yaU hge hlt);have nPc:Pt≠c':=zad hP (I.hok.fresh hge);have eT:(tab++#[rawInt lpos.line,rawInt lpos.col,.ref c']).toList=tab.toList++[rawInt lpos.line,rawInt lpos.col,.ref c']:=by simp
  have hTI:za1 (upd (upd H Pt (.tbl (tab++#[rawInt lpos.line,rawInt lpos.col,.ref c']))) c' (.ext (zm2 c' (X.env.qual ++ "<lambda>")))) Pt lpos (X.env.qual ++ "<lambda>"):=
   ⟨_,by rw[zaf nPc,zab],by rw[eT];exact TriplesOk_snoc _ _ _ _ ht,.inr ⟨c',by rw[eT];exact codeAmong_snoc _ ht hnone,zab⟩⟩
  refine h h'.objs.size c' cl _ ctv _ _ hcl I' (yaB _ rfl) ?_ hsz ?_ hTI zab
  ·rw[zaf (ybk hlt),zaf (fun z=>?_)]
   ·exact I.hok.fresh hsz
   ·have:=yag hPo;rw[← z]at this;exact absurd this (Nat.not_lt.mpr hsz)
  ·intro b o n e;rw[zaf (zad e (I.hok.fresh hge)),zaf n];exact e
 ·refine PySem.W.kla_makeFunctionHit (clos:=cl) hcl.eq I.ok.glob hgl hcode C hPo ht hsome hb fun ctv h' tk hk hsz=>?_;exact h h'.objs.size c' cl _ ctv H _ hcl (I.kept (t':=tk) fun b o e=>yal _ (hk b o e)) (yaB _ rfl) (I.hok.fresh hsz) hsz (Gro.refl _ _) hT hca
end
end L2
namespace L2
open PySem PySem.Spec PyProof.Rows
def zeG (X:Cx)(s:Shared)(H:Hp):Heap:=PySem.W.hideAll s.heap (trk s.heap H++frs X.stack)
theorem zf9 {h b1 b2:Heap}:∀{l:List Env},h.FunFrames b1 l→(∀ b∈frs l,b2.get? b=none)→h.FunFrames b2 l
 | [],_,_=>trivial
 | env::l,⟨h1,⟨L,o,h2,h3,h4,h5⟩,h6⟩,k=>by
  have m:∀ b∈frs l,b∈frs (env::l):=fun b hb=>by
   unfold frs;rw[ybR,h2];exact yaA _ hb
  refine ⟨h1,⟨L,o,h2,k L ?_,h4,h5⟩,zf9 h6 fun b hb=>k b (m b hb)⟩;unfold frs;rw[ybR,h2];exact yaL
section
variable {X:Cx}{pins:List (Addr×Obj)}{σ:St}{H:Hp}{s:Shared}
theorem ze6 {b:Addr}{o:Obj}(e:s.heap.get? b=some o)(n:H b=none)(hf:b∉frs X.stack):(zeG X s H).get? b=some o:=
 PySem.W.hideAll_get _ e fun hm=>by
  rcases yai.mp hm with z | z
  ·have q:(H b).isSome=true:=(ya5.mp z).2;rw[n]at q;cases q
  ·exact hf z
theorem zh3 {b:Addr}{o:Obj}(e:(zeG X s H).get? b=some o):s.heap.get? b=some o∧H b=none∧b∉frs X.stack:=by
 have e1:=PySem.W.of_hideAll _ e;have hm:b∉trk s.heap H++frs X.stack:=fun z=>by
  unfold zeG at e;rw[PySem.W.hideAll_none _ z]at e;cases e
 rw[yai,not_or]at hm;refine ⟨e1,?_,hm.2⟩;cases q:H b with
 | none=>rfl
 | some u=>exact absurd (ya5.mpr ⟨ybc.mpr (yag e1),by rw[q];rfl⟩) hm.1
theorem zkW (I:Inv X pins σ H s):∀ b o,X.base.get? b=some o→(zeG X s H).get? b=some o:=fun b o e=>by
 obtain ⟨h1,h2⟩:=I.bs b o e;refine ze6 h1 h2 fun z=>?_;have:=(I.stack.mem z).1;rw[e]at this;cases this
theorem zjh (I:Inv X pins σ H s):Env0 X.prog X.w X.K X.mg (zeG X s H) X.A X.stack s H:=by
 have sub:=zkW I;refine ⟨I.ok.frames,⟨I.mod.kin.keeps sub,I.mod.glob.keeps sub,?_,I.mod.nolimit.keeps sub⟩,fun b o e=>⟨(zh3 e).1,(zh3 e).2.1⟩,Nat.le_of_eq (PySem.W.hideAll_size _ _),zf9 I.stack fun b hb=>PySem.W.hideAll_none _ (yaC _ hb),I.stkFree,I.hok,I.bare⟩;obtain ⟨mb,h1,h2⟩:=I.mod.blt;exact ⟨mb,h1.keeps sub,h2⟩
end
structure FV (P:Program)(w:World)(K:Frag)(mg:Str→Option Value)(base:Heap)(k:Nat)(f:Addr)(ps:List Str)(sp:Sp):Prop where
 ex:∃ fd,FnOk P w K mg base CX0 k f fd ps sp∧zdw K fd ps []∧PySem.W.FnAt f base
section
variable {X:Cx}
def zqH (X:Cx)(kr:Nat)(tf:TE)(t:TA):TE:=fun σ H Q=>tf σ H fun x H1=>∃ f k ps sp,x=.ref f∧FV X.prog X.w X.K X.mg X.base k f ps sp∧k≤kr∧t σ H1 fun vs H2=>sp vs H2 Q E0
theorem znP {kr:Nat}{x:Str}{e:Expr}{es:List Expr}{tf:TE}{t:TA}{p pos:Pos}(hr:Room kr X.A)(hf:PE X (.Name x p) tf)(ha:PA X (e::es) t)
  (he:starEach (e::es) X.env=(false,eval e X.env)::starEach es X.env:=by rfl) (hpl:(backTo pos (starEach es X.env)).any (·.1)=false:=by rfl):PE X (.Call (.Name x p) (e::es) [] pos) (zqH X kr tf t):=by
 intro pins s σ H Q I h;refine wpAny_Call_Name_kw (thn (hf pins s σ H _ I h) fun u s1 zq0=>?_);obtain ⟨x1,H1,I1,r1,q1⟩:=zq0;obtain ⟨f,k,ps,sp,rfl,hF,hk,q⟩:=q1;cases r1
 obtain ⟨fd,ok,bd,oc,od,fd2,sl,ho⟩:=hF.ex;refine PySem.W.callWith_F ⟨oc,od,fd2,sl,I1.bk _ _ ho⟩ (thn (ha pos pins s1 σ H1 _ I1 q) fun us s2 zq0=>?_) he hpl;obtain ⟨vs,H2,I2,r,q2⟩:=zq0;refine ⟨⟨oc,od,fd2,sl,I2.bk _ _ ho⟩,?_⟩;exact zjD ok (hr.mono hk) bd .nil zlP I2 r (by rw[yaJ];exact q2)
structure zqx (X:Cx)(params:Arguments)(body:Expr)(scope:Scope)(ps caps:List Str)(cap:List Nat):Prop where
 sc:zhE scope ps caps
 frees:∀ x,(x,NameKind.free)∈scope.names→(X.env.kindOf x=some .cell∨X.env.kindOf x=some .free)
 capAt:∀(j:Nat) (x:Str),caps[j]?=some x→∃ i:Nat,cap[j]?=some i∧X.N[i]?=some x∧(X.env.kindOf x=some .cell∨X.env.kindOf x=some .free)
 dflt:defaultsOf params X.env=([],[])
 binds:∀(cl:List (Str×Addr)) (pm cdv ct:Value) (us:List Value),us.length=ps.length→bindArgs (PySem.W.kla_fn "<lambda>" (X.env.qual ++ "<lambda>") params body scope cl pm cdv ct) ⟨us,[]⟩=pure (ps.zip us)
 own:∀ x,X.fn x=true
theorem zsb {pins:List (Addr×Obj)}{σ:St}{H:Hp}{s:Shared}{params:Arguments}{body:Expr}{scope:Scope}{ps caps:List Str}{cap:List Nat}{f c':Addr}{cl:List (Str×Addr)}{pm ctv:Value}{vcs:List V}{tb:TE}{k n:Nat}(I:Inv X pins σ H s)(L:zqx X params body scope ps caps cap)(hcl:zit scope X.env cl)
  (ho:s.heap.get? f=some (PySem.W.kla_obj "<lambda>" (X.env.qual ++ "<lambda>") params body scope cl pm c' ctv)) (hn:H f=none) (hfr:∀ b∈frs X.stack,b < n) (hge:n≤f)
  (hv:vcs.length=caps.length) (hvs:∀(j i:Nat) (v:V),cap[j]?=some i→vcs[j]?=some v→σ[i]?=some (some v))
  (hb:∀(base:Heap) (f:Addr) (cd:Value) (cl:List (Str×Addr)) (A:Around) (outer:List Env) (s:Shared) (H:Hp),Room k (A.deeper (PySem.W.envX (X.env.qual ++ "<lambda>") scope s.heap.objs.size f cd cl))→PE (zoA X.prog X.w X.K X.mg base (ps++caps) (X.env.qual ++ "<lambda>") scope f cd cl A outer s H) body tb) :
  FV X.prog X.w X.K X.mg (zeG X s H) (k+1) f ps (zpt ps.length tb vcs c' (X.env.qual ++ "<lambda>")):=by
 have nf:f∉frs X.stack:=fun z=>absurd (yax (hfr f z) hge) (ybj _);have hbf:=ze6 (X:=X) ho hn nf;have cellB:∀ x a v,X.env.cells.lookup x=some a→s.heap.IsCell a v→(zeG X s H).IsCell a v:=fun x a v e ⟨o,h1,h2⟩=>by
  refine ⟨o,ze6 h1 (I.freeC x a e) fun z=>?_,h2⟩;rcases yak.mp (I.stkSub a z) with y | y
  ·exact I.cne x a e y
  ·obtain ⟨_,o2,h3,_⟩:=I.ok.funs.mem y;exact absurd (yax (yag h3) (I.ok.cab x a (L.own x) e)) (ybj _)
 refine ⟨_,zrt L.sc hbf hv (fun j x v h1 h2=>?_) (fun x a e=>?_) (fun x y a h1 h2=>I.ok.inj x y a (hcl.sub x a h1) (hcl.sub y a h2)) (fun x e=>?_) (fun A outer s H hr=>hb _ f _ cl A outer s H hr),.all (L.binds cl pm (.ref c') ctv),⟨_,_,_,_,hbf⟩⟩
 ·obtain ⟨i,e1,e2,e3⟩:=L.capAt j x h1;obtain ⟨m,hm,hl⟩:=I.loc;obtain ⟨u,ru,lk⟩:=hl i x v e2 (hvs j i v e1 h2) (by
   rcases e3 with z | z
   ·exact .inr (.inl z)
   ·exact .inr (.inr z))
  rcases lk with ⟨z,_⟩ | ⟨_,a,e4,e5⟩
  ·rcases e3 with y | y
   ·rw[y]at z;cases z
   ·rw[y]at z;cases z
  ·obtain ⟨a',e6⟩:=hcl.has x (PySem.mem_of_lookup (L.sc.cap x (yaD h1)));have e7:=hcl.sub x a' e6;rw[e4]at e7;cases e7
   exact ⟨a,u,e6,cellB x a _ e4 e5,ru⟩
 ·obtain ⟨v,z⟩:=I.cell x a (hcl.sub x a e);exact ⟨v,cellB x a v (hcl.sub x a e) z⟩
 ·exact hcl.has x (PySem.mem_of_lookup e)
def znw (X:Cx)(n kf:Nat)(ps:List Str)(cap:List Nat)(Pt:Addr)(lpos:Pos)(tb te:TE)(spH:Heap→Sp):TE:=fun σ H Q=>te σ H fun x1 H1=>za1 H1 Pt lpos (X.env.qual ++ "<lambda>")∧∃ vcs:List V,vcs.length=n∧(∀(j i:Nat) (v:V),cap[j]?=some i→vcs[j]?=some v→σ[i]?=some (some v))∧
 ∀(base:Heap) (f c':Addr) (H2:Hp),Gro Pt H1 H2→za1 H2 Pt lpos (X.env.qual ++ "<lambda>")→zgn H2 c' (X.env.qual ++ "<lambda>")→FV X.prog X.w X.K X.mg base kf f ps (zpt ps.length tb vcs c' (X.env.qual ++ "<lambda>"))→spH base [x1,.ref f] H2 Q E0
theorem zkq {x q1 q2:Str}{e1:Expr}{params:Arguments}{body:Expr}{scope:Scope}{lpos p pos:Pos}{te tb:TE}{spH:Heap→Sp}{j k kf:Nat}{c Pt:Addr}{ps caps:List Str}{cap:List Nat}
  (F:∀ base,FC X.prog X.w X.K X.mg base j x [q1,q2] (spH base)) (hr:Room k X.A) (h1:PE X e1 te) (L:zqx X params body scope ps caps cap) (hcode:X.env.code=.ref c) (hC:codeHdIn X.K c Pt=true) (hBM:BMAt X.mg X.base)
  (hb:∀(base:Heap) (f:Addr) (cd:Value) (cl:List (Str×Addr)) (A:Around) (outer:List Env) (s:Shared) (H:Hp),Room kf (A.deeper (PySem.W.envX (X.env.qual ++ "<lambda>") scope s.heap.objs.size f cd cl))→PE (zoA X.prog X.w X.K X.mg base (ps++caps) (X.env.qual ++ "<lambda>") scope f cd cl A outer s H) body tb)
  (hjk:j≤k:=by decide) (hg:Gl X x:=by rfl) (hdb:(x == ("__debug__" : Str))=false:=by decide) (he:starEach [e1,.Lambda params body scope lpos] X.env=(false,eval e1 X.env)::starEach [.Lambda params body scope lpos] X.env:=by rfl)
  (he2:starEach [.Lambda params body scope lpos] X.env=[(false,eval (.Lambda params body scope lpos) X.env)]:=by rfl) (hpl:(backTo pos (starEach [.Lambda params body scope lpos] X.env)).any (·.1)=false:=by rfl) :
  PE X (.Call (.Name x p) [e1,.Lambda params body scope lpos] [] pos) (znw X caps.length (kf+1) ps cap Pt lpos tb te spH):=by
 intro pins s σ H Q I h;obtain ⟨g,fd,_,_,kp,m,oc,od,osl,lk⟩:=(F X.base).ex;refine wpAny_Call_Name_kw (zhr I hg m ?_ hdb);refine PySem.W.callWith_K (h₀:=X.base) I.ok.mod.kin kp ?_ he hpl;rw[he];show wpAny _ _ (spliced ((false,eval e1 X.env)::backTo pos (starEach [.Lambda params body scope lpos] X.env))) _ _ s;refine Calls.spliced_cons (thn (h1 pins s σ H _ I h) fun u s1 zq0=>?_);obtain ⟨x1,H1,I1,r1,q1⟩:=zq0;obtain ⟨hT,vcs,hv,hvs,q⟩:=q1;rw[he2];show wpAny _ _ (spliced ((false,eval (.Lambda params body scope lpos) X.env)::[])) _ _ s1;refine Calls.spliced_cons (zog I1 L.dflt L.frees hcode hC hBM hT fun f c' cl pm ctv H2 s2 hcl I2 ho hn hge hgr hT2 hca=>?_);refine Calls.spliced_nil ⟨I2.kIn,?_⟩;have hF:=zsb (k:=kf) (n:=s1.heap.objs.size) I2 L hcl ho hn (fun b hb=>by
  obtain ⟨_,o,e,_⟩:=I1.stack.mem hb;exact yag e) hge hv hvs hb
 have hsp:=q (zeG X s2 H2) f c' H2 hgr hT2 hca hF;obtain ⟨g2,fd2,ok,bd,_,m2,_⟩:=(F (zeG X s2 H2)).ex;rw[m]at m2;cases m2
 have r2:Vals [x1,.ref f] [u,.ref f]:=.cons r1 (.cons rfl .nil);refine wpAny_call (codeAny_mono (ok.run X.A X.stack s2 H2 ⟨[u,.ref f],[]⟩ [u,.ref f] [x1,.ref f] Q E0 (hr.mono hjk) (zjh I2) (bd s2 [u,.ref f] I2.kIn rfl) r2 hsp) fun r s' hq=>?_);cases r with
 | error e=>exact False.elim hq
 | ok fl=>
  cases fl with
  | ret u=>exact I2.after hq
  | next=>exact False.elim hq
  | brk=>exact False.elim hq
  | cont=>exact False.elim hq
end
end L2
namespace L2
open PySem PySem.Spec PyProof.Rows
theorem zmp {P:Program}{w:World}{K:Frag}{mg mb:Str→Option Value}{CX:CXT}{k:Nat}{fa a:Addr}{fd:FuncData}{x:Str}{sp:Sp}{s₁:Shared}{vs:List Value}{ns:List Int}{tabs:List (Addr×Addr)}
  (KX:K.In s₁.heap) (hns:s₁.heap.Ns mainGlobals mg) (hb:s₁.heap.Ns builtinsNs mb) (hbb:∀ x:Str,x ≠ "__name__"→mb x=bootBuiltins x) (hlim:s₁.heap.NoLimit) (hg:s₁.gens=#[]) (hBM:BMAt mg s₁.heap)
  (hT:PySem.W.TabsAt tabs s₁.heap) (hKT:∀ q∈tabs,K.lookup q.2=none)
  (ha:s₁.heap.get? a=some { cls:=.type "list",data:=.seq vs.toArray }) (hi:IntsAre vs ns) (hl:ns.length≤sizeLine) (hr:Room k callerA)
  (F:∀ base:Heap,K.In base→base.Ns mainGlobals mg→BMAt mg base→FnOk P w K mg base CX k fa fd [x] sp) (hbind:∀(s:Shared) (u:Value),BindsTo s fd ⟨[u],[]⟩ [(x,u)])
  (hsp:∀ H:Hp,(∀ q∈tabs,H q.2=some (.tbl #[]))→SqL K H a (ns.map V.int)→sp [.ref a] H (fun v _=>v=.bl true) fun _ _ _=>False)
  (hCX:∀ H e s',CX [] H s₁ (fun _ _ _=>False) e s'→False) :
  codeAny (model P w) callerA (.call (.ref fa) ⟨[.ref a],[]⟩) (fun r s'=>r=.ok (.ret (.bool true))∧OldK s₁.heap s'.heap∧s'.os=s₁.os∧AllBare s'.gens) s₁:=by
 have rv:=zhH hi;have lenV:=hi.length;have tabO:∀ b,b∈tabs.map (·.2)→s₁.heap.get? b=some (PySem.W.tabObj #[])∧isCodeTable s₁.heap b∧K.lookup b=none:=fun b hm=>by
  obtain ⟨q,hq,rfl⟩:=yaE.mp hm;exact ⟨(hT q hq).2,((hT q hq).1.tab (hT q hq).2).isCodeTable,hKT q hq⟩
 have nat:a∉tabs.map (·.2):=fun z=>by
  have:=(tabO a z).1;rw[ha]at this;cases this
 have core:∀ Hs:Hp,(∀ b,Hs b=none∨(b=a∧Hs b=some (.frz { cls:=.type "list",data:=.seq vs.toArray } (.lst (ns.map V.int)))))→(∀ H:Hp,(∀ b,b∉tabs.map (·.2)→H b=Hs b)→SqL K H a (ns.map V.int))→(Hs a≠none→K.lookup a=none)→
   codeAny (model P w) callerA (.call (.ref fa) ⟨[.ref a],[]⟩) (fun r s'=>r=.ok (.ret (.bool true))∧OldK s₁.heap s'.heap∧s'.os=s₁.os∧AllBare s'.gens) s₁:=by
  intro Hs hO hS hK;obtain ⟨H,hH⟩:∃ H:Hp,H=fun b=>if b∈tabs.map (·.2) then some (.tbl #[]) else Hs b:=⟨_,rfl⟩
  have H1:∀ b,b∈tabs.map (·.2)→H b=some (.tbl #[]):=fun b z=>by rw[hH];exact if_pos z
  have H2:∀ b,b∉tabs.map (·.2)→H b=Hs b:=fun b z=>by rw[hH];exact if_neg z
  have cases3:∀ b,H b=none∨(b=a∧H b=some (.frz { cls:=.type "list",data:=.seq vs.toArray } (.lst (ns.map V.int))))∨(b∈tabs.map (·.2)∧H b=some (.tbl #[])):=fun b=>by
   by_cases z:b∈tabs.map (·.2)
   ·exact .inr (.inr ⟨z,H1 b z⟩)
   ·rcases hO b with y | ⟨y1,y2⟩
    ·exact .inl ((H2 b z).trans y)
    ·exact .inr (.inl ⟨y1,(H2 b z).trans y2⟩)
  have hok:HOk P w H s₁.heap:=fun b u e=>by
   rcases cases3 b with y | ⟨y1,y2⟩ | ⟨y1,y2⟩
   ·rw[y]at e;cases e
   ·rw[y2]at e;cases e
    subst y1;exact ⟨ha,by rw[yab];exact hl,vs,_,rv,ha⟩
   ·rw[y2]at e;cases e
    exact (tabO b y1).1
  have base_of:∀{b:Addr} {o:Obj},s₁.heap.get? b=some o→H b=none→(hidT s₁.heap H).get? b=some o:=fun e n=>zom e n;have noD:∀{b:Addr} {o:Obj},s₁.heap.get? b=some o→(∀ xs n,o.data≠.seq xs n)→(∀ xs,o.data≠.fields xs)→H b=none:=fun {b o} e d1 d2=>by
   rcases cases3 b with y | ⟨y1,y2⟩ | ⟨y1,y2⟩
   ·exact y
   ·subst y1;rw[ha]at e;cases e
    exact absurd rfl (d1 _ _)
   ·rw[(tabO b y1).1]at e;cases e
    exact absurd rfl (d2 _)
  have nsK:∀{b:Addr} {m:Str→Option Value},s₁.heap.Ns b m→(hidT s₁.heap H).Ns b m:=fun {b m} ⟨o,es,ep,e,d,r⟩=>⟨o,es,ep,base_of e (noD e (fun _ _ z=>by rw[d]at z;cases z) (fun _ z=>by rw[d]at z;cases z)),d,r⟩
  have hKb:K.In (hidT s₁.heap H):=fun b o e=>base_of (KX b o e) (by
   rcases cases3 b with y | ⟨y1,y2⟩ | ⟨y1,y2⟩
   ·exact y
   ·subst y1;rw[hK (by rw[← H2 b nat,y2];exact fun z=>nomatch z)]at e;cases e
   ·rw[(tabO b y1).2.2]at e;cases e)
  have hM:Mod K mg (hidT s₁.heap H):=⟨hKb,nsK hns,⟨mb,nsK hb,hbb⟩,let ⟨mc,h1,h2⟩:=hlim;⟨mc,nsK h1,h2⟩⟩;have hBMb:BMAt mg (hidT s₁.heap H):=by
   obtain ⟨bm,o,b1,b2,b3,b4,b5,b6,b7⟩:=hBM;exact ⟨bm,o,b1,b2,b3,base_of b4 (noD b4 (fun _ _ z=>by rw[b7]at z;cases z) (fun _ z=>by rw[b7]at z;cases z)),b5,b6,b7⟩
  have e0:Env0 P w K mg (hidT s₁.heap H) callerA [] s₁ H:=⟨rfl,hM,fun b o e=>zpX e,Nat.le_of_eq (zmD _ _),trivial,fun b hb=>absurd (show b∈([]:List Addr) from hb) (by simp),hok,.of_eq hg⟩;refine codeAny_mono ((F _ hKb (nsK hns) hBMb).run callerA [] s₁ H ⟨[.ref a],[]⟩ [.ref a] [.ref a] _ _ hr e0 (hbind s₁ (.ref a)) (.cons rfl .nil) (hsp H (fun q hq=>H1 _ (List.mem_map_of_mem hq)) (hS H H2))) fun r s' h=>?_;cases r with
  | error e=>exact (hCX H e s' h).elim
  | ok fl=>
   cases fl with
   | next=>exact False.elim h
   | brk=>exact False.elim h
   | cont=>exact False.elim h
   | ret u=>
    obtain ⟨v,H',os,bare,un,hok',r',q⟩:=h;have q':v=.bl true:=q;subst q';obtain rfl:u=Value.bool true:=r';have keep:∀ b o,H b=none→s₁.heap.get? b=some o→s'.heap.get? b=some o:=fun b o n e=>un.keep b o e n (by intro z;exact absurd (show b∈([]:List Addr) from z) (by simp)) (by simp);have frz:∀ b o,b=a→H b=some (.frz { cls:=.type "list",data:=.seq vs.toArray } (.lst (ns.map V.int)))→s₁.heap.get? b=some o→s'.heap.get? b=some o:=fun b o y1 y2 e=>by
     obtain ⟨e1,_⟩:=hok b _ y2;obtain ⟨e2,_⟩:=hok' b _ (un.frzs b _ _ y2);rw[e]at e1;cases e1
     exact e2
    have tbl:∀ b,H b=some (.tbl #[])→∃ ps,s'.heap.get? b=some (PySem.W.tabObj ps):=fun b y=>by
     obtain ⟨more,e⟩:=un.tbls b _ y;exact ⟨_,hok' b _ e⟩
    refine ⟨rfl,⟨fun b o e=>?_,fun b o e=>?_⟩,os,bare⟩
    ·rcases cases3 b with y | ⟨y1,y2⟩ | ⟨y1,y2⟩
     ·exact .inl (keep b o y e)
     ·exact .inl (frz b o y1 y2 e)
     ·obtain ⟨ps,hp⟩:=tbl b y2;obtain ⟨t1,t2,_⟩:=tabO b y1;rw[e]at t1;cases t1
      exact .inr (.inl ⟨t2,rfl,#[],ps,rfl,by rw[Array.empty_append];exact hp⟩)
    ·rcases cases3 b with y | ⟨y1,y2⟩ | ⟨y1,y2⟩
     ·exact ⟨o,keep b o y e⟩
     ·exact ⟨o,frz b o y1 y2 e⟩
     ·obtain ⟨ps,hp⟩:=tbl b y2;exact ⟨_,hp⟩
 cases hk:K.lookup a with
 | some o=>
  have e:=KX a o hk;rw[ha]at e;cases e
  exact core (fun _=>none) (fun _=>.inl rfl) (fun H _=>.inr ⟨_,vs.toArray,_,hk,rfl,rfl,rfl,by rw[yaq,lenV];exact hl,by simpa using rv⟩) fun z=>absurd rfl z
 | none=>
  refine core (fun b=>if b=a then some (.frz { cls:=.type "list",data:=.seq vs.toArray } (.lst (ns.map V.int))) else none) (fun b=>?_) (fun H h=>.inl (.inr ⟨{ cls:=.type "list",data:=.seq vs.toArray },by rw[h a nat];exact if_pos rfl⟩)) fun _=>hk
  by_cases z:b=a
  ·exact .inr ⟨z,if_pos z⟩
  ·exact .inl (if_neg z)
theorem znk {l:OpenLaw}{n k:Nat}{q:Program}{loose:List Str}{XP:(Str→Option Value)→Heap→Prop}{YP:World→Heap→Prop}{d:DefRec}{K:Params→Frag}{sp:World→Sp}{x:Str}{tabs:List (Addr×Addr)}
  (hn:l.most=some n) (hn2:n≤sizeLine) (hdf:d.params.defaults=[]) (hr:Room k callerA)
  (hY:∀(w:World) (h:Heap),YP w h→(K w.params).In h) (hYT:∀(w:World) (h:Heap),YP w h→∀ q∈tabs,h.get? q.2=some (PySem.W.tabObj #[]))
  (hC:∀(w:World),∀ q∈tabs,codeHdIn (K w.params) q.1 q.2=true∧(K w.params).lookup q.2=none)
  (F:∀(w:World) (mg:Str→Option Value) (fa:Addr) (h:Heap),(K w.params).In h→h.Ns mainGlobals mg→mg d.name=some (.ref fa)→
   ∃ fd:FuncData,(∀(s:Shared) (u:Value),BindsTo s fd ⟨[u],[]⟩ [(x,u)])∧
    ∀ base:Heap,(K w.params).In base→base.Ns mainGlobals mg→BMAt mg base→FnOk l.prog w (K w.params) mg base CX0 k fa fd [x] (sp w))
  (hsp:∀(w:World) (H:Hp) (a:Addr) (ns:List Int),ns.length≤n→(∀ q∈tabs,H q.2=some (.tbl #[]))→SqL (K w.params) H a (ns.map V.int)→sp w [.ref a] H (fun v _=>v=.bl true) fun _ _ _=>False) :
  PySem.W.WalkO q loose XP YP l.row.toRowW d [] (fun f vs=>PySem.call f vs):=by
 refine Att.attach_call hn hdf fun w s₀ s₁ mg mb fa o pm cd doc a vs ns G Y ho hd hcd hmg hobj hints hlen hg=>?_;have KX:=hY w _ Y;obtain ⟨fd,hb,hF⟩:=F w mg fa _ KX G.T.g hmg;have hBM:BMAt mg s₁.heap:=by
  obtain ⟨bm,ob,b1,b2,b3,b4,b5,b6⟩:=G.T.bmain;refine ⟨bm,ob,b1,b2,fun z=>?_,b3,b4,b5,b6⟩;obtain ⟨o,es,ep,e,hd,_⟩:=G.T.g;rw[z,e]at b3;cases b3
  rw[hd]at b6;cases b6
 exact zmp (tabs:=tabs) KX G.T.g G.T.b G.T.builtins G.T.nolimit hg hBM (fun q hq=>⟨PySem.W.codeHd_of_K KX (hC w q hq).1,hYT w _ Y q hq⟩) (fun q hq=>(hC w q hq).2) hobj hints (yaw hlen hn2) hr hF hb (fun H hO hS=>hsp w H a ns hlen hO hS) fun H e s' z=>z
structure DFT (K:Frag)(mg:Str→Option Value)(x:Str)(st:Stmt)(ps:List Str)(c Pt:Addr):Prop where
 ex:∃(f:Addr) (oc:Value) (od:Option Addr) (kV dc pm:Value) (an:Option Addr) (ct:Value) (osl:Array (Option Value)),K.lookup f=some ⟨oc,od,.func (fnOf x x (zbK st) (za8 st) (zag st) .none kV dc pm an (.ref c) ct),osl⟩∧
  codeIn K (.ref c) x=true∧keepIn K (.ref f)=true∧mg x=some (.ref f)∧zdw K (fnOf x x (zbK st) (za8 st) (zag st) .none kV dc pm an (.ref c) ct) ps []
 hd:codeHdIn K c Pt=true
theorem DFT.ok {P:Program}{w:World}{K:Frag}{mg:Str→Option Value}{base:Heap}{x:Str}{st:Stmt}{N ps:List Str}{k:Nat}{sp:Sp}{c Pt:Addr}(D:DFT K mg x st ps c Pt)(S:zao N ps (zag st))(len:∀ vs H Q E,sp vs H Q E→vs.length=ps.length)
  (hbody:∀(f:Addr) (A:Around) (outer:List Env) (s:Shared) (H:Hp) (vs:List V) (Q:VK) (E:XK),Room k (A.deeper (envOfC x (zag st) s.heap.objs.size f (.ref c)))→sp vs H Q E→
   ∃ t,PSs (cxOf CX0 P w K mg base N x (zag st) f (.ref c) A outer s H E).nox (za8 st) t∧t { nx:=fun _ H'=>Q .non H',rt:=Q } (zdf N vs) H):FC P w K mg base (k+1) x ps sp:=by
 obtain ⟨f,oc,od,kV,dc,pm,an,ct,osl,lk,hcd,kp,m,bd⟩:=D.ex;refine ⟨f,_,zrG lk hcd S len fun A outer s H vs Q E hr hsp=>?_,bd,kp,m,oc,od,osl,lk⟩;obtain ⟨t,h,q⟩:=hbody f A outer s H vs Q E hr hsp;exact ⟨t,h.nox,q⟩
theorem znu {K:Frag}{x:Str}{c Pt f:Addr}{oc:Value}{od:Option Addr}{fd:FuncData}{sl:Array (Option Value)}(a:nsIn K mainGlobals x=some (some (.ref f)))(l:K.lookup f=some ⟨oc,od,.func fd,sl⟩)(t:tabIn K x=some (c,Pt)):fd.code=.ref c:=by
 unfold tabIn at t;rw[a]at t;dsimp only at t;rw[l]at t;dsimp only at t;split at t
 ·rename_i c2 hc;split at t
  ·split at t
   ·cases t
    exact hc
   ·cases t
  ·cases t
 ·cases t
end L2
namespace L2
open PySem PySem.Spec PyProof.Rows
theorem zru {X:Cx}{params:Arguments}{body:Expr}{scope osc:Scope}{N ps caps:List Str}{cap:List Nat}(sc:zhE scope ps caps)
  (h1:∀ p∈scope.names,p.2=NameKind.free→osc.names.lookup p.1=some NameKind.cell) (h2:∀ p∈caps.zip cap,N[p.2]?=some p.1∧osc.names.lookup p.1=some NameKind.cell) (hl:caps.length=cap.length)
  (ho:X.env.scope=osc) (hN:X.N=N) (d:defaultsOf params X.env=([],[]))
  (b:∀(cl:List (Str×Addr)) (pm cdv ct:Value) (us:List Value),us.length=ps.length→bindArgs (PySem.W.kla_fn "<lambda>" (X.env.qual ++ "<lambda>") params body scope cl pm cdv ct) ⟨us,[]⟩=pure (ps.zip us))
  (o:∀ x,X.fn x=true):zqx X params body scope ps caps cap:=by
 have hk:∀ x,X.env.kindOf x=osc.names.lookup x:=fun x=>by
  unfold Env.kindOf;rw[ho]
 refine ⟨sc,fun x hx=>.inl ?_,fun j x hj=>?_,d,b,o⟩
 ·rw[hk];exact h1 (x,.free) hx rfl
 ·have hj':=(yam.mp hj).1;have hc:cap[j]?=some (cap[j]'(by omega)):=yac _;have hz:(caps.zip cap)[j]?=some (x,cap[j]'(by omega)):=by
   rw[List.getElem?_zip_eq_some];exact ⟨hj,hc⟩
  obtain ⟨a1,a2⟩:=h2 _ (yaD hz);refine ⟨_,hc,?_,.inl ?_⟩
  ·rw[hN];exact a1
  ·rw[hk];exact a2
end L2
namespace L2
open PySem PySem.Spec PyProof.Rows PySem.SeqAt
structure Tri (α β γ:Type) where
 a:α
 b:β
 c:γ
theorem Tri.ext' {α β γ:Type}:∀{p q:Tri α β γ},p.a=q.a→p.b=q.b→p.c=q.c→p=q
 | ⟨_,_,_⟩,⟨_,_,_⟩,rfl,rfl,rfl=>rfl
instance {α β γ:Type} [DecidableEq α] [DecidableEq β] [DecidableEq γ]:DecidableEq (Tri α β γ):=fun p q=>
 if h1:p.a=q.a then if h2:p.b=q.b then if h3:p.c=q.c then .isTrue (Tri.ext' h1 h2 h3) else .isFalse fun z=>h3 (by rw[z]) else .isFalse fun z=>h2 (by rw[z]) else .isFalse fun z=>h1 (by rw[z])
theorem znl {x y z:V}{us:List Value}(r:Vals [x,y,z] us):∃ u v w,us=[u,v,w]∧RelV x u∧RelV y v∧RelV z w:=by
 cases r with
 | cons r1 r=>
  cases r with
  | cons r2 r=>
   cases r with
   | cons r3 r=>
    cases r
    exact ⟨_,_,_,rfl,r1,r2,r3⟩
def has3 {α β γ:Type}[Rep α][Rep β][Rep γ](K:Frag)(H:Hp)(p:Tri α β γ)(v:V):Prop:=∃ a x y z,v=.ref a∧H a=some (.tup [x,y,z])∧Rep.has K H p.a x∧Rep.has K H p.b y∧Rep.has K H p.c z
section
variable {α β γ:Type}[ra:Rep α][rb:Rep β][rc:Rep γ]{X:Cx}{pins:List (Addr×Obj)}{σ:St}{H:Hp}{s:Shared}{A:Around}{p q:Tri α β γ}{x y:V}{u v:Value}
theorem zj6 (I:Inv X pins σ H s)(h1:has3 X.K H p x)(h2:has3 X.K H q x):p=q:=by
 obtain ⟨a,x1,x2,x3,rfl,q1,e1,e2,e3⟩:=h1;obtain ⟨b,y1,y2,y3,e,q2,f1,f2,f3⟩:=h2;cases e
 have z:=I.tuple_inj (SqT.of q2) (SqT.of q1);cases z
 exact Tri.ext' (Rep.inj I e1 f1) (Rep.inj I e2 f2) (Rep.inj I e3 f3)
theorem zlg {p q:Tri α β γ}:((List.range (min 3 3)).all (fun j=>if j=0 then (Rep.dec p.a q.a).decide else if j=1 then (Rep.dec p.b q.b).decide else (Rep.dec p.c q.c).decide) && (3 == 3))=decide (p=q):=by
 rw[show List.range (min 3 3)=[0,1,2] from rfl];simp only[ybV,List.all_nil,yci,if_true,beq_self_eq_true];rw[if_neg (by decide),if_neg (by decide),if_neg (by decide)];have e1:(Rep.dec p.a q.a).decide=decide (p.a=q.a):=rfl;have e2:(Rep.dec p.b q.b).decide=decide (p.b=q.b):=rfl;have e3:(Rep.dec p.c q.c).decide=decide (p.c=q.c):=rfl;rw[e1,e2,e3];by_cases z1:p.a=q.a
 ·by_cases z2:p.b=q.b
  ·by_cases z3:p.c=q.c
   ·rw[yae z1,yae z2,yae z3,yae (Tri.ext' z1 z2 z3)];rfl
   ·have n:¬ p=q:=fun z=>z3 (by rw[z]);rw[yah z3,yah n];simp
  ·have n:¬ p=q:=fun z=>z2 (by rw[z]);rw[yah z2,yah n];simp
 ·have n:¬ p=q:=fun z=>z1 (by rw[z]);rw[yah z1,yah n];simp
theorem zhK (I:Inv X pins σ H s){B:Around}{x1 x2 x3 y1 y2 y3:V}{u1 u2 u3 v1 v2 v3:Value}(hin:∀ n,n≤Rep.depth α+Rep.depth β+Rep.depth γ→B.units+n < cLine)
  (e1:Rep.has X.K H p.a x1) (e2:Rep.has X.K H p.b x2) (e3:Rep.has X.K H p.c x3) (f1:Rep.has X.K H q.a y1) (f2:Rep.has X.K H q.b y2) (f3:Rep.has X.K H q.c y3) (r1:RelV x1 u1) (r2:RelV x2 u2) (r3:RelV x3 u3) (t1:RelV y1 v1) (t2:RelV y2 v2) (t3:RelV y3 v3) :
  ∀ j (h1:j < (#[u1,u2,u3]:Array Value).size) (h2:j < (#[v1,v2,v3]:Array Value).size),EqAt B s (#[u1,u2,u3]:Array Value)[j] (#[v1,v2,v3]:Array Value)[j] (if j=0 then (Rep.dec p.a q.a).decide else if j=1 then (Rep.dec p.b q.b).decide else (Rep.dec p.c q.c).decide):=by
 have c1:=Rep.eq (A:=B) I (hin _ (by omega)) e1 f1 r1 t1;have c2:=Rep.eq (A:=B) I (hin _ (by omega)) e2 f2 r2 t2;have c3:=Rep.eq (A:=B) I (hin _ (by omega)) e3 f3 r3 t3;intro j h1 h2;have h1':j < 3:=h1;have z:j=0∨j=1∨j=2:=by omega
 rcases z with rfl | rfl | rfl
 ·exact c1
 ·exact c2
 ·exact c3
theorem zmI (I:Inv X pins σ H s)(hu:A.units+(Rep.depth α+Rep.depth β+Rep.depth γ+1) < cLine)(h1:has3 X.K H p x)(h2:has3 X.K H q y)(r1:RelV x u)(r2:RelV y v):RcAt A s u v (decide (p=q)):=by
 obtain ⟨a,x1,x2,x3,rfl,q1,e1,e2,e3⟩:=h1;obtain ⟨b,y1,y2,y3,rfl,q2,f1,f2,f3⟩:=h2;cases r1
 cases r2
 obtain ⟨us,ru,pu,_⟩:=I.tuple (SqT.of q1);obtain ⟨vs,rv,pv,_⟩:=I.tuple (SqT.of q2);obtain ⟨u1,u2,u3,rfl,ru1,ru2,ru3⟩:=znl ru;obtain ⟨v1,v2,v3,rfl,rv1,rv2,rv3⟩:=znl rv;have hin:∀ n,n≤Rep.depth α+Rep.depth β+Rep.depth γ→A.in1.units+n < cLine:=fun n hn=>yaU (ya6 zbf _) (by omega);have:=RcAt.tuples (A:=A) (s:=s) (l:=a) (b:=b) (items:=#[u1,u2,u3]) (items2:=#[v1,v2,v3]) pu pv (by omega) (zhK (p:=p) (q:=q) I hin e1 e2 e3 f1 f2 f3 ru1 ru2 ru3 rv1 rv2 rv3);rw[← zlg];exact this
theorem zqd (I:Inv X pins σ H s)(hu:A.units+(Rep.depth α+Rep.depth β+Rep.depth γ+1) < cLine)(h1:has3 X.K H p x)(h2:has3 X.K H q y)(r1:RelV x u)(r2:RelV y v):RcNeAt A s u v (!decide (p=q)):=by
 obtain ⟨a,x1,x2,x3,rfl,q1,e1,e2,e3⟩:=h1;obtain ⟨b,y1,y2,y3,rfl,q2,f1,f2,f3⟩:=h2;cases r1
 cases r2
 obtain ⟨us,ru,pu,_⟩:=I.tuple (SqT.of q1);obtain ⟨vs,rv,pv,_⟩:=I.tuple (SqT.of q2);obtain ⟨u1,u2,u3,rfl,ru1,ru2,ru3⟩:=znl ru;obtain ⟨v1,v2,v3,rfl,rv1,rv2,rv3⟩:=znl rv;have hin:∀ n,n≤Rep.depth α+Rep.depth β+Rep.depth γ→A.in1.units+n < cLine:=fun n hn=>yaU (ya6 zbf _) (by omega);have:=RcNeAt.tuples (A:=A) (s:=s) (l:=a) (b:=b) (items:=#[u1,u2,u3]) (items2:=#[v1,v2,v3]) pu pv (by omega) (zhK (p:=p) (q:=q) I hin e1 e2 e3 f1 f2 f3 ru1 ru2 ru3 rv1 rv2 rv3);rw[← zlg];exact this
theorem zqe (I:Inv X pins σ H s)(hu:A.units+(Rep.depth α+Rep.depth β+Rep.depth γ+1) < cLine)(h1:has3 X.K H p x)(h2:has3 X.K H q y)(r1:RelV x u)(r2:RelV y v):EqAt A s u v (decide (p=q)):=by
 have rc:=zmI (A:=A) I hu h1 h2 r1 r2;have h1':=id h1;have h2':=id h2;obtain ⟨a,x1,x2,x3,rfl,q1,e1,e2,e3⟩:=h1;obtain ⟨b,y1,y2,y3,rfl,q2,f1,f2,f3⟩:=h2;cases r1
 cases r2
 by_cases hab:a=b
 ·subst hab;rw[yae (zj6 I h1' h2')];exact EqAt.same _
 ·exact EqAt.of_refs hab rc
end
instance {α β γ:Type} [Rep α] [Rep β] [Rep γ]:Rep (Tri α β γ) where
 dec:=inferInstance
 depth:=Rep.depth α+Rep.depth β+Rep.depth γ+1
 has:=has3
 mono:=fun e ⟨a,x,y,z,h1,h2,h3,h4,h5⟩=>⟨a,x,y,z,h1,e _ _ h2 (fun _ z=>nomatch z),Rep.mono e h3,Rep.mono e h4,Rep.mono e h5⟩
 inj:=fun I h1 h2=>zj6 I h1 h2
 rc:=fun I hu h1 h2 r1 r2=>zmI I hu h1 h2 r1 r2
 rn:=fun I hu h1 h2 r1 r2=>zqd I hu h1 h2 r1 r2
 eq:=fun I hu h1 h2 r1 r2=>zqe I hu h1 h2 r1 r2
end L2
namespace L2
open PySem PySem.Spec PyProof.Rows
structure DM (K:Frag)(C:Addr)(m q:Str)(st:Stmt)(ps:List Str):Prop where
 ex:∃ f fd,Fun K m q st f fd∧zdw K fd ps []∧Meth K C m f
structure FM (P:Program)(w:World)(K:Frag)(mg:Str→Option Value)(base:Heap)(C:Addr)(k:Nat)(m:Str)(ps:List Str)(sp:Sp):Prop where
 ex:∃ f fd,FnOk P w K mg base CX0 k f fd ps sp∧zdw K fd ps []∧Meth K C m f∧∃ oc od osl,K.lookup f=some ⟨oc,od,.func fd,osl⟩
structure DI (K:Frag)(C:Addr)(q:Str)(st:Stmt)(ps:List Str):Prop where
 ex:∃ f fd,Fun K "__init__" q st f fd∧zdw K fd ps []∧Mk K C f
structure FI (P:Program)(w:World)(K:Frag)(mg:Str→Option Value)(base:Heap)(C:Addr)(k:Nat)(ps:List Str)(sp:Sp):Prop where
 ex:∃ f fd,FnOk P w K mg base CX0 k f fd ps sp∧zdw K fd ps []∧Mk K C f
section
variable {P:Program}{w:World}{K:Frag}{mg:Str→Option Value}{base:Heap}{C:Addr}{m q:Str}{st:Stmt}{N ps:List Str}{k:Nat}{sp:Sp}
theorem DM.ok (D:DM K C m q st ps)(S:zao N ps (zag st))(len:∀ vs H Q E,sp vs H Q E→vs.length=ps.length)
  (hbody:∀(f:Addr) (cdv:Value) (A:Around) (outer:List Env) (s:Shared) (H:Hp) (vs:List V) (Q:VK) (E:XK),Room k (A.deeper (envOfC q (zag st) s.heap.objs.size f cdv))→sp vs H Q E→
   ∃ t,PSs (cxOf CX0 P w K mg base N q (zag st) f cdv A outer s H E).nox (za8 st) t∧t { nx:=fun _ H'=>Q .non H',rt:=Q } (zdf N vs) H):FM P w K mg base C (k+1) m ps sp:=by
 obtain ⟨f,fd,F,b,me⟩:=D.ex;exact ⟨f,fd,F.ok S len fun cdv A outer s H vs Q E hr h=>hbody f cdv A outer s H vs Q E hr h,b,me,by
  obtain ⟨oc,od,kV,doc,pm,an,cdv,ct,osl,rfl,lk,hcd⟩:=F.ex;exact ⟨oc,od,osl,lk⟩⟩
theorem DI.ok (D:DI K C q st ps)(S:zao N ps (zag st))(len:∀ vs H Q E,sp vs H Q E→vs.length=ps.length)
  (hbody:∀(f:Addr) (cdv:Value) (A:Around) (outer:List Env) (s:Shared) (H:Hp) (vs:List V) (Q:VK) (E:XK),Room k (A.deeper (envOfC q (zag st) s.heap.objs.size f cdv))→sp vs H Q E→
   ∃ t,PSs (cxOf CX0 P w K mg base N q (zag st) f cdv A outer s H E).nox (za8 st) t∧t { nx:=fun _ H'=>Q .non H',rt:=Q } (zdf N vs) H):FI P w K mg base C (k+1) ps sp:=by
 obtain ⟨f,fd,F,b,me⟩:=D.ex;exact ⟨f,fd,F.ok S len fun cdv A outer s H vs Q E hr h=>hbody f cdv A outer s H vs Q E hr h,b,me⟩
end
section
variable {X:Cx}{j k:Nat}{C:Addr}{m x:Str}{ps:List Str}{sp:Sp}{o e:Expr}{es:List Expr}{ta:TE}{t:TA}{p pos apos:Pos}
theorem ziK {pl:Sem Bool}(F:FM X.prog X.w X.K X.mg X.base C j m ps sp)(c:Cls X.K C)(hr:Room k X.A)(he:PE X o ta)(ha:PA X (e::es) t)(hjk:j≤k:=by decide)
  (hst:starEach (e::es) X.env=(false,eval e X.env)::starEach es X.env:=by rfl) (hpl:(backTo pos (starEach es X.env)).any (·.1)=false:=by rfl)
  (ht:eval (.Call (.Attribute o m apos) (e::es) [] pos) X.env=(do
   let ov ← eval o X.env
   standAt apos.atName
   let (f,first) ← holding [ov] (getMethod ov m pl)
   callWith pos f first (backTo pos (starEach (e::es) X.env)) (backToKw pos (keywordEach [] X.env))):=by rfl) :
  PE X (.Call (.Attribute o m apos) (e::es) [] pos) (znv C m sp [] E0 ta t):=by
 obtain ⟨f,fd,ok,b,me,_⟩:=F.ex;exact zpE he c me ok (hr.mono hjk) b .nil zlP ha hst hpl ht
theorem zgC {pl:Sem Bool}(F:FM X.prog X.w X.K X.mg X.base C j m ps sp)(c:Cls X.K C)(hr:Room k X.A)(he:PE X o ta)(hjk:j≤k:=by decide)
  (ht:eval (.Call (.Attribute o m apos) [] [] pos) X.env=(do
   let ov ← eval o X.env
   standAt apos.atName
   let (f,first) ← holding [ov] (getMethod ov m pl)
   callWith pos f first (backTo pos (starEach [] X.env)) (backToKw pos (keywordEach [] X.env))):=by rfl) :
  PE X (.Call (.Attribute o m apos) [] [] pos) (znv C m sp [] E0 ta tNil):=by
 obtain ⟨f,fd,ok,b,me,_⟩:=F.ex;exact znL he c me ok (hr.mono hjk) b .nil zlP ht
theorem zpH (F:FI X.prog X.w X.K X.mg X.base C j ps sp)(hr:Room k X.A)(hm:X.mg x=some (.ref C))(ha:PA X (e::es) t)(hjk:j+1≤k:=by decide)(hg:Gl X x:=by rfl)
  (hdb:(x == ("__debug__" : Str))=false:=by decide) (he:starEach (e::es) X.env=(false,eval e X.env)::starEach es X.env:=by rfl) (hpl:(backTo pos (starEach es X.env)).any (·.1)=false:=by rfl) :
  PE X (.Call (.Name x p) (e::es) [] pos) (zqD C sp [] E0 t):=by
 obtain ⟨f,fd,ok,b,me⟩:=F.ex;exact zpF me ok (hr.mono hjk) hg hm b .nil zlP ha hdb he hpl
end
end L2
namespace L2
open PySem PySem.Spec PyProof.Rows
section
variable {X:Cx}
theorem zlW (hu:X.A.units+1 < cLine):OpR X (compareOp .NotIn) (fun x y H Q=>∃ a o,y=.ref a∧DGet H a x o∧Q (.bl (!o.isSome)) H):=by
 intro pins s σ H x y v u Q I rx ry h;obtain ⟨a,o,rfl,g,q⟩:=h;cases ry
 exact zqk hu I g rx fun s' I'=>⟨.bl _,H,I',rfl,q⟩
theorem zks {A:Around}(hu:A.units+1 < cLine)(hA:X.A=A:=by rfl):OpR X (compareOp .NotIn) (fun x y H Q=>∃ a o,y=.ref a∧DGet H a x o∧Q (.bl (!o.isSome)) H):=by
 subst hA;exact zlW hu
end
end L2
namespace L2
open PySem PySem.Spec PyProof.Rows
section
variable {X:Cx}
def zqW (K:Frag):R2:=fun x y H Q=>∃ a b xs ys,x=.ref a∧y=.ref b∧SqT K H a xs∧SqT K H b ys∧xs.length+ys.length≤sizeLine∧
 (xs=[]→Q (.ref b) H)∧(xs≠[]→(ys=[]→Q (.ref a) H)∧(ys≠[]→∀ p,H p=none→Q (.ref p) (upd H p (.tup (xs++ys)))))
theorem zpN:OpR X (binaryOp .Add) (zqW X.K):=by
 intro pins s σ H x y v u Q I rx ry h;obtain ⟨a,b,xs,ys,e1,e2,ha,hb,hz,q1,q2⟩:=h;by_cases hx:xs=[]
 ·subst e1 e2;cases rx
  cases ry
  obtain ⟨its,r1,p1,_⟩:=I.tuple ha;obtain ⟨its2,r2,p2,_⟩:=I.tuple hb;obtain ⟨⟨cls,dd,data,sl⟩,ho,hc,n,hd⟩:=id p1;obtain ⟨⟨cls2,dd2,data2,sl2⟩,ho2,hc2,n2,hd2⟩:=id p2;simp only at hc hd hc2 hd2;subst hc hd hc2 hd2;have hv:its=[]:=r1.nil_iff.mpr hx;exact concat_meets ⟨_,ho,rfl⟩ ⟨_,ho2,rfl⟩ noFill_tuple_add seq_tuple_add PySem.F.slot_tuple_add PySem.F.entry_tuple_add (PySem.F.args_tuple_add_2 _ _)
   (tuple_addW0 a b its.toArray its2.toArray n n2 dd dd2 sl sl2 (by simp[hv])) ⟨ho,ho2,.ref b,H,I,rfl,q1 hx⟩
 ·exact zhh pins s σ H x y v u Q I rx ry ⟨a,b,xs,ys,e1,e2,ha,hb,hx,hz,fun z=>(q2 hx).1 z,fun z=>(q2 hx).2 z⟩
end
end L2
set_option maxHeartbeats 4000000
namespace My
open PySem PySem.Spec PyProof.Rows L2
local macro_rules | `(tactic| walk_at "sc") => `(tactic| exact ⟨rfl,rfl,rfl,by decide +kernel,rfl,by decide +kernel,by decide +kernel⟩)
local macro_rules | `(tactic| walk_at "side")=>`(tactic| first | omega | (dsimp only;omega) | (simp only[CDiv,zsf,CPow,CMul];omega) | decide)
local macro_rules | `(tactic| walk_at "rd")=>`(tactic| repeat (first | (refine ⟨_,rfl,?_⟩) | (refine ⟨_,_,rfl,rfl,?_⟩) | (refine ⟨rfl,?_⟩) | (refine ⟨(by walk_at "side"),?_⟩)))
def top (i:Nat):Stmt:=PySem.Challenge.pw_bridgefind_k49_whole_as_made_anew.main.body.getD i (.Pass ⟨0,0,0,0⟩)
abbrev zdD:Stmt:=top 12
abbrev zfA:Stmt:=top 13
abbrev zdB:Stmt:=top 14
abbrev zjC:Stmt:=top 15
abbrev zbs:Stmt:=top 16
abbrev zeO:Stmt:=top 17
abbrev zcX:Stmt:=top 18
abbrev zbC:Stmt:=top 21
abbrev zft:Stmt:=top 22
abbrev zfv:Stmt:=top 23
abbrev zcx:Stmt:=top 25
abbrev zcy:Stmt:=top 26
abbrev zem:Stmt:=top 27
abbrev zg3:Stmt:=top 28
abbrev zfB:Stmt:=top 29
abbrev zbg:Stmt:=top 32
abbrev zei:Stmt:=top 33
abbrev zcW:Stmt:=top 34
abbrev zdE:Stmt:=top 35
abbrev zen:Stmt:=top 36
abbrev zfu:Stmt:=top 39
abbrev zbD:Stmt:=top 40
abbrev zdA:Stmt:=top 41
abbrev zdz:Stmt:=top 42
abbrev zb7:Stmt:=top 43
abbrev za2:Stmt:=top 44
abbrev zcY:Stmt:=top 45
abbrev zeh:Stmt:=top 47
abbrev zel:Stmt:=top 50
abbrev zej:Stmt:=top 51
abbrev zfx:Stmt:=top 52
abbrev zg5:Stmt:=top 53
abbrev zfw:Stmt:=top 54
abbrev zg4:Stmt:=top 55
abbrev zfy:Stmt:=top 56
abbrev zcz:Stmt:=top 57
abbrev zfz:Stmt:=top 58
abbrev zdC:Stmt:=top 59
abbrev zek:Stmt:=top 60
abbrev znD:Stmt:=top 61
abbrev zbu:Stmt:=zd8 (top 48) 0
abbrev zbE:Stmt:=zd8 (top 48) 1
abbrev zbt:Stmt:=zd8 (top 48) 2
abbrev zcZ:Stmt:=zd8 (top 48) 3
abbrev zc0:Stmt:=zd8 (top 48) 4
abbrev zb8:Stmt:=zd8 (top 48) 6
abbrev zcA:Stmt:=zd8 (top 48) 7
theorem qcb:zao ["thing"] ["thing"] (zag zdD):=by walk_at "sc"
theorem qcw:zao ["thing"] ["thing"] (zag zfA):=by walk_at "sc"
theorem qcc:zao ["thing"] ["thing"] (zag zdB):=by walk_at "sc"
theorem qcd:zao ["entry","key","z"] ["entry"] (zag zjC):=by walk_at "sc"
theorem qae:zao ["length","is_below","low","high","middle"] ["length","is_below"] (zag zbs):=by walk_at "sc"
theorem qcE:zao ["row","key"] ["row","key"] (zag zeO):=by walk_at "sc"
theorem qaF:zao ["lists","together","entries"] ["lists"] (zag zcX):=by walk_at "sc"
theorem qaE:zao ["one","other","unlike"] ["one","other"] (zag zbC):=by walk_at "sc"
theorem qaG:zao ["numbers","told","at","number","figure"] ["numbers"] (zag zft):=by walk_at "sc"
theorem qaZ:zao ["entries","numbers","turn"] ["entries"] (zag zfv):=by walk_at "sc"
theorem qbK:zao ["things","at"] ["things","at"] (zag zcx):=by walk_at "sc"
theorem qbL:zao ["taken"] ["taken"] (zag zcy):=by walk_at "sc"
theorem qaO:zao ["numbers","told","label","at"] ["numbers"] (zag zem):=by walk_at "sc"
theorem qa0:zao ["entries","tints","told","colour","at"] ["entries"] (zag zg3):=by walk_at "sc"
theorem qcx:zao ["entries"] ["entries"] (zag zfB):=by walk_at "sc"
theorem qa1:zao ["many","thing"] ["many","thing"] (zag zbg):=by walk_at "sc"
theorem qbH:zao ["parents","knot"] ["parents"] (zag zei):=by walk_at "sc"
theorem qb3:zao ["tree","thing"] ["tree","thing"] (zag zcW):=by walk_at "sc"
theorem qce:zao ["tree","knot"] ["tree","knot"] (zag zdE):=by walk_at "sc"
theorem qa3:zao ["tree","knot","told","other"] ["tree","knot"] (zag zen):=by walk_at "sc"
theorem qb4:zao ["things","thing"] ["things"] (zag zfu):=by walk_at "sc"
theorem qbh:zao ["lists"] ["lists"] (zag zbD):=by walk_at "sc"
theorem qbo:zao ["tree","rows","told"] ["tree","rows"] (zag zdA):=by walk_at "sc"
theorem qbp:zao ["stand","knot","row","rows"] ["stand","knot","row"] (zag zdz):=by walk_at "sc"
theorem qbD:zao ["stand","knot"] ["stand","knot"] (zag zb7):=by walk_at "sc"
theorem qac:zao ["stand","knot","tree","told","at","parts"] ["stand","knot"] (zag za2):=by walk_at "sc"
theorem qbg:zao ["stand","told"] ["stand"] (zag zcY):=by walk_at "sc"
theorem qa4:zao ["entries","others","away","entry"] ["entries","others"] (zag zeh):=by walk_at "sc"
theorem qcr:zao ["_law_script"] ["_law_script"] (zag zel):=by walk_at "sc"
theorem qa5:zao ["_law_cell","_law_k","_law_one","_law_two"] ["_law_cell","_law_k"] (zag zej):=by walk_at "sc"
theorem qaz:zao ["_law_state","_law_most","_law_k","_law_script","_law_cell","_law_found"] ["_law_state","_law_most"] (zag zfx):=by walk_at "sc"
theorem qcq:zao ["_law_state","_law_way"] ["_law_state"] (zag zg5):=by walk_at "sc"
theorem qa2:zao ["_law_state","_law_most","_law_way","_law_parents","_law_k"] ["_law_state","_law_most"] (zag zfw):=by walk_at "sc"
theorem qbM:zao ["_law_state","_law_most","_law_found","_law_k"] ["_law_state","_law_most"] (zag zg4):=by walk_at "sc"
theorem qaA:zao ["_law_state","_law_many","_law_most","_law_rows_here","_law_k","_law_row_here"] ["_law_state","_law_many","_law_most"] (zag zfy):=by walk_at "sc"
theorem qbN:zao ["_law_shelf","_law_tree_here"] ["_law_shelf","_law_tree_here"] (zag zcz):=by walk_at "sc"
theorem qag:zao ["_law_shelf","_law_tree_here","_law_knot","_law_key_here","_law_is_put","_law_ahead","_law_told","_law_up","_law_at","_law_gone","_law_come","_law_entry"] ["_law_shelf","_law_tree_here","_law_knot","_law_key_here","_law_is_put"] (zag zfz):=by walk_at "sc"
theorem qaf:zao ["_law_state","_law_tree_here","_law_rows_here","_law_shelf","_law_order","_law_knot","_law_key_here","_law_other","_law_is_more"] ["_law_state","_law_tree_here","_law_rows_here"] (zag zdC):=by walk_at "sc"
theorem qas:zao ["_law_state","_law_tree_here","_law_rows_here","_law_found","_law_k","_law_knot","_law_key_here"] ["_law_state","_law_tree_here","_law_rows_here"] (zag zek):=by walk_at "sc"
theorem qay:zao ["_law_script","_law_state","_law_tree_here","_law_rows_here","_law_one","_law_other","_law_deeds_here","_law_knot","_law_key_here","_law_is_put","_law_anew"] ["_law_script"] (zag znD):=by walk_at "sc"
theorem qa6:zao ["self","stand"] ["self","stand"] (zag zbu):=by walk_at "sc"
theorem qbi:zao ["self","knot","key"] ["self","knot","key"] (zag zbE):=by walk_at "sc"
theorem qab:zao ["self","knot","gone","come","told","before","after"] ["self","knot","gone","come"] (zag zbt):=by walk_at "sc"
theorem qaH:zao ["self","knot","key","row","at"] ["self","knot","key"] (zag zcZ):=by walk_at "sc"
theorem qaI:zao ["self","knot","key","row","at"] ["self","knot","key"] (zag zc0):=by walk_at "sc"
theorem qbE:zao ["self"] ["self"] (zag zb8):=by walk_at "sc"
theorem qbO:zao ["self","knot"] ["self","knot"] (zag zcA):=by walk_at "sc"
abbrev zck:List Str:=["thing"]
abbrev zdk:List Str:=["thing"]
abbrev zc2:List Str:=["thing"]
abbrev zhb:List Str:=["entry"]
abbrev zbi:List Str:=["length","is_below"]
abbrev zer:List Str:=["row","key"]
abbrev zbX:List Str:=["lists"]
abbrev zbv:List Str:=["one","other"]
abbrev zep:List Str:=["numbers"]
abbrev zes:List Str:=["entries"]
abbrev zbG:List Str:=["things","at"]
abbrev zb9:List Str:=["taken"]
abbrev zdK:List Str:=["numbers"]
abbrev zfD:List Str:=["entries"]
abbrev zdl:List Str:=["entries"]
abbrev zaP:List Str:=["many","thing"]
abbrev zcN:List Str:=["parents"]
abbrev zbW:List Str:=["tree","thing"]
abbrev zc4:List Str:=["tree","knot"]
abbrev zdL:List Str:=["tree","knot"]
abbrev zeq:List Str:=["things"]
abbrev za9:List Str:=["lists"]
abbrev zcj:List Str:=["tree","rows"]
abbrev zci:List Str:=["stand","knot","row"]
abbrev zbQ:List Str:=["stand","knot"]
abbrev zaX:List Str:=["stand","knot"]
abbrev zbY:List Str:=["stand"]
abbrev zdF:List Str:=["entries","others"]
abbrev zdJ:List Str:=["_law_script"]
abbrev zdG:List Str:=["_law_cell","_law_k"]
abbrev zbH:List Str:=["_law_state","_law_most"]
abbrev zdH:List Str:=["_law_state"]
abbrev zet:List Str:=["_law_state","_law_most"]
abbrev zfE:List Str:=["_law_state","_law_most"]
abbrev zeu:List Str:=["_law_state","_law_many","_law_most"]
abbrev zbI:List Str:=["_law_shelf","_law_tree_here"]
abbrev zdj:List Str:=["_law_shelf","_law_tree_here","_law_knot","_law_key_here","_law_is_put"]
abbrev zc3:List Str:=["_law_state","_law_tree_here","_law_rows_here"]
abbrev zdI:List Str:=["_law_state","_law_tree_here","_law_rows_here"]
abbrev zjK:List Str:=["_law_script"]
abbrev zaZ:List Str:=["self","stand"]
abbrev zba:List Str:=["self","knot","key"]
abbrev zaY:List Str:=["self","knot","gone","come"]
abbrev zcB:List Str:=["self","knot","key"]
abbrev zcC:List Str:=["self","knot","key"]
abbrev zbR:List Str:=["self"]
abbrev zca:List Str:=["self","knot"]
structure Txt (K:Frag)(mg:Str→Option Value):Prop where
 qcM:mg "abs" = none
 qcV:mg "bool" = none
 qcf:mg "enumerate" = none
 qc0:mg "int" = none
 qam:mg "isinstance" = none
 qan:mg "len" = none
 qbI:mg "list" = none
 qcW:mg "max" = none
 qc1:mg "min" = none
 qaj:mg "range" = none
 qbJ:mg "reversed" = none
 qc2:mg "set" = none
 qbm:mg "sorted" = none
 qc3:mg "sum" = none
 qaB:mg "tuple" = none
 qc4:mg "zip" = none
 qbF:∃ t,mg "KNOT_NUMBERS" = some (.int 64 t)
 qcN:∃ t,mg "TURNS" = some (.int 5 t)
 qb5:∃ t,mg "MOST_KNOTS" = some (.int 40 t)
 qbq:∃ t,mg "MOST_KEYS" = some (.int 300 t)
structure OwnC (K:Frag)(mg:Str→Option Value)(C:Addr):Prop where
 cl:L2.Cls K C
 mgC:mg "Shelf" = some (.ref C)
 n_kept:zfl K C "kept"
 n_fulls:zfl K C "fulls"
theorem ziW (m n i j:Nat)(hi:i < 2)(hj:j < 2):(2*m+i) &&& (2*n+j)=2*(m &&& n)+(i &&& j):=by
 apply Nat.eq_of_testBit_eq;intro k;cases k with
 | zero=>
  have h1:i=0∨i=1:=by omega
  have h2:j=0∨j=1:=by omega
  rcases h1 with rfl | rfl <;> rcases h2 with rfl | rfl <;> simp[Nat.testBit_zero] <;> omega
 | succ k=>
  have h1:i=0∨i=1:=by omega
  have h2:j=0∨j=1:=by omega
  have e1:(2*m+i)/2=m:=by omega
  have e2:(2*n+j)/2=n:=by omega
  have e3:(2*(m &&& n)+(i &&& j))/2=m &&& n:=by
   rcases h1 with rfl | rfl <;> rcases h2 with rfl | rfl <;> simp <;> omega
  rw[Nat.testBit_and,ybM,ybM,ybM,e1,e2,e3,Nat.testBit_and]
theorem zrs (m n i j:Nat)(hi:i < 2)(hj:j < 2):(2*m+i) ||| (2*n+j)=2*(m ||| n)+(i ||| j):=by
 apply Nat.eq_of_testBit_eq;intro k;cases k with
 | zero=>
  have h1:i=0∨i=1:=by omega
  have h2:j=0∨j=1:=by omega
  rcases h1 with rfl | rfl <;> rcases h2 with rfl | rfl <;> simp[Nat.testBit_zero] <;> omega
 | succ k=>
  have h1:i=0∨i=1:=by omega
  have h2:j=0∨j=1:=by omega
  have e1:(2*m+i)/2=m:=by omega
  have e2:(2*n+j)/2=n:=by omega
  have e3:(2*(m ||| n)+(i ||| j))/2=m ||| n:=by
   rcases h1 with rfl | rfl <;> rcases h2 with rfl | rfl <;> simp <;> omega
  rw[Nat.testBit_or,ybM,ybM,ybM,e1,e2,e3,Nat.testBit_or]
def lu (a b:Nat):Nat:=if a=b then 0 else if a % 2=b % 2 then lu (a / 2) (b / 2)+1 else 0
termination_by a+b
decreasing_by omega
theorem ziV {a b:Nat}(hab:a≠b)(h:a % 2=b % 2):lu a b=lu (a / 2) (b / 2)+1:=by
 rw[lu,if_neg hab,if_pos h]
theorem zmj {a b:Nat}(h:a % 2≠b % 2):lu a b=0:=by
 rw[lu];split
 ·rfl
 ·rfl
def xr (a b:Nat):Nat:=(a ||| b) - (a &&& b)
def zfh (n:Nat):Nat:=n - (n &&& (n - 1))
theorem zis (a b:Nat):a &&& b≤a ||| b:=yaw Nat.and_le_left Nat.left_le_or
theorem zrQ (m n i j:Nat)(hi:i < 2)(hj:j < 2):xr (2*m+i) (2*n+j)=2 * xr m n+(if i=j then 0 else 1):=by
 unfold xr;rw[zrs m n i j hi hj,ziW m n i j hi hj];have q:=zis m n;have h1:i=0∨i=1:=by omega
 have h2:j=0∨j=1:=by omega
 rcases h1 with rfl | rfl <;> rcases h2 with rfl | rfl <;> simp <;> omega
theorem zk0 (a b:Nat):xr a b=2 * xr (a / 2) (b / 2)+(if a % 2=b % 2 then 0 else 1):=by
 have e1:2 * (a / 2)+a % 2=a:=by omega
 have e2:2 * (b / 2)+b % 2=b:=by omega
 have q:=zrQ (a / 2) (b / 2) (a % 2) (b % 2) (by omega) (by omega);rw[e1,e2]at q;exact q
theorem zoQ:∀(n a b:Nat),a+b≤n→a≠b→0 < xr a b:=by
 intro n
 induction n with
 | zero=>intro a b h1 h2;omega
 | succ n ih=>
  intro a b h1 h2;rw[zk0];by_cases h:a % 2=b % 2
  ·have:=ih (a / 2) (b / 2) (by omega) (by omega);omega
  ·rw[if_neg h];omega
theorem zp0 (m:Nat):zfh (2 * m+1)=1:=by
 unfold zfh;have q:=ziW m m 1 0 (by omega) (by omega);have e:2 * m+1 - 1=2 * m+0:=by omega
 rw[e,q];simp
theorem zof (m:Nat)(h:0 < m):zfh (2 * m)=2 * zfh m:=by
 unfold zfh;have q:=ziW m (m - 1) 0 1 (by omega) (by omega);have e:2 * m - 1=2 * (m - 1)+1:=by omega
 have e':2 * m=2 * m+0:=by omega
 rw[e];have:(2 * m &&& 2 * (m - 1)+1)=2 * (m &&& m - 1)+(0 &&& 1):=q;rw[this];have z:m &&& (m - 1)≤m:=Nat.and_le_left;simp;omega
theorem zrq:∀(n a b:Nat),a+b≤n→a≠b→zfh (xr a b)=2 ^ lu a b:=by
 intro n
 induction n with
 | zero=>intro a b h1 h2;omega
 | succ n ih=>
  intro a b h1 h2;rw[zk0];by_cases h:a % 2=b % 2
  ·rw[if_pos h,ziV h2 h,ybw,zof _ (zoQ n _ _ (by omega) (by omega)),ih _ _ (by omega) (by omega),yb2];omega
  ·rw[if_neg h,zmj h,zp0,Nat.pow_zero]
theorem zpZ:∀(n a b:Nat),a+b≤n→a≠b→a % 2 ^ lu a b=b % 2 ^ lu a b∧a % 2 ^ (lu a b+1)≠b % 2 ^ (lu a b+1):=by
 intro n
 induction n with
 | zero=>intro a b h1 h2;omega
 | succ n ih=>
  intro a b h1 h2;by_cases h:a % 2=b % 2
  ·rw[ziV h2 h];obtain ⟨q1,q2⟩:=ih (a / 2) (b / 2) (by omega) (by omega);have s:∀ x k:Nat,x % 2 ^ (k+1)=2 * (x / 2 % 2 ^ k)+x % 2:=by
    intro x k;rw[yb2,Nat.mul_comm,Nat.mod_mul];omega
   rw[s a,s b,s a,s b];constructor
   ·omega
   ·omega
  ·rw[zmj h];simp[Nat.mod_one];omega
theorem zr5:∀(k a b:Nat),a≠b→a < 2 ^ k→b < 2 ^ k→lu a b < k:=by
 intro k
 induction k with
 | zero=>intro a b h1 h2 h3;simp at h2 h3;omega
 | succ k ih=>
  intro a b h1 h2 h3;by_cases h:a % 2=b % 2
  ·rw[ziV h1 h];have:=ih (a / 2) (b / 2) (by omega) (by rw[yb2]at h2;omega) (by rw[yb2]at h3;omega);omega
  ·rw[zmj h];omega
def fig (a b:Nat):Nat:=2 * lu a b+b / 2 ^ lu a b % 2
theorem zhy (a b:Nat):fig a b / 2=lu a b:=by
 unfold fig;have:=Nat.mod_lt (b / 2 ^ lu a b) (by decide:0 < 2);omega
theorem zi5 (a b:Nat):fig a b % 2=b / 2 ^ lu a b % 2:=by
 unfold fig;have:=Nat.mod_lt (b / 2 ^ lu a b) (by decide:0 < 2);omega
theorem zfe (x k:Nat):x % 2 ^ (k+1)=x % 2 ^ k+2 ^ k * (x / 2 ^ k % 2):=by
 rw[yb2,Nat.mod_mul]
theorem zpc {a b:Nat}(h:a≠b):a / 2 ^ lu a b % 2≠b / 2 ^ lu a b % 2:=by
 obtain ⟨h1,h2⟩:=zpZ _ a b (yaa _) h;intro e;apply h2;rw[zfe,zfe,h1,e]
theorem zrH {a b c:Nat}(h2:b≠c):fig a b≠fig b c:=by
 intro e;have e1:lu a b=lu b c:=by rw[← zhy,e,zhy]
 have e2:b / 2 ^ lu a b % 2=c / 2 ^ lu b c % 2:=by rw[← zi5,e,zi5]
 rw[e1]at e2;exact zpc h2 e2
theorem zqi {a b:Nat}(h:a≠b):a % 2≠fig a b:=by
 intro e;have l:a % 2 < 2:=Nat.mod_lt _ (by decide);have e1:lu a b=0:=by
  have:=zhy a b;omega
 have e2:=zi5 a b;have e3:=zpc h;rw[e1]at e2 e3;simp at e2 e3;omega
theorem zrI {a b k:Nat}(h:a≠b)(ha:a < 2 ^ k)(hb:b < 2 ^ k):fig a b < 2 * k:=by
 have:=zr5 k a b h ha hb;have:=Nat.mod_lt (b / 2 ^ lu a b) (by decide:0 < 2);unfold fig;omega
def zec (xs:List Nat)(i:Nat):Nat:=if i=0 then xs.getD 0 0 % 2 else fig (xs.getD (i - 1) 0) (xs.getD i 0)
def zdc (xs:List Nat):List Nat:=(List.range xs.length).map (zec xs)
theorem zbz (xs:List Nat):(zdc xs).length=xs.length:=by unfold zdc;rw[yab,ybi]
theorem zhJ {xs:List Nat}{i:Nat}(h:i < xs.length):(zdc xs)[i]?=some (zec xs i):=by
 unfold zdc;rw[yat,ycj h];rfl
theorem zeJ {xs:List Nat}{i:Nat}(h:i < xs.length):(zdc xs).getD i 0=zec xs i:=by
 rw[yaf,zhJ h];rfl
theorem zkj {xs:List Nat}{i:Nat}(h:i < xs.length):(zdc xs).take (i+1)=(zdc xs).take i++[zec xs i]:=by
 have h':i < (zdc xs).length:=by rw[zbz];exact h
 rw[yaK h'];have:=zhJ h;rw[yac h']at this;rw[yad this]
def Unl (xs:List Nat):Prop:=∀ i,i+1 < xs.length→xs.getD i 0≠xs.getD (i+1) 0
theorem zlb {xs:List Nat}(h:Unl xs):Unl (zdc xs):=by
 intro i hi;rw[zbz]at hi;rw[zeJ (by omega),zeJ hi];unfold zec;rw[if_neg (by omega:¬ i+1=0),Nat.add_sub_cancel];by_cases h0:i=0
 ·subst h0;rw[if_pos rfl];exact zqi (h 0 hi)
 ·rw[if_neg h0];exact zrH (h i hi)
def zdx (m:Nat)(xs:List Nat):Prop:=∀ i,i < xs.length→xs.getD i 0 < m
theorem zch {xs:List Nat}{k:Nat}(hk:1≤k)(h:Unl xs)(hb:zdx (2 ^ k) xs):zdx (2 * k) (zdc xs):=by
 intro i hi;rw[zbz]at hi;rw[zeJ hi];unfold zec;split
 ·have:xs.getD 0 0 % 2 < 2:=Nat.mod_lt _ (by decide);omega
 ·have:=h (i - 1) (by omega);rw[show i - 1+1=i by omega]at this;exact zrI this (hb _ (by omega)) (hb _ hi)
theorem zpi (a b:Nat):Builtin.bitXor (a:Int) (b:Int)=((xr a b:Nat):Int):=by
 have h1:Builtin.bitAnd (a:Int) (b:Int)=((a &&& b:Nat):Int):=by
  unfold Builtin.bitAnd;rw[yae (ybr a),yae (ybr b)];rfl
 have n1:¬ (0:Int)≤Builtin.bitNot (a:Int):=by unfold Builtin.bitNot;omega
 have n2:¬ (0:Int)≤Builtin.bitNot (b:Int):=by unfold Builtin.bitNot;omega
 have h2:Builtin.bitOr (a:Int) (b:Int)=((a ||| b:Nat):Int):=by
  unfold Builtin.bitOr Builtin.bitAnd;rw[yah n1,yah n2];have e:∀ x:Int,Builtin.bitNot (Builtin.bitNot x)=x:=fun x=>by unfold Builtin.bitNot;omega
  show Builtin.bitNot (Builtin.bitNot _)=_;rw[e,e,e];rfl
 unfold Builtin.bitXor xr;rw[h1,h2];have:=zis a b;omega
theorem zqs (n:Nat)(h:0 < n):Builtin.bitAnd (n:Int) (-(n:Int))=((zfh n:Nat):Int):=by
 have n2:¬ (0:Int)≤-(n:Int):=by omega
 have e:(Builtin.bitNot (-(n:Int))).toNat=n - 1:=by unfold Builtin.bitNot;omega
 unfold Builtin.bitAnd zfh;rw[yae (ybr n),yah n2];show (n:Int) - (((n:Int).toNat &&& (Builtin.bitNot (-(n:Int))).toNat:Nat):Int)=_;rw[e,ya9];have:n &&& (n - 1)≤n:=Nat.and_le_left;omega
theorem zrr (a b:Nat)(h:a≠b):((Builtin.Int.intBits (Builtin.bitAnd (Builtin.bitXor (a:Int) (b:Int)) (-(Builtin.bitXor (a:Int) (b:Int)))):Nat):Int) - 1=((lu a b:Nat):Int):=by
 rw[zpi,zqs _ (zoQ _ a b (yaa _) h),zrq _ a b (yaa _) h];unfold Builtin.Int.intBits;have p:0 < 2 ^ lu a b:=Nat.two_pow_pos _;rw[if_neg (by
  intro z;have z':=eq_of_beq z;omega),Int.natAbs_natCast,Nat.log2_two_pow]
 omega
def atZ {α:Type}(l:List α)(i:Int):Option α:=if 0≤i then l[i.toNat]? else none
theorem zdv {α:Type}(l:List α)(i:Nat):atZ l (i:Int)=l[i]?:=by
 unfold atZ;rw[if_pos (ybr i),ya9]
theorem zjj {α:Type}{l:List α}{i:Int}(h:i < 0):atZ l i=none:=by
 unfold atZ;rw[if_neg (by omega)]
theorem zkc {α:Type}{l:List α}{i:Int}{x:α}(h:atZ l i=some x):0≤i∧i < l.length:=by
 unfold atZ at h;split at h
 ·have:=(yam.mp h).1;omega
 ·cases h
def zkD {α β:Type}(f:Option α→α→Option α→β):Option α→List α→List β
 | _,[]=>[]
 | p,x::l=>f p x l.head? :: zkD f (some x) l
def mapW {α β:Type}(f:Option α→α→Option α→β)(l:List α):List β:=zkD f none l
theorem zdp {α β:Type}(f:Option α→α→Option α→β):∀(l:List α) (p:Option α) (k:Nat),(zkD f p l)[k]?=l[k]?.map fun x=>f (if k=0 then p else l[k - 1]?) x l[k+1]?
 | [],_,_=>rfl
 | x::l,p,0=>by
  show some (f p x l.head?)=some (f p x l[0]?);rw[List.head?_eq_getElem?]
 | x::l,p,k+1=>by
  show (zkD f (some x) l)[k]?=l[k]?.map fun y=>f (x::l)[k]? y l[k+1]?;rw[zdp f l (some x) k];cases k with
  | zero=>rfl
  | succ k=>rfl
theorem zfg {α β:Type}(f:Option α→α→Option α→β):∀(l:List α) (p:Option α),(zkD f p l).length=l.length
 | [],_=>rfl
 | x::l,p=>by
  show (zkD f (some x) l).length+1=l.length+1;rw[zfg f l]
theorem zco {α β:Type}(f:Option α→α→Option α→β)(l:List α):(mapW f l).length=l.length:=zfg f l none
theorem zpY {α β:Type}(f:Option α→α→Option α→β)(l:List α)(i:Int):atZ (mapW f l) i=(atZ l i).map fun x=>f (atZ l (i - 1)) x (atZ l (i+1)):=by
 by_cases h:0≤i
 ·obtain ⟨k,rfl⟩:∃ k:Nat,i=(k:Int):=⟨i.toNat,by omega⟩;rw[zdv,zdv,mapW,zdp,show ((k:Int)+1)=((k+1:Nat):Int) by omega,zdv];have e:atZ l ((k:Int) - 1)=if k=0 then none else l[k - 1]?:=by
   split
   ·rw[zjj (by omega)]
   ·rw[show ((k:Int) - 1)=((k - 1:Nat):Int) by omega,zdv]
  rw[e]
 ·rw[zjj (l:=mapW f l) (by omega),zjj (l:=l) (i:=i) (by omega)];rfl
def UnlZ (xs:List Nat):Prop:=∀(i:Int) (x y:Nat),atZ xs i=some x→atZ xs (i+1)=some y→x≠y
theorem unlZ {xs:List Nat}(h:Unl xs):UnlZ xs:=by
 intro i x y hx hy;obtain ⟨a,b⟩:=zkc hx;obtain ⟨_,c⟩:=zkc hy;obtain ⟨k,rfl⟩:∃ k:Nat,i=(k:Int):=⟨i.toNat,by omega⟩;rw[zdv]at hx;rw[show ((k:Int)+1)=((k+1:Nat):Int) by omega,zdv]at hy;have:=h k (by omega);rw[yaf,yaf,hx,hy]at this;exact this
theorem zoV {xs:List Nat}(h:UnlZ xs):Unl xs:=by
 intro k hk;have:=h k xs[k] xs[k+1] (by rw[zdv];exact yac (by omega)) (by rw[show ((k:Int)+1)=((k+1:Nat):Int) by omega,zdv];exact yac hk);rw[yaf,yaf,yac (show k < xs.length by omega),yac hk];exact this
def zfo (p n:Option Nat):Nat:=if p≠some 0∧n≠some 0 then 0 else if p≠some 1∧n≠some 1 then 1 else 2
theorem zos (p n:Option Nat):zfo p n≤2:=by
 unfold zfo;split
 ·omega
 ·split <;> omega
theorem zeY {p n:Option Nat}{x:Nat}(h:p=some x):zfo p n≠x:=by
 subst h;unfold zfo;split
 ·rename_i c;intro z;exact c.1 (by rw[← z])
 ·split
  ·rename_i c;intro z;exact c.1 (by rw[← z])
  ·rename_i c d;intro z;subst z;have c1:n=some 0:=Decidable.byContradiction fun q=>c ⟨by decide,q⟩;have d1:n=some 1:=Decidable.byContradiction fun q=>d ⟨by decide,q⟩;rw[c1]at d1;cases d1
theorem zkM (p n:Option Nat):zfo p n=zfo n p:=by
 unfold zfo;simp only[And.comm]
theorem zgK {p n:Option Nat}{x:Nat}(h:n=some x):zfo p n≠x:=by
 rw[zkM];exact zeY h
def recF (v:Nat)(p:Option Nat)(x:Nat)(n:Option Nat):Nat:=if x=v then zfo p n else x
def recL (v:Nat)(xs:List Nat):List Nat:=mapW (recF v) xs
theorem za3 (v:Nat)(xs:List Nat):(recL v xs).length=xs.length:=zco _ _
theorem zfC {v:Nat}{xs:List Nat}(h:UnlZ xs):UnlZ (recL v xs):=by
 intro i x y hx hy;unfold recL at hx hy;rw[zpY]at hx hy;cases ex:atZ xs i with
 | none=>rw[ex]at hx;cases hx
 | some x0=>
  cases ey:atZ xs (i+1) with
  | none=>rw[ey]at hy;cases hy
  | some y0=>
   rw[ex]at hx;rw[ey]at hy;have hx:x=recF v (atZ xs (i - 1)) x0 (atZ xs (i+1)):=(yad hx).symm;have hy:y=recF v (atZ xs (i+1 - 1)) y0 (atZ xs (i+1+1)):=(yad hy).symm;have n0:=h i x0 y0 ex ey;have e1:i+1 - 1=i:=by omega
   unfold recF at hx hy;rw[e1,ex]at hy;rw[ey]at hx;split at hx
   ·rename_i c;split at hy
    ·rename_i c';omega
    ·rw[hx,hy];exact zgK rfl
   ·split at hy
    ·rw[hx,hy];exact (zeY rfl).symm
    ·omega
def colL (xs:List Nat):List Nat:=recL 5 (recL 4 (recL 3 xs))
theorem zgd (xs:List Nat):(colL xs).length=xs.length:=by
 unfold colL;rw[za3,za3,za3]
theorem zoE {xs:List Nat}(h:UnlZ xs):UnlZ (colL xs):=zfC (zfC (zfC h))
def zrn (sh:Nat)(p:Option (Nat×Bool))(x:Nat×Bool)(n:Option (Nat×Bool)):Nat×Bool:=
 (x.1,x.2 || (decide (x.1=sh) && p.isSome && !(p.map (·.2)).getD false && !(n.map (·.2)).getD false))
def zf0 (sh:Nat)(l:List (Nat×Bool)):List (Nat×Bool):=mapW (zrn sh) l
def zdf (c:List Nat):List (Nat×Bool):=c.map fun x=>(x,false)
def marked (c:List Nat):List (Nat×Bool):=zf0 0 (zf0 1 (zf0 2 (zdf c)))
def zgF (c:List Nat):List Bool:=(marked c).map (·.2)
theorem zho (c:List Nat):(marked c).length=c.length:=by
 unfold marked zf0 zdf;rw[zco,zco,zco,yab]
theorem zhn (c:List Nat):(zgF c).length=c.length:=by
 unfold zgF;rw[yab,zho]
theorem zi4 {p n:Option Nat}{y:Nat}(h:y < zfo p n):p=some y∨n=some y:=by
 unfold zfo at h;split at h
 ·omega
 ·rename_i c;have c0:p=some 0∨n=some 0:=Decidable.byContradiction fun q=>c ⟨fun z=>q (.inl z),fun z=>q (.inr z)⟩;split at h
  ·have:y=0:=by omega
   subst this;exact c0
  ·rename_i d;have d0:p=some 1∨n=some 1:=Decidable.byContradiction fun q=>d ⟨fun z=>q (.inl z),fun z=>q (.inr z)⟩;have:y=0∨y=1:=by omega
   rcases this with rfl | rfl
   ·exact c0
   ·exact d0
def zaV (xs:List Nat)(k:Nat):List Nat:=(if k=0 then none else xs[k - 1]?).toList++xs[k+1]?.toList
theorem zgi {xs:List Nat}{k y:Nat}:y∈zaV xs k↔(if k=0 then none else xs[k - 1]?)=some y∨xs[k+1]?=some y:=by
 unfold zaV;rw[yai,Option.mem_toList,Option.mem_toList]
def zdY (xs:List Nat)(k:Nat):Nat:=zfo (if k=0 then none else xs[k - 1]?) xs[k+1]?
theorem zkL {xs:List Nat}{k:Nat}:zdY xs k∉zaV xs k:=fun h=>by
 rcases zgi.mp h with q | q
 ·exact zeY q rfl
 ·exact zgK q rfl
theorem zic {xs:List Nat}{k y:Nat}(h:y < zdY xs k):y∈zaV xs k:=zgi.mpr (zi4 h)
theorem zmO (xs:List Nat)(k:Nat):zdY xs k≤2:=zos _ _
theorem zg8 {v:Nat}{xs:List Nat}{k:Nat}(h:k < xs.length):(recL v xs)[k]?=some (if xs.getD k 0=v then zdY xs k else xs.getD k 0):=by
 unfold recL mapW;rw[zdp,yaf,yac h];rfl
def mixL (v:Nat)(xs:List Nat)(k:Nat):List Nat:=(recL v xs).take k++xs.drop k
theorem zod {v:Nat}{xs:List Nat}{k:Nat}(h:xs.length≤k):mixL v xs k=recL v xs:=by
 unfold mixL;rw[yao (by rw[za3];exact h),yaX h,yaJ]
theorem zfZ (v:Nat)(xs:List Nat)(k:Nat):(mixL v xs k).length=xs.length:=by
 unfold mixL;rw[yap,yan,yaM,za3];omega
theorem zdN (v:Nat)(xs:List Nat)(k j:Nat):(mixL v xs k)[j]?=if j < k then (recL v xs)[j]? else xs[j]?:=by
 unfold mixL;by_cases hk:k≤xs.length
 ·rw[List.getElem?_append,yan,za3,ybh hk];split
  ·rw[yb0];rw[if_pos (by assumption)]
  ·rw[yce];congr 1;omega
 ·rw[yaX (by omega),yaJ,yao (by rw[za3];omega)];split
  ·rfl
  ·rw[yaY (by rw[za3];omega),yaY (by omega)]
theorem zmh {v:Nat}{xs:List Nat}{k j:Nat}(h:k≤j):(mixL v xs k)[j]?=xs[j]?:=by
 rw[zdN,if_neg (by omega)]
theorem zmf {v:Nat}{xs:List Nat}{k:Nat}(h:k < xs.length)(hv:xs.getD k 0≠v):mixL v xs (k+1)=mixL v xs k:=by
 apply ybb;intro j;rw[zdN,zdN];by_cases c:j < k
 ·rw[if_pos c,if_pos (by omega)]
 ·rw[if_neg c];split
  ·have:j=k:=by omega
   subst this;rw[zg8 h,if_neg hv,yaf,yac h];rfl
  ·rfl
theorem zmg {v:Nat}{xs:List Nat}{k:Nat}(hu:Unl xs)(h:k < xs.length)(hv:xs.getD k 0=v):(if k=0 then none else (mixL v xs k)[k - 1]?)=if k=0 then none else xs[k - 1]?:=by
 cases k with
 | zero=>rfl
 | succ k=>
  show (mixL v xs (k+1))[k]?=xs[k]?;rw[zdN,if_pos (by omega),zg8 (by omega)];have:=hu k h;rw[hv]at this;rw[if_neg this,yaf,yac (show k < xs.length by omega)];rfl
theorem ziR {v:Nat}{xs:List Nat}{k:Nat}(hu:Unl xs)(h:k < xs.length)(hv:xs.getD k 0=v):zaV (mixL v xs k) k=zaV xs k:=by
 unfold zaV;rw[zmg hu h hv,zmh (j:=k+1) (by omega)]
theorem zoc {v:Nat}{xs:List Nat}{k:Nat}(h:k < xs.length)(hv:xs.getD k 0=v):mixL v xs (k+1)=(mixL v xs k).set k (zdY xs k):=by
 apply ybb;intro j;rw[ybN,zfZ,zdN,zdN];by_cases c:k=j
 ·subst c;rw[if_pos rfl,if_pos h,if_pos (by omega),zg8 h,if_pos hv]
 ·rw[if_neg c];by_cases c2:j < k
  ·rw[if_pos c2,if_pos (by omega)]
  ·rw[if_neg c2,if_neg (by omega)]
def zcn (sh:Nat)(cs:List Nat)(ms:List Bool):List Bool:=(zf0 sh (cs.zip ms)).map (·.2)
theorem zaR {sh:Nat}{cs:List Nat}{ms:List Bool}(h:cs.length=ms.length):(zcn sh cs ms).length=ms.length:=by
 unfold zcn zf0;rw[yab,zco,yck];omega
theorem ziv {cs:List Nat}:∀{ms:List Bool},cs.length=ms.length→(cs.zip ms).map (·.1)=cs:=by
 induction cs with
 | nil=>intro ms _;rfl
 | cons c cs ih=>
  intro ms h;cases ms with
  | nil=>cases h
  | cons m ms=>
   show c::(cs.zip ms).map (·.1)=c::cs;rw[ih (Nat.succ.inj h)]
theorem zjm:∀(l:List (Nat×Bool)),(l.map (·.1)).zip (l.map (·.2))=l
 | []=>rfl
 | x::l=>by
  show x::(l.map (·.1)).zip (l.map (·.2))=x::l;rw[zjm l]
theorem zmi (sh:Nat)(l:List (Nat×Bool)):(zf0 sh l).map (·.1)=l.map (·.1):=by
 apply ybb;intro k;unfold zf0 mapW;rw[yat,yat,zdp];cases l[k]? <;> rfl
theorem zh6 {sh:Nat}{cs:List Nat}{ms:List Bool}(h:cs.length=ms.length):zf0 sh (cs.zip ms)=cs.zip (zcn sh cs ms):=by
 have e:=zjm (zf0 sh (cs.zip ms));rw[zmi,ziv h]at e;exact e.symm
theorem zln (cs:List Nat):zdf cs=cs.zip (cs.map fun _=>false):=by
 unfold zdf
 induction cs with
 | nil=>rfl
 | cons c cs ih=>
  show (c,false)::cs.map (fun x=>(x,false))=(c,false)::cs.zip (cs.map fun _=>false);rw[ih]
theorem zh5 (cs:List Nat):zgF cs=zcn 0 cs (zcn 1 cs (zcn 2 cs (cs.map fun _=>false))):=by
 have l1:cs.length=(cs.map fun _=>false).length:=by rw[yab]
 have l2:cs.length=(zcn 2 cs (cs.map fun _=>false)).length:=by rw[zaR l1,← l1]
 unfold zgF marked;rw[zln,zh6 l1,zh6 l2];rfl
theorem zdM {sh:Nat}{cs:List Nat}{ms:List Bool}(hl:cs.length=ms.length){k:Nat}(h:k < cs.length):(zcn sh cs ms)[k]?=some (ms.getD k false || (decide (cs.getD k 0=sh) && decide (1≤k) && !ms.getD (k - 1) false && !ms.getD (k+1) false)):=by
 unfold zcn zf0 mapW;have gz:∀ j,(cs.zip ms)[j]?=if h:j < cs.length then some (cs[j],ms[j]'(by omega)) else none:=fun j=>by
  split
  ·rename_i q;rw[yac (by rw[yck];omega),List.getElem_zip]
  ·exact yaY (by rw[yck];omega)
 have gm:∀ j,ms.getD j false=(((cs.zip ms)[j]?).map (·.2)).getD false:=fun j=>by
  rw[gz];split
  ·rw[yaf,yac (by omega)];rfl
  ·rw[yaf,yaY (by omega)];rfl
 rw[yat,zdp,gm k,gm (k+1),gm (k - 1),yaf,yac h];have e:=gz k;rw[dif_pos h]at e;rw[e];show some _=some _;unfold zrn;cases k with
 | zero=>simp
 | succ k=>
  have e2:=gz k;rw[dif_pos (by omega)]at e2;simp[e2]
def mixM (sh:Nat)(cs:List Nat)(ms:List Bool)(k:Nat):List Bool:=(zcn sh cs ms).take k++ms.drop k
theorem zob {sh:Nat}{cs:List Nat}{ms:List Bool}(hl:cs.length=ms.length){k:Nat}(h:cs.length≤k):mixM sh cs ms k=zcn sh cs ms:=by
 unfold mixM;rw[yao (by rw[zaR hl];omega),yaX (by omega),yaJ]
theorem zfY {sh:Nat}{cs:List Nat}{ms:List Bool}(hl:cs.length=ms.length)(k:Nat):(mixM sh cs ms k).length=cs.length:=by
 unfold mixM;rw[yap,yan,yaM,zaR hl];omega
theorem zcE {sh:Nat}{cs:List Nat}{ms:List Bool}(hl:cs.length=ms.length)(k j:Nat):(mixM sh cs ms k)[j]?=if j < k then (zcn sh cs ms)[j]? else ms[j]?:=by
 unfold mixM;by_cases hk:k≤ms.length
 ·rw[List.getElem?_append,yan,zaR hl,ybh hk];split
  ·rw[yb0];rw[if_pos (by assumption)]
  ·rw[yce];congr 1;omega
 ·rw[yaX (by omega),yaJ,yao (by rw[zaR hl];omega)];split
  ·rfl
  ·rw[yaY (by rw[zaR hl];omega),yaY (by omega)]
def zph (ms:List Bool)(k:Nat):Bool:=!ms.getD (k - 1) false && !ms.getD k false && !ms.getD (k+1) false
theorem zmd {sh:Nat}{cs:List Nat}{ms:List Bool}(hl:cs.length=ms.length){k:Nat}(h:k < cs.length)(hn:¬ (1≤k∧cs.getD k 0=sh∧zph ms k=true)):mixM sh cs ms (k+1)=mixM sh cs ms k:=by
 apply ybb;intro j;rw[zcE hl,zcE hl];by_cases c:j < k
 ·rw[if_pos c,if_pos (by omega)]
 ·rw[if_neg c];split
  ·have:j=k:=by omega
   subst this;rw[zdM hl h];unfold zph at hn;rw[yac (by omega)];have e:ms.getD j false=ms[j]'(by omega):=by
    rw[yaf,yac (by omega)];rfl
   rw[e]at hn ⊢;congr 1;generalize ms[j]=a at hn ⊢;generalize ms.getD (j - 1) false=b at hn ⊢;generalize ms.getD (j+1) false=d at hn ⊢;cases a <;> cases b <;> cases d <;> simp at hn ⊢
   intro q;omega
  ·rfl
structure zrP (ms:List Bool)(sp:List Nat):Prop where
 up:sp.Pairwise (· < ·)
 iff:∀ j,j∈sp↔ms.getD j false=true
theorem zrP.lt {ms:List Bool}{sp:List Nat}(S:zrP ms sp){j:Nat}(h:j∈sp):j < ms.length:=by
 have h:=(S.iff j).mp h;rw[yaf]at h;cases e:ms[j]? with
 | none=>rw[e]at h;cases h
 | some x=>exact (yam.mp e).1
def zcR {α:Type}(es:List α)(ms:List Bool):List α:=((es.zip ms).filter (·.2)).map (·.1)
def colN (xs:List Nat):Nat→List Nat
 | 0=>xs
 | i+1=>recL (3+i) (colN xs i)
theorem zjc (xs:List Nat)(i:Nat):(colN xs i).length=xs.length:=by
 induction i with
 | zero=>rfl
 | succ i ih=>rw[colN,za3,ih]
theorem zoD {xs:List Nat}(h:Unl xs)(i:Nat):Unl (colN xs i):=by
 induction i with
 | zero=>exact h
 | succ i ih=>exact zoV (zfC (unlZ ih))
def mkN (cs:List Nat):Nat→List Bool
 | 0=>cs.map fun _=>false
 | i+1=>zcn (2 - i) cs (mkN cs i)
theorem zmc (cs:List Nat):mkN cs 3=zgF cs:=(zh5 cs).symm
theorem zkz (cs:List Nat)(i:Nat):cs.length=(mkN cs i).length:=by
 induction i with
 | zero=>rw[mkN,yab]
 | succ i ih=>rw[mkN,zaR ih,ih]
theorem zoa {sh:Nat}{cs:List Nat}{ms:List Bool}(hl:cs.length=ms.length):mixM sh cs ms 1=ms:=by
 by_cases h:0 < cs.length
 ·rw[zmd hl h (fun z=>by omega)];rfl
 ·have:ms=[]:=ycA (by omega);subst this;unfold mixM;rw[ycA (show (zcn sh cs []).length=0 by rw[zaR hl];rfl)];rfl
def zaB (ps:List Nat):Prop:=∀ i (h:i < ps.length),ps[i]≤i
def par (ps:List Nat):Nat→Option Nat
 | 0=>none
 | k+1=>ps[k]?
theorem zaM {ps:List Nat}(T:zaB ps){k p:Nat}(h:par ps k=some p):p < k∧k < ps.length+1:=by
 cases k with
 | zero=>cases h
 | succ k=>
  obtain ⟨h1,rfl⟩:=yam.mp (show ps[k]?=some p from h);have:=T k h1;omega
theorem zhd {ps:List Nat}{k:Nat}(h1:1≤k)(h2:k < ps.length+1):∃ p,par ps k=some p:=by
 cases k with
 | zero=>omega
 | succ k=>exact ⟨_,yac (show k < ps.length by omega)⟩
theorem znQ {ps:List Nat}{k:Nat}(h2:k < ps.length+1)(h:par ps k=none):k=0:=by
 cases k with
 | zero=>rfl
 | succ k=>
  have:=List.getElem?_eq_none_iff.mp (show ps[k]?=none from h);omega
def wayF (ps:List Nat)(one:Nat):Nat→Nat→Option (List Nat)
 | 0,_=>none
 | f+1,o=>if o=one then some [o] else match par ps o with
  | none=>none
  | some p=>(wayF ps one f p).map (· ++ [o])
theorem zhG {ps:List Nat}(T:zaB ps){one:Nat}:∀ f g o,o < f→o < g→wayF ps one f o=wayF ps one g o
 | 0,_,_,h,_=>absurd h (yby _)
 | _,0,_,_,h=>absurd h (yby _)
 | f+1,g+1,o,hf,hg=>by
  unfold wayF;split
  ·rfl
  ·cases e:par ps o with
   | none=>rfl
   | some p=>
    have:=(zaM T e).1;show (wayF ps one f p).map _=(wayF ps one g p).map _;rw[zhG T f g p (by omega) (by omega)]
def wayL (ps:List Nat)(one o:Nat):Option (List Nat):=wayF ps one (o+1) o
theorem zk4 {ps:List Nat}{o:Nat}:wayL ps o o=some [o]:=by
 unfold wayL wayF;rw[if_pos rfl]
theorem zea {ps:List Nat}(T:zaB ps){one o:Nat}(h:o≠one):wayL ps one o=match par ps o with
  | none=>none
  | some p=>(wayL ps one p).map (· ++ [o]):=by
 unfold wayL;rw[wayF,if_neg h];cases e:par ps o with
 | none=>rfl
 | some p=>
  show (wayF ps one o p).map _=(wayF ps one (p+1) p).map _;rw[zhG T o (p+1) p (zaM T e).1 (by omega)]
theorem zk5 {ps:List Nat}(T:zaB ps){one:Nat}:∀ n o,o≤n→o < one→wayL ps one o=none
 | n,o,hn,h=>by
  rw[zea T (by omega)];cases e:par ps o with
  | none=>rfl
  | some p=>
   have hp:=(zaM T e).1;show (wayL ps one p).map _=none;cases n with
   | zero=>omega
   | succ n=>rw[zk5 T n p (by omega) (by omega)];rfl
def isB (ps:List Nat)(k j:Nat):Bool:=(wayL ps k j).isSome
def benL (ps:List Nat)(k n:Nat):List Nat:=(List.range n).filter (isB ps k)
theorem zcc {ps:List Nat}{k:Nat}:isB ps k k=true:=by
 unfold isB;rw[zk4];rfl
theorem zdX {ps:List Nat}(T:zaB ps){k j:Nat}(h:j < k):isB ps k j=false:=by
 unfold isB;rw[zk5 T j j (yaa _) h];rfl
theorem zbS {ps:List Nat}(T:zaB ps){k j p:Nat}(h:j≠k)(e:par ps j=some p):isB ps k j=isB ps k p:=by
 unfold isB;rw[zea T h,e];show ((wayL ps k p).map _).isSome=_;cases wayL ps k p <;> rfl
theorem zoK {ps:List Nat}(T:zaB ps)(k:Nat):benL ps k (k+1)=[k]:=by
 unfold benL;rw[ycl,ybp];have e1:(List.range k).filter (isB ps k)=[]:=by
  rw[ybz];intro j hj z;rw[zdX T (ybc.mp hj)]at z;cases z
 rw[e1,List.nil_append,ybq zcc];rfl
theorem zcd {ps:List Nat}{k n j:Nat}:j∈benL ps k n↔j < n∧isB ps k j=true:=by
 unfold benL;rw[ya5,ybc]
theorem zir {ps:List Nat}{k n:Nat}:benL ps k (n+1)=benL ps k n++(if isB ps k n=true then [n] else []):=by
 unfold benL;rw[ycl,ybp];congr 1;by_cases h:isB ps k n=true
 ·rw[if_pos h,ybq h];rfl
 ·rw[if_neg h,ybO h];rfl
theorem zkb (ps:List Nat)(k n:Nat):(benL ps k n).length≤n:=by
 have:=ya2 (isB ps k) (List.range n);rw[ybi]at this;exact this
theorem zjg (ps:List Nat)(k n:Nat):(benL ps k n).Pairwise (· < ·):=List.Pairwise.filter _ List.pairwise_lt_range
theorem zj2 {ps:List Nat}(T:zaB ps):∀ n j,j≤n→j < ps.length+1→isB ps 0 j=true
 | n,j,hn,h=>by
  by_cases c:j=0
  ·rw[c];exact zcc
  ·obtain ⟨p,e⟩:=zhd (by omega) h;have:=(zaM T e).1;rw[zbS T c e];cases n with
   | zero=>omega
   | succ n=>exact zj2 T n p (by omega) (by omega)
theorem zna {ps:List Nat}(T:zaB ps):benL ps 0 (ps.length+1)=List.range (ps.length+1):=by
 unfold benL;rw[ycm];exact fun j hj=>zj2 T j j (yaa _) (ybc.mp hj)
def zb3 (ps:List Nat)(k n:Nat):List Nat:=(List.range n).filter fun j=>decide (par ps j=some k)
theorem zaE {ps:List Nat}{k n j:Nat}:j∈zb3 ps k n↔j < n∧par ps j=some k:=by
 unfold zb3;rw[ya5,ybc,decide_eq_true_eq]
theorem zgh {ps:List Nat}{k n:Nat}:zb3 ps k (n+1)=zb3 ps k n++(if par ps n=some k then [n] else []):=by
 unfold zb3;rw[ycl,ybp];congr 1;by_cases h:par ps n=some k
 ·rw[if_pos h,ybq (by exact yae h)];rfl
 ·rw[if_neg h,ybO (by rw[yah h];decide)];rfl
theorem zgL (ps:List Nat)(k n:Nat):(zb3 ps k n).length≤n:=by
 have:=ya2 (fun j=>decide (par ps j=some k)) (List.range n);rw[ybi]at this;exact this
theorem zij (ps:List Nat)(k n:Nat):(zb3 ps k n).Pairwise (· < ·):=List.Pairwise.filter _ List.pairwise_lt_range
theorem zb0 {ps:List Nat}(T:zaB ps){k:Nat}:∀ n j,j≤n→j < ps.length+1→(isB ps k j=true↔j=k∨∃ c,par ps c=some k∧isB ps c j=true)
 | n,j,hn,h=>by
  by_cases c:j=k
  ·constructor
   ·exact fun _=>.inl c
   ·intro _;rw[c];exact zcc
  ·cases e:par ps j with
   | none=>
    have j0:=znQ h e;have no:∀ m,j≠m→isB ps m j=false:=fun m hm=>by
     unfold isB;rw[zea T hm,e];rfl
    constructor
    ·intro z;rw[no k c]at z;cases z
    ·rintro (z | ⟨d,hd,z⟩)
     ·exact absurd z c
     ·by_cases y:j=d
      ·rw[← y,e]at hd;cases hd
      ·rw[no d y]at z;cases z
   | some p=>
    have hp:=(zaM T e).1;cases n with
    | zero=>omega
    | succ n=>
     have ih:=zb0 T (k:=k) n p (by omega) (by omega);rw[zbS T c e,ih];constructor
     ·rintro (z | ⟨d,hd,z⟩)
      ·refine .inr ⟨j,?_,zcc⟩;rw[e,z]
      ·by_cases y:j=d
       ·rw[← y]at z;rw[zdX T hp]at z;cases z
       ·exact .inr ⟨d,hd,by rw[zbS T y e];exact z⟩
     ·rintro (z | ⟨d,hd,z⟩)
      ·exact absurd z c
      ·by_cases y:j=d
       ·subst y;rw[e]at hd;exact .inl (yad hd)
       ·rw[zbS T y e]at z;exact .inr ⟨d,hd,z⟩
theorem zds {ps:List Nat}(T:zaB ps){k c d:Nat}(hc:par ps c=some k)(hd:par ps d=some k)(hcd:c≠d):∀ n j,j≤n→isB ps c j=true→isB ps d j=true→False
 | n,j,hn,h1,h2=>by
  by_cases e1:j=c
  ·subst e1;rw[zbS T hcd hc,zdX T (zaM T hd).1]at h2;cases h2
  ·by_cases e2:j=d
   ·subst e2;rw[zbS T e1 hd,zdX T (zaM T hc).1]at h1;cases h1
   ·cases e:par ps j with
    | none=>
     unfold isB at h1;rw[zea T e1,e]at h1;cases h1
    | some p=>
     have hp:=(zaM T e).1;rw[zbS T e1 e]at h1;rw[zbS T e2 e]at h2;cases n with
     | zero=>omega
     | succ n=>exact zds T hc hd hcd n p (by omega) h1 h2
theorem zkr {ps:List Nat}(T:zaB ps){k:Nat}(hk:k < ps.length+1):(k::((zb3 ps k (ps.length+1)).map fun c=>benL ps c (ps.length+1)).flatten).Perm (benL ps k (ps.length+1)):=by
 have lt:∀{l:List Nat},l.Pairwise (· < ·)→l.Nodup:=fun h=>List.Pairwise.imp (fun {a b} (q:a < b)=>yas q) h;refine (ycn ?_ (lt (zjg ps k _))).mpr fun j=>?_
 ·rw[yaO];refine ⟨fun h=>?_,?_⟩
  ·obtain ⟨l,hl,hj⟩:=yco.mp h;obtain ⟨c,hc,rfl⟩:=yaE.mp hl;have h1:=(zaE.mp hc).2;have h2:=(zcd.mp hj).2;rw[zdX T (zaM T h1).1]at h2;cases h2
  ·show List.Pairwise _ _;rw[List.pairwise_flatten];refine ⟨fun l hl=>?_,?_⟩
   ·obtain ⟨c,hc,rfl⟩:=yaE.mp hl;exact lt (zjg ps c _)
   ·rw[ybJ];refine List.Pairwise.imp_of_mem (fun {c d} hc hd hcd=>?_) (zij ps k _);intro x hx y hy z;subst z;exact zds T (zaE.mp hc).2 (zaE.mp hd).2 (yas hcd) x x (yaa _) (zcd.mp hx).2 (zcd.mp hy).2
 ·rw[yak,yco,zcd];constructor
  ·rintro (rfl | ⟨l,hl,hj⟩)
   ·exact ⟨hk,zcc⟩
   ·obtain ⟨c,hc,rfl⟩:=yaE.mp hl;obtain ⟨h1,h2⟩:=zcd.mp hj;exact ⟨h1,(zb0 T j j (yaa _) h1).mpr (.inr ⟨c,(zaE.mp hc).2,h2⟩)⟩
  ·rintro ⟨h1,h2⟩;rcases (zb0 T j j (yaa _) h1).mp h2 with q | ⟨c,hc,q⟩
   ·exact .inl q
   ·exact .inr ⟨_,yaE.mpr ⟨c,zaE.mpr ⟨(zaM T hc).2,hc⟩,rfl⟩,zcd.mpr ⟨h1,q⟩⟩
def zrU (t u:TS):TS:=fun D σ H=>∀ N:L2.St→Hp→Prop,(∀ σ' H',u D σ' H'→N σ' H')→t { D with nx:=N } σ H
theorem zau {X:Cx}{st:Stmt}{rest:List Stmt}{t u:TS}(h1:PS X st t)(h2:PSs X rest u):PSs X (st::rest) (zrU t u):=fun pins s σ H D I h=>zal h1 h2 pins s σ H D I (h (u D) fun _ _ z=>z)
def zrS (t u:TS):TS:=fun D σ H=>∃ M:L2.St→Hp→Prop,(∀ N:L2.St→Hp→Prop,(∀ σ' H',M σ' H'→N σ' H')→t { D with nx:=N } σ H)∧∀ σ' H',M σ' H'→u D σ' H'
theorem zbF {X:Cx}{st:Stmt}{rest:List Stmt}{t u:TS}(h1:PS X st t)(h2:PSs X rest u):PSs X (st::rest) (zrS t u):=fun pins s σ H D I h=>by
 obtain ⟨M,h3,h4⟩:=h;exact zaJ h1 h2 pins s σ H D I ⟨M,h3 M fun _ _ z=>z,h4⟩
theorem zp5 {tb:TS}{D:Ends}{Pn:L2.St→Hp→Prop}{i:Nat}{x:V}{σ:L2.St}{H:Hp}(h:∀(N B:L2.St→Hp→Prop) (R:VK),(∀ σ H,Pn σ H→N σ H)→(∀ σ H,D.nx σ H→B σ H)→(∀ v H,D.rt v H→R v H)→tb { nx:=N,rt:=R,bk:=B,ct:=N } (σ.set i (some x)) H):zkJ i x σ H fun σ2 H2=>tb { D with nx:=Pn,ct:=Pn,bk:=D.nx } σ2 H2:=h Pn D.nx D.rt (fun _ _ z=>z) (fun _ _ z=>z) (fun _ _ z=>z)
theorem zmC {tb:TS}{D:Ends}{Pn:L2.St→Hp→Prop}{σ:L2.St}{H:Hp}(h:∀(N B:L2.St→Hp→Prop) (R:VK),(∀ σ H,Pn σ H→N σ H)→(∀ σ H,D.nx σ H→B σ H)→(∀ v H,D.rt v H→R v H)→tb { nx:=N,rt:=R,bk:=B,ct:=N } σ H):tb { D with nx:=Pn,ct:=Pn,bk:=D.nx } σ H:=h Pn D.nx D.rt (fun _ _ z=>z) (fun _ _ z=>z) (fun _ _ z=>z)
theorem zpM {X:Cx}{K:Frag}{A:Around}(α:Type)[Rep α](hu:A.units+Rep.depth α < cLine)(hK:X.K=K:=by rfl)(hA:X.A=A:=by rfl):OpR X (compareOp .Eq) (rEqD α K):=by
 subst hK hA;exact zjS α hu
seal PSs PS PE PT PW PA PI PG PO
section
variable {P:Program}{w:World}{K:Frag}{mg:Str→Option Value}{base:Heap}
theorem znX (T:Txt K mg)(qbr:DF K mg "_law_mixed" zej zdG):FC P w K mg base 1 "_law_mixed" zdG zlu:=by
 refine qbr.ok qa5 (fun vs H Q E h=>?_) (fun f cdv A outer s H vs Q E hr h=>?_)
 ·obtain ⟨c,k,rfl,_⟩:=h;rfl
 obtain ⟨c,k,rfl,q⟩:=h;refine ⟨_,(zal (zar (i:=2) qa5.nd rfl (Or.inl rfl) (zaA zfd (zaA zcP (zaA zbA (zaA zbA (zaA zfd (pv 0) zaj) (zaA zcP zaj (pv 1))) zaj) zaj) zaj))
   (zal (zar (i:=3) qa5.nd rfl (Or.inl rfl) (zaA zfd (zaA zbA (zaA zbA (zaA zcP (pv 2) (pv 2)) (zaA zcP zaj (pv 2))) (pv 1)) zaj))
   (zae (zav (zaA ziN (zaA zfd (zaA zbA (zaA zbA (zaA zcP (pv 3) (pv 3)) (zaA zcP zaj (pv 3))) (zaA zcP zaj (pv 1))) zaj) zaj))))),?_⟩
 walk_at "rd"
 exact q _
theorem zn8 (T:Txt K mg)(qbs:DF K mg "_law_begin" zel zdJ):FC P w K mg base 1 "_law_begin" zdJ (zlA K):=by
 refine qbs.ok qcr (fun vs H Q E h=>?_) (fun f cdv A outer s H vs Q E hr h=>?_)
 ·obtain ⟨L,ns,rfl,_⟩:=h;rfl
 obtain ⟨L,ns,rfl,hS,q⟩:=h;refine ⟨_,(zae (zav (zpI (zhc zdm (pv 0) (zhc zdm zaj (zhc zdm zaj zpB))) rfl rfl (by simp) (by decide)))),?_⟩;intro p hp;refine ⟨_,rfl,zab,[(.inr "script",.ref L),(.inr "at",.int 0),(.inr "left",.int 0)],rfl,(by show 3≤15;decide),?_⟩;have e:upd (upd H p (.dK [])) p (.dK (zff [] [(.inr "script",.ref L),(.inr "at",.int 0),(.inr "left",.int 0)]))=upd H p (zc6 L 0 0):=by
  rw[zpl];have:zff [] [((.inr "script" : Key),V.ref L),(.inr "at",.int 0),(.inr "left",.int 0)]=[(.inr "script",.ref L),(.inr "at",.int 0),(.inr "left",.int 0)]:=by
   have a1:putK [] (.inr "script" : Key) (V.ref L)=[(.inr "script",.ref L)]:=zeo (kvs:=[]) _ rfl;have a2:putK [((.inr "script" : Key),V.ref L)] (.inr "at") (.int 0)=[(.inr "script",.ref L),(.inr "at",.int 0)]:=by
    rw[zeo _ (by rw[zbr (zdW (show ("script" : Str) ≠ "at" by decide +kernel))];rfl)];rfl
   have a3:putK [((.inr "script" : Key),V.ref L),(.inr "at",.int 0)] (.inr "left") (.int 0)=[(.inr "script",.ref L),(.inr "at",.int 0),(.inr "left",.int 0)]:=by
    rw[zeo _ (by rw[zbr (zdW (show ("script" : Str) ≠ "left" by decide +kernel)),zbr (zdW (show ("at" : Str) ≠ "left" by decide +kernel))];rfl)];rfl
   unfold zff;simp only[List.foldl_cons,List.foldl_nil];rw[a1,a2,a3]
  rw[this];rfl
 rw[e];exact q p _ hp (zah hp _) ⟨ns,0,0,zab,(zah hp _).seq hS⟩
theorem zpP (T:Txt K mg)(qbP:DF K mg "_law_take" zfx zbH)(qcy:FC P w K mg base 1 "_law_mixed" zdG zlu):FC P w K mg base 2 "_law_take" zbH (zfP K):=by
 refine qbP.ok qaz (fun vs H Q E h=>?_) (fun f cdv A outer s H vs Q E hr h=>?_)
 ·obtain ⟨d,L,m,rfl,_⟩:=h;rfl
 obtain ⟨d,L,m,rfl,⟨hm,hm'⟩,⟨ns,a,l,hd,hS⟩,q⟩:=h;refine ⟨_,(zal (zar (i:=2) qaz.nd rfl (Or.inl rfl) (zd5 (zeC hr) (pv 0) zdm (fun _ _=>rfl)))
   (zal (zar (i:=3) qaz.nd rfl (Or.inl rfl) (zd5 (zeC hr) (pv 0) zdm (fun _ _=>rfl)))
   (zaJ (zaW (zaw zgq (zd5 (zeC hr) (pv 0) zdm (fun _ _=>rfl)) zaj (zaF _)) (zal (zeQ (zeC hr) (pv 0) zdm (zaA zbA (pv 2) zaj) rfl)
   (zal (zar (i:=4) qaz.nd rfl (Or.inl rfl) zaj)
   (zaJ (zaW (zaw zlY (zap zan rfl T.qan boot_len (zaa (pv 3) zac)) zaj (zaF _)) (zae (zar (i:=4) qaz.nd rfl (Or.inl rfl) (zaO zbe (pv 3) (zaA zfd (pv 2) (zap zan rfl T.qan boot_len (zaa (pv 3) zac))) (fun _ _=>rfl)))) zay)
   (zaJ (zaW (PW.pt (zlK (zaw zpL (pv 2) (zap zan rfl T.qan boot_len (zaa (pv 3) zac)) (zaF _)) (zjH (zaw zh1 (zap zhB rfl T.qcM boot_abs (zaa (pv 4) zac)) (zaA zgD zaj zaj) (zaF _))))) (zae (zav (zaA zfd (zax qcy hr (zaa (pv 4) (zaa (pv 2) zac))) (pv 1)))) zay)
   (zae (zeQ (zeC hr) (pv 0) zdm (zap zhB rfl T.qcM boot_abs (zaa (pv 4) zac)) rfl)))))) zay)
   (zal (zar (i:=5) qaz.nd rfl (Or.inl rfl) (zaA zfd (zd5 (zeC hr) (pv 0) zdm (fun _ _=>rfl)) (pv 1)))
   (zal (zeQ (zeC hr) (pv 0) zdm (zaA ziN (zd5 (zeC hr) (pv 0) zdm (fun _ _=>rfl)) (pv 1)) rfl)
   (zae (zav (pv 5)))))))),?_⟩
 refine ⟨_,rfl,_,_,rfl,zrF hd,_,rfl,_,_,rfl,zkI hd,?_⟩;refine ⟨fun σ' H'=>∃(x2 x3 x4 x5:Option V) (a' l':Int),σ'=[some (.ref d),some (.int m),x2,x3,x4,x5]∧H' d=some (zc6 L a' l')∧Keep d H H',?_,?_⟩
 ·refine ⟨_,rfl,_,_,rfl,zhw hd,rfl,_,rfl,?_⟩;refine ite2 (fun _=>?_) (fun _=>?_)
  ·refine ⟨_,rfl,_,_,rfl,rfl,_,rfl,_,_,rfl,zqX hd,?_⟩;have hd1:upd H d (zc6 L (a+1) l) d=some (zc6 L (a+1) l):=zab;obtain ⟨-,k1⟩:=LS.set (a':=a+1) (l':=l) hd hS;have hS1:=zfs hd k1 hS;generalize upd H d (zc6 L (a+1) l)=H1 at hd1 k1 hS1 ⊢;refine ⟨fun σ' H'=>∃ c:Int,σ'=[some (.ref d),some (.int m),some (.int a),some (.ref L),some (.int c),none]∧H1=H',?_,?_⟩
   ·refine ⟨_,rfl,_,_,rfl,.inl hS1,_,_,rfl,rfl,_,rfl,?_⟩;refine ite2 (fun c=>?_) (fun c=>?_)
    ·have c':(0:Int) < (((ns.map V.int).length:Nat):Int):=yaT c;obtain ⟨v,hv⟩:=zrM (ns:=ns) (k:=a) (by rw[yab]at c';omega);refine ⟨_,rfl,_,rfl,_,rfl,_,_,rfl,.inl hS1,_,_,rfl,rfl,c',_,_,_,_,rfl,rfl,hS1,hv,?_⟩;exact ⟨v,rfl,rfl⟩
    ·exact ⟨0,rfl,rfl⟩
   rintro σ' H' ⟨c,rfl,rfl⟩;refine ⟨fun σ' H'=>σ'=[some (.ref d),some (.int m),some (.int a),some (.ref L),some (.int c),none]∧H1=H',?_,?_⟩
   ·refine ⟨_,rfl,_,rfl,_,_,rfl,.inl hS1,_,_,rfl,rfl,_,rfl,?_⟩;refine ite2 (fun _=>?_) (fun _=>?_)
    ·refine iteT ?_;refine ⟨_,rfl,_,rfl,c,a,rfl,fun v=>⟨_,rfl,_,_,rfl,rfl,hm,?_⟩⟩;exact q _ _ (ycg _ (by omega)) (ych _ hm) k1 ⟨ns,a+1,l,hd1,hS1⟩
    ·refine ⟨_,rfl,_,rfl,_,_,rfl,rfl,⟨by decide,by decide,by decide⟩,_,_,rfl,rfl,_,rfl,?_⟩;refine ite2 (fun _=>?_) (fun _=>?_)
     ·refine ⟨_,rfl,_,rfl,c,a,rfl,fun v=>⟨_,rfl,_,_,rfl,rfl,hm,?_⟩⟩;exact q _ _ (ycg _ (by omega)) (ych _ hm) k1 ⟨ns,a+1,l,hd1,hS1⟩
     ·exact ⟨rfl,rfl⟩
   rintro σ' H' ⟨rfl,rfl⟩;refine ⟨_,rfl,_,rfl,_,rfl,_,_,rfl,zjI hd1,?_⟩;obtain ⟨-,k2⟩:=LS.set (a':=a+1) (l':=if c < 0 then -c else c) hd1 hS1
   exact ⟨_,_,_,_,_,_,rfl,zab,k1.trans k2⟩
  ·exact ⟨_,_,_,_,a,l,rfl,hd,Keep.refl _ _⟩
 rintro σ' H' ⟨x2,x3,x4,x5,a',l',rfl,hd',k'⟩;have hS':=zfs hd k' hS;refine ⟨_,rfl,_,_,rfl,zhw hd',_,rfl,_,_,rfl,rfl,hm,?_⟩;refine ⟨_,rfl,_,_,rfl,zhw hd',_,rfl,_,_,rfl,rfl,⟨hm,hm'⟩,_,rfl,_,_,rfl,zjI hd',?_⟩;obtain ⟨s1,k1⟩:=LS.set (a':=a') (l':=l' / m) hd' hS';refine ⟨_,rfl,?_⟩;exact q _ _ (ycg _ (by omega)) (ych _ hm) (k'.trans k1) s1
def zqL:Sp:=fun vs H Q _=>∃ a b:Nat,vs=[.int a,.int b]∧a≠b∧Q (.int (lu a b:Nat)) H
theorem zrf (T:Txt K mg)(qat:DF K mg "lowest_unlike" zbC zbv):FC P w K mg base 1 "lowest_unlike" zbv zqL:=by
 refine qat.ok qaE (fun vs H Q E h=>?_) (fun f cdv A outer s H vs Q E hr h=>?_)
 ·obtain ⟨a,b,rfl,_⟩:=h;rfl
 obtain ⟨a,b,rfl,hab,q⟩:=h;refine ⟨_,(zal (zar (i:=2) qaE.nd rfl (Or.inl rfl) (zaA zq7 (pv 0) (pv 1)))
   (zae (zav (zaA zc9 (zq5 F.plainAttrs_int F.slot_int_bit_length F.type_int_bit_length zhl (zaA zpa (pv 2) (zpD zk9 (pv 2)))) zaj)))),?_⟩
 refine ⟨_,rfl,_,rfl,_,_,rfl,rfl,_,rfl,_,rfl,_,rfl,_,_,rfl,rfl,rfl,_,rfl,rfl,_,_,rfl,rfl,?_⟩;rw[← zrr a b hab]at q;exact q
def znz (K:Frag):Sp:=fun vs H Q _=>∃ d L:Addr,vs=[.ref d]∧LS K L d H∧∀(v:Int) (H':Hp),-(10 ^ 60) < v→v < 10 ^ 60→Keep d H H'→LS K L d H'→Q (.int v) H'
theorem zoh {x m:Int}(h1:-999≤x)(h2:x≤999)(h3:0 < m)(h4:m≤10 ^ 57):-(10 ^ 60) < x * m∧x * m < 10 ^ 60:=by
 have a:=Int.mul_le_mul_of_nonneg_right h2 (Int.le_of_lt h3);have b:=Int.mul_le_mul_of_nonneg_right h1 (Int.le_of_lt h3);omega
theorem zrh (T:Txt K mg)(qcg:DF K mg "_law_key" zg5 zdH)(qaa:FC P w K mg base 2 "_law_take" zbH (zfP K)):FC P w K mg base 3 "_law_key" zdH (znz K):=by
 refine qcg.ok qcq (fun vs H Q E h=>?_) (fun f cdv A outer s H vs Q E hr h=>?_)
 ·obtain ⟨d,L,rfl,_⟩:=h;rfl
 obtain ⟨d,L,rfl,hs,q⟩:=h;refine ⟨_,(zal (zar (i:=1) qcq.nd rfl (Or.inl rfl) (zax qaa hr (zaa (pv 0) (zaa zaj zac))))
   (zaJ (zaW (zaw zh1 (pv 1) zaj (zaF _)) (zae (zav (zax qaa hr (zaa (pv 0) (zaa zaj zac))))) zay)
   (zaJ (zaW (zaw zh1 (pv 1) zaj (zaF _)) (zae (zav (zaA zc9 (zax qaa hr (zaa (pv 0) (zaa zaj zac))) zaj))) zay)
   (zaJ (zaW (zaw zgq (pv 1) zaj (zaF _)) (zae (zav (zaA zcP (zaA zc9 (zax qaa hr (zaa (pv 0) (zaa zaj zac))) zaj) (zaO zbe (zbP (zaa zaj (zaa (zaA zgD zaj zaj) (zaa (zaA zgD zaj zaj) (zaa (zaA zgD zaj zaj) zac))))) (zax qaa hr (zaa (pv 0) (zaa zaj zac))) (fun _ _=>rfl))))) zay)
   (zae (zav (zaA zcP (zaO zbe (zbP (zaa zaj (zaa (zpD zk9 zaj) zac))) (zax qaa hr (zaa (pv 0) (zaa zaj zac))) (fun _ _=>rfl)) (zaA zc9 (zaA zc9 (zaA zgD zaj zaj) zaj) (zax qaa hr (zaa (pv 0) (zaa zaj zac))))))))))),?_⟩
 refine ⟨_,rfl,d,L,8,rfl,by decide,hs,fun w1 H1 w0 w8 k1 s1=>?_⟩;have nd:∀{H':Hp} {p:Addr},LS K L d H'→H' p=none→p≠d:=fun s hp z=>by
  obtain ⟨_,_,_,e,_⟩:=s.ex;rw[← z,hp]at e;cases e
 refine ⟨fun σ' H'=>σ'=[some (.ref d),some (.int w1)]∧H1=H',?_,?_⟩
 ·refine ⟨_,rfl,_,_,rfl,rfl,_,rfl,?_⟩;refine ite2 (fun c=>?_) (fun c=>?_)
  ·refine ⟨_,rfl,d,L,10,rfl,by decide,s1,fun u H2 u0 u1 k2 s2=>?_⟩;exact q u H2 (by omega) (by omega) (k1.trans k2) s2
  ·exact ⟨rfl,rfl⟩
 rintro σ' H' ⟨rfl,rfl⟩;refine ⟨fun σ' H'=>σ'=[some (.ref d),some (.int w1)]∧H1=H',?_,?_⟩
 ·refine ⟨_,rfl,_,_,rfl,rfl,_,rfl,?_⟩;refine ite2 (fun c=>?_) (fun c=>?_)
  ·refine ⟨_,rfl,d,L,60,rfl,by decide,s1,fun u H2 u0 u1 k2 s2=>⟨_,_,rfl,rfl,?_⟩⟩;exact q (u - 30) H2 (by omega) (by omega) (k1.trans k2) s2
  ·exact ⟨rfl,rfl⟩
 rintro σ' H' ⟨rfl,rfl⟩;refine ⟨fun σ' H'=>σ'=[some (.ref d),some (.int w1)]∧H1=H',?_,?_⟩
 ·refine ⟨_,rfl,rfl,_,rfl,?_⟩;refine ite2 (fun c=>?_) (fun c=>?_)
  ·refine ⟨_,rfl,d,L,1999,rfl,by decide,s1,fun u H2 u0 u1 k2 s2=>⟨_,_,rfl,rfl,?_⟩⟩;refine ⟨_,_,rfl,rfl,⟨by decide,by decide,by decide⟩,_,_,rfl,rfl,⟨by decide,by decide,by decide⟩,_,_,rfl,rfl,⟨by decide,by decide,by decide⟩,(by show 4≤sizeLine;decide),fun p hp=>?_⟩;refine ⟨_,rfl,d,L,4,rfl,by decide,s2.of_new hp _,fun b H3 b0 b1 k3 s3=>?_⟩;obtain ⟨m,hat,m0,m1⟩:∃ m:Int,atI [V.int 1,V.int (10 ^ (19:Int).toNat),V.int (10 ^ (38:Int).toNat),V.int (10 ^ (57:Int).toNat)] b=some (.int m)∧0 < m∧m≤10 ^ 57:=by
    have z:b=0∨b=1∨b=2∨b=3:=by omega
    rcases z with rfl | rfl | rfl | rfl
    ·exact ⟨_,rfl,by decide +kernel,by decide +kernel⟩
    ·exact ⟨_,rfl,by decide +kernel,by decide +kernel⟩
    ·exact ⟨_,rfl,by decide +kernel,by decide +kernel⟩
    ·exact ⟨_,rfl,by decide +kernel,by decide +kernel⟩
   refine ⟨_,_,_,_,rfl,rfl,SqL.of (k3 p _ (nd s2 hp) zab),hat,_,_,rfl,rfl,.inl ⟨by omega,by omega⟩,?_⟩;obtain ⟨f1,f2⟩:=zoh (x:=u - 999) (m:=m) (by omega) (by omega) m0 m1;exact q _ H3 f1 f2 ((k1.trans k2).trans ((zah hp _).keep.trans k3)) s3
  ·exact ⟨rfl,rfl⟩
 rintro σ' H' ⟨rfl,rfl⟩;refine ⟨_,rfl,(by show 2≤sizeLine;decide),fun p hp=>?_⟩;refine ⟨_,rfl,d,L,2,rfl,by decide,s1.of_new hp _,fun b H2 b0 b1 k2 s2=>?_⟩;obtain ⟨m,hat,hm⟩:∃ m:Int,atI [V.int 1,V.int (-1)] b=some (.int m)∧(m=1∨m = -1):=by
  have z:b=0∨b=1:=by omega
  rcases z with rfl | rfl
  ·exact ⟨_,rfl,.inl rfl⟩
  ·exact ⟨_,rfl,.inr rfl⟩
 refine ⟨_,_,_,_,rfl,rfl,SqL.of (k2 p _ (nd s1 hp) zab),hat,_,_,rfl,rfl,⟨by decide,by decide,by decide⟩,_,_,rfl,rfl,_,rfl,d,L,3,rfl,by decide,s2,fun u H3 u0 u1 k3 s3=>⟨_,_,rfl,rfl,_,_,rfl,rfl,.inl ⟨by omega,by omega⟩,?_⟩⟩;have e60:(10:Int) ^ (60:Int).toNat=10 ^ 60:=rfl;rw[e60];have kk:=k1.trans ((zah hp _).keep.trans (k2.trans k3));rcases hm with rfl | rfl
 ·exact q _ H3 (by omega) (by omega) kk s3
 ·exact q _ H3 (by omega) (by omega) kk s3
def Rise (es:List (Int×Int)):Prop:=es.Pairwise fun a b=>pLt a b=true
def zfq (k:Int)(e:Int×Int):Prop:=-(10 ^ 60) < e.1∧e.1 < 10 ^ 60∧0≤e.2∧e.2 < k
theorem zlM {κ:Type}[DecidableEq κ](kvs:List (κ×V))(k:κ)(v:V):(putK kvs k v).map (·.1)=if (kvs.any fun kv=>decide (kv.1=k))=true then kvs.map (·.1) else kvs.map (·.1)++[k]:=by
 unfold putK;split
 ·rw[ybo];apply ycp;intro a ha;show (if a.1=k then (a.1,v) else a).1=a.1
  split <;> rfl
 ·rw[yav];rfl
def zii (e:Int×Int):Int:=64 * (if 0≤e.1 then 2 * e.1 else -2 * e.1 - 1)+e.2
def zgr (e:Int×Int):Nat:=(zii e).toNat
theorem zfM {e:Int×Int}(h:zfq 64 e):((zgr e:Nat):Int)=zii e:=by
 obtain ⟨h1,h2,h3,h4⟩:=h;unfold zgr zii;split <;> omega
theorem zoF {e:Int×Int}(h:zfq 64 e):zgr e < 2 ^ 207:=by
 have z:=zfM h;obtain ⟨h1,h2,h3,h4⟩:=h;unfold zii at z;split at z <;> omega
theorem zm1 {e f:Int×Int}(h:zfq 64 e)(g:zfq 64 f)(z:zgr e=zgr f):e=f:=by
 have z1:=zfM h;have z2:=zfM g;obtain ⟨h1,h2,h3,h4⟩:=h;obtain ⟨g1,g2,g3,g4⟩:=g;obtain ⟨a,b⟩:=e;obtain ⟨c,d⟩:=f;rw[z,z2]at z1;unfold zii at z1;dsimp only at *;have:a=c∧b=d:=by
  split at z1 <;> split at z1 <;> omega
 rw[this.1,this.2]
def zo2 (K:Frag):Sp:=fun vs H Q _=>∃(v:V) (e:Int×Int),vs=[v]∧Rep.has K H e v∧Q (.int (zii e)) H
theorem zpU (T:Txt K mg)(qcz:DF K mg "code" zjC zhb):FC P w K mg base 1 "code" zhb (zo2 K):=by
 refine qcz.ok qcd (fun vs H Q E h=>?_) (fun f cdv A outer s H vs Q E hr h=>?_)
 ·obtain ⟨v,e,rfl,_⟩:=h;rfl
 obtain ⟨v,e,rfl,he,q⟩:=h;obtain ⟨p,x1,x2,rfl,hT,e1,e2⟩:=(show hasP K H e v from he);have hT:=SqT.of (K:=K) hT;have e1:x1=.int e.1:=e1;have e2:x2=.int e.2:=e2;subst e1 e2;refine ⟨_,(zal (zar (i:=1) qcd.nd rfl (Or.inl rfl) (zaO za0 (pv 0) zaj (fun _ _=>rfl)))
   (zal (zar (i:=2) qcd.nd rfl (Or.inl rfl) (znM (zaw zpL (pv 1) zaj (zaF _)) (zaA zcP zaj (pv 1)) (zaA zc9 (zaA zcP (zpD zk9 zaj) (pv 1)) zaj)))
   (zae (zav (zaA zbA (zaA zcP (zew rfl T.qbF) (pv 2)) (zaO za0 (pv 0) zaj (fun _ _=>rfl))))))),?_⟩
 refine ⟨_,rfl,_,_,_,_,rfl,rfl,hT,rfl,?_⟩;refine ⟨_,rfl,_,_,rfl,rfl,_,rfl,?_⟩;refine ite2 (fun c=>?_) (fun c=>?_)
 ·have c':0≤e.1:=yaT c;refine ⟨_,rfl,_,_,rfl,rfl,.inl ⟨by decide,by decide⟩,?_⟩;refine ⟨_,rfl,_,_,rfl,rfl,.inl ⟨by decide,by decide⟩,_,rfl,_,_,_,_,rfl,rfl,hT,rfl,_,_,rfl,rfl,?_⟩;unfold zii at q;rw[if_pos c']at q;exact q
 ·have c':¬ 0≤e.1:=of_decide_eq_false (yb1.mpr c);refine ⟨_,rfl,_,rfl,_,_,rfl,rfl,.inl ⟨by decide,by decide⟩,_,_,rfl,rfl,?_⟩;refine ⟨_,rfl,_,_,rfl,rfl,.inl ⟨by decide,by decide⟩,_,rfl,_,_,_,_,rfl,rfl,hT,rfl,_,_,rfl,rfl,?_⟩;unfold zii at q;rw[if_neg c']at q;exact q
abbrev nV (n:Nat):V:=.int (n:Int)
theorem zrm {v:Int}(h:0≤v):∃ n:Nat,v=(n:Int):=⟨v.toNat,by omega⟩
theorem znc {xs:List Nat}{i:Nat}(h:i < xs.length):atI (xs.map nV) (i:Int)=some (nV (xs.getD i 0)):=
 ze8 (by rw[yat,yac h,yaf,yac h];rfl)
theorem zqq {xs:List Nat}{i:Nat}(h0:i≠0)(h:i < xs.length):atI (xs.map nV) ((i:Int) - 1)=some (nV (xs.getD (i - 1) 0)):=by
 have e:(i:Int) - 1=((i - 1:Nat):Int):=by omega
 rw[e];exact znc (by omega)
theorem zmL {xs:List Nat}{i:Nat}{x:V}(h:(xs.map nV)[i]?=some x):i < xs.length∧x=nV (xs.getD i 0):=by
 rw[yat]at h;cases e:xs[i]? with
 | none=>rw[e]at h;cases h
 | some y=>
  rw[e]at h;refine ⟨(yam.mp e).1,?_⟩;rw[yaf,e];exact (yad h).symm
theorem zqr (n:Nat):Builtin.bitAnd (n:Int) 1=((n % 2:Nat):Int):=by
 unfold Builtin.bitAnd;rw[yae (ybr n),yae (by decide:(0:Int)≤1)];show ((n &&& 1:Nat):Int)=_;rw[Nat.and_one_is_mod]
theorem zrJ (a b:Nat):2 * ((lu a b:Nat):Int)+Builtin.bitAnd ((b:Int) / 2 ^ ((lu a b:Nat):Int).toNat) 1=((fig a b:Nat):Int):=by
 have e:(b:Int) / 2 ^ ((lu a b:Nat):Int).toNat=((b / 2 ^ lu a b:Nat):Int):=by
  rw[ya9,Int.natCast_ediv,Int.natCast_pow];rfl
 rw[e,zqr];unfold fig;omega
def But (p:Addr)(H H':Hp):Prop:=∀ b o,b≠p→H b=some o→H' b=some o
theorem But.sq {K:Frag}{p:Addr}{H H':Hp}{a:Addr}{xs:List V}(k:But p H H')(h:SqL K H a xs)(n:H p=none):SqL K H' a xs:=by
 rcases h with (h | ⟨o,h⟩) | h
 ·exact .inl (.inl (k _ _ (zad h n) h))
 ·exact .inl (.inr ⟨o,k _ _ (zad h n) h⟩)
 ·exact .inr h
theorem zmQ (xs:List Nat):(xs.map nV).all zeZ=true:=by
 rw[ya1];intro x hx;obtain ⟨n,_,rfl⟩:=yaE.mp hx;rfl
theorem zpd (n:Nat)(xs:List Nat):inV (.int (n:Int)) (xs.map nV)=decide (n∈xs):=by
 unfold inV
 induction xs with
 | nil=>rfl
 | cons x xs ih=>
  rw[yar,yba,ih];show ((x:Int) == (n:Int) || decide (n∈xs))=decide (n∈x::xs);by_cases h:x=n
  ·subst h;simp
  ·have:((x:Int) == (n:Int))=false:=by
    rw[beq_eq_false_iff_ne];omega
   rw[this,Bool.false_or];have e:(n∈x::xs)=(n∈xs):=propext (by simp[Ne.symm h]);simp[Ne.symm h]
def zju (K:Frag):Sp:=fun vs H Q _=>∃(a:Addr) (xs:List Nat),vs=[.ref a]∧SqL K H a (xs.map nV)∧Unl xs∧xs.length≤1000∧
 ∀(p:Addr) (H':Hp),H p=none→Same H H'→H' p=some (.lst ((zdc xs).map nV))→Q (.ref p) H'
theorem zl0 (T:Txt K mg)(qbQ:DF K mg "turned" zft zep)(qbt:FC P w K mg base 1 "lowest_unlike" zbv zqL):FC P w K mg base 2 "turned" zep (zju K):=by
 refine qbQ.ok qaG (fun vs H Q E h=>?_) (fun f cdv A outer s H vs Q E hr h=>?_)
 ·obtain ⟨a,xs,rfl,_⟩:=h;rfl
 obtain ⟨a,xs,rfl,hS,hu,hz,q⟩:=h;refine ⟨_,(zal (zar (i:=1) qaG.nd rfl (Or.inl rfl) (zbP zac))
   (zal (zbd PassesOwn.never rfl (zhY rfl T.qcf (zaa (pv 0) zac)) (zgB rfl (za5 (zat (i:=2) qaG.nd rfl (Or.inl rfl)) (za5 (zat (i:=3) qaG.nd rfl (Or.inl rfl)) zeR))) (zae (zaW (zaw zgq (pv 2) zaj (zaF _)) (zae (zbx (zfn F.plainAttrs_list F.slot_list_append F.type_list_append zbo (pv 1) (zaa (zaA zfd (pv 3) zaj) zac)))) (zal (zar (i:=4) qaG.nd rfl (Or.inl rfl) (zax qbt hr (zaa (zaO zbe (pv 0) (zaA zc9 (pv 2) zaj) (fun _ _=>rfl)) (zaa (pv 3) zac))))
   (zae (zbx (zfn F.plainAttrs_list F.slot_list_append F.type_list_append zbo (pv 1) (zaa (zaA zbA (zaA zcP zaj (pv 4)) (zaA zpa (zaA zq8 (pv 3) (pv 4)) zaj)) zac))))))))
   (zae (zav (pv 1))))),?_⟩
 refine ⟨(by show 0≤sizeLine;decide),fun p hp=>?_⟩;have k0:But p H (upd H p (.lst [])):=fun b o n e=>by rw[zaf n];exact e
 refine ⟨_,rfl,a,rfl,⟨_,k0.sq hS hp⟩,?_⟩;refine zot (xs:=xs.map nV) (fun i σ H2=>∃ x2 x3 x4:Option V,σ=[some (.ref a),some (.ref p),x2,x3,x4]∧H2 p=some (.lst (((zdc xs).take i).map nV))∧But p H H2) ?_ ?_ ?_ ?_
 ·exact ⟨_,_,_,rfl,zab,k0⟩
 ·rintro i σ H2 _ ⟨x2,x3,x4,rfl,_,k2⟩;exact k2.sq hS hp
 ·rintro i x σ H2 r hx ⟨x2,x3,x4,rfl,h2,k2⟩ hr;obtain ⟨hi,rfl⟩:=zmL hx;have hS2:=k2.sq hS hp;have np:p≠r:=zad h2 hr;have h3:upd H2 r (.tup [.int i,nV (xs.getD i 0)]) p=some (.lst (((zdc xs).take i).map nV)):=by rw[zaf np];exact h2
  have k3:But p H (upd H2 r (.tup [.int i,nV (xs.getD i 0)])):=fun b o n e=>(zah hr _) b o (k2 b o n e);have hS3:=k3.sq hS hp;have hlen:(((zdc xs).take i).map nV).length < sizeLine:=zaq (by rw[yab,yan,zbz];omega);refine ⟨r,_,rfl,SqT.of zab,rfl,_,_,rfl,_,_,rfl,rfl,?_⟩;generalize upd H2 r (.tup [.int i,nV (xs.getD i 0)])=H3 at h3 k3 hS3 ⊢;have fin:∀ v:V,v=nV (zec xs i)→∃ y2 y3 y4:Option V,[some (V.ref a),some (V.ref p),y2,y3,y4]=[some (V.ref a),some (V.ref p),y2,y3,y4]∧upd H3 p (.lst (((zdc xs).take i).map nV++[v])) p=some (.lst (((zdc xs).take (i+1)).map nV))∧But p H (upd H3 p (.lst (((zdc xs).take i).map nV++[v]))):=by
   rintro v rfl;refine ⟨none,none,none,rfl,?_,fun b o n e=>by rw[zaf n];exact k3 b o n e⟩;rw[zab,zkj hi,yav];rfl
  refine ⟨_,rfl,rfl,_,rfl,?_⟩;refine ite2 (fun c=>?_) (fun c=>?_)
  ·have c':i=0:=by
    have:=V.int.inj (yaT c);omega
   refine ⟨_,rfl,.inl ⟨rfl,_,SqL.of h3⟩,_,rfl,_,_,rfl,rfl,(by show (0:Int) < 2;decide),_,_,_,rfl,rfl,h3,hlen,?_⟩;obtain ⟨_,_,_,_,g2,g3⟩:=fin (.int (((xs.getD i 0:Nat):Int) % 2)) (by
    unfold zec;rw[if_pos c',c'];show V.int _=V.int _;rw[Int.natCast_emod];rfl)
   exact ⟨_,_,_,rfl,g2,g3⟩
  ·have c':i≠0:=fun z=>c (by subst z;decide);have hne:xs.getD (i - 1) 0≠xs.getD i 0:=by
    have:=hu (i - 1) (by omega);rw[show i - 1+1=i by omega]at this;exact this
   refine ⟨_,rfl,_,rfl,_,_,rfl,rfl,_,_,_,_,rfl,rfl,hS3,zqq c' hi,_,rfl,_,_,rfl,hne,?_⟩;refine ⟨_,rfl,.inl ⟨rfl,_,SqL.of h3⟩,_,rfl,_,_,rfl,rfl,.inl ⟨by decide,by decide⟩,_,rfl,_,rfl,_,_,rfl,rfl,ybr _,_,_,rfl,rfl,_,_,rfl,rfl,_,_,_,rfl,rfl,h3,hlen,?_⟩;obtain ⟨_,_,_,_,g2,g3⟩:=fin (.int (2 * ((lu (xs.getD (i - 1) 0) (xs.getD i 0):Nat):Int)+Builtin.bitAnd (((xs.getD i 0:Nat):Int) / 2 ^ ((lu (xs.getD (i - 1) 0) (xs.getD i 0):Nat):Int).toNat) 1)) (by
    unfold zec;rw[if_neg c',zrJ])
   exact ⟨_,_,_,rfl,g2,g3⟩
 ·rintro σ H2 ⟨x2,x3,x4,rfl,h2,k2⟩;refine ⟨_,rfl,?_⟩;refine q p H2 hp (fun b o e=>k2 b o (zad e hp) e) ?_;rw[h2,yao (by rw[zbz,yab];exact yaa _)]
def zdb:Nat→List Nat→List Nat
 | 0,xs=>xs
 | n+1,xs=>zdc (zdb n xs)
theorem zcw (n:Nat)(xs:List Nat):(zdb n xs).length=xs.length:=by
 induction n with
 | zero=>rfl
 | succ n ih=>rw[zdb,zbz,ih]
theorem zcL {xs:List Nat}(h:Unl xs)(n:Nat):Unl (zdb n xs):=by
 induction n with
 | zero=>exact h
 | succ n ih=>exact zlb ih
theorem zdT {m k:Nat}{xs:List Nat}(h:zdx m xs)(hk:m≤k):zdx k xs:=fun i hi=>yax (h i hi) hk
theorem zpq {xs:List Nat}(h:Unl xs)(hb:zdx (2 ^ 207) xs):zdx 414 (zdb 1 xs):=zch (k:=207) (by decide) h hb
theorem zpp {xs:List Nat}(h:Unl xs)(hb:zdx (2 ^ 207) xs):zdx 18 (zdb 2 xs):=zch (k:=9) (by decide) (zcL h 1) (zdT (zpq h hb) (by decide))
theorem zpo {xs:List Nat}(h:Unl xs)(hb:zdx (2 ^ 207) xs):zdx 10 (zdb 3 xs):=zch (k:=5) (by decide) (zcL h 2) (zdT (zpp h hb) (by decide))
theorem zpn {xs:List Nat}(h:Unl xs)(hb:zdx (2 ^ 207) xs):zdx 8 (zdb 4 xs):=zch (k:=4) (by decide) (zcL h 3) (zdT (zpo h hb) (by decide))
theorem zpm {xs:List Nat}(h:Unl xs)(hb:zdx (2 ^ 207) xs):zdx 6 (zdb 5 xs):=zch (k:=3) (by decide) (zcL h 4) (zdT (zpn h hb) (by decide))
def zcT (es:List (Int×Int)):List Nat:=es.map zgr
theorem zaT (es:List (Int×Int)):(zcT es).length=es.length:=yab _
theorem ze3 {es:List (Int×Int)}{i:Nat}(h:i < es.length):(zcT es).getD i 0=zgr es[i]:=by
 unfold zcT;rw[yaf,yat,yac h];rfl
theorem zjd {es:List (Int×Int)}(h:∀ e∈es,zfq 64 e):zdx (2 ^ 207) (zcT es):=fun i hi=>by
 rw[zaT]at hi;rw[ze3 hi];exact zoF (h _ (yaN hi))
theorem zge {es:List (Int×Int)}(h:∀ e∈es,zfq 64 e)(hr:Rise es):Unl (zcT es):=fun i hi=>by
 rw[zaT]at hi;rw[ze3 (by omega),ze3 hi];intro z;have e:=zm1 (h _ (yaN (by omega))) (h _ (yaN hi)) z;have:=yaV.mp hr i (i+1) (by omega) hi (by omega);rw[e]at this;have q:=zcI.mp this;omega
theorem zkP {es:List (Int×Int)}{i:Nat}(h:i < es.length):(zcT es).take (i+1)=(zcT es).take i++[zgr es[i]]:=by
 have h':i < (zcT es).length:=by rw[zaT];exact h
 have z:(zcT es)[i]'h'=zgr es[i]:=List.getElem_map zgr;rw[yaK h',z]
def zjw (K:Frag):Sp:=fun vs H Q _=>∃(a:Addr) (ws:List V) (es:List (Int×Int)),vs=[.ref a]∧SqL K H a ws∧zak K H es ws∧es.length≤1000∧(∀ e∈es,zfq 64 e)∧Rise es∧
 ∀(p:Addr) (H':Hp),H p=none→Same H H'→H' p=some (.lst ((zdb 5 (zcT es)).map nV))→Q (.ref p) H'
theorem zkQ {K:Frag}{H0 H2:Hp}{D:Addr}{es:List (Int×Int)}{ws:List V}{i:Nat}{x:V}(hD:H0 D=none)(hw:zak K H0 es ws)(hx:ws[i]?=some x)(k:But D H0 H2):∃ h:i < es.length,Rep.has K H2 es[i] x:=by
 obtain ⟨e,h1,h2⟩:=hw.get hx;have hi:=(yam.mp h1).1;refine ⟨hi,?_⟩;have z:es[i]=e:=(yam.mp h1).2;rw[z];obtain ⟨a,x1,x2,rfl,q,e1,e2⟩:=(show hasP K H0 e x from h2);exact ⟨a,x1,x2,rfl,k _ _ (zad q hD) q,e1,e2⟩
theorem zl4 (T:Txt K mg)(qbR:DF K mg "labels" zfv zes)(qcX:FC P w K mg base 1 "code" zhb (zo2 K))(qcF:FC P w K mg base 2 "turned" zep (zju K)):FC P w K mg base 3 "labels" zes (zjw K):=by
 refine qbR.ok qaZ (fun vs H Q E h=>?_) (fun f cdv A outer s H vs Q E hr h=>?_)
 ·obtain ⟨a,ws,es,rfl,_⟩:=h;rfl
 obtain ⟨a,ws,es,rfl,hS,hw,hz,he,hri,q⟩:=h;have hlen:=hw.length;refine ⟨_,(zal (ziJ (i:=1) (N:=["entry"]) (own:=1) (cap:=[]) qaZ.nd rfl rfl rfl (zb2 (pv 0)) ⟨rfl,rfl,rfl,rfl,rfl,rfl⟩ (fun _ _ _ _ _=>(zat (i:=0) (show List.Nodup (["entry"]:List Str) by decide +kernel) rfl (Or.inl rfl))) (fun _ _ _ _ _=>zc1) (fun _ _ _ _ _=>(zax qcX hr (zaa (pv 0) zac))))
   (zal (zbd PassesOwn.never rfl (zbJ rfl T.qaj (zaa (zew rfl T.qcN) zac)) (zat (i:=2) qaZ.nd rfl (Or.inl rfl)) (zae (zar (i:=1) qaZ.nd rfl (Or.inl rfl) (zax qcF hr (zaa (pv 1) zac)))))
   (zae (zav (pv 1))))),?_⟩
 refine ⟨_,rfl,a,rfl,⟨_,hS⟩,fun D hD=>?_⟩;have k0:But D H (upd H D (.lst [])):=fun b o n e=>by rw[zaf n];exact e
 refine zcs (xs:=ws) (fun i σ H2=>∃ x0:Option V,σ=[x0]∧H2 D=some (.lst (((zcT es).take i).map nV))∧But D H H2) ?_ ?_ ?_ ?_
 ·exact ⟨_,rfl,zab,k0⟩
 ·rintro i σ H2 _ ⟨x0,rfl,_,k2⟩;exact k2.sq hS hD
 ·rintro i m x σ H2 hx hm ⟨x0,rfl,h2,k2⟩;obtain ⟨hi,hhas⟩:=zkQ hD hw hx k2;refine zdr ?_;refine ⟨_,rfl,x,es[i],rfl,hhas,?_⟩;refine ⟨_,h2,zaq (by rw[yab,yan,zaT];omega),m - 1,by omega,by omega,_,rfl,?_,fun b o n e=>by rw[zaf n];exact k2 b o n e⟩;rw[zab,zkP hi,yav,← zfM (he _ (yaN hi))];rfl
 ·rintro σ H2 ⟨x0,rfl,h2,k2⟩;have e0:H2 D=some (.lst ((zcT es).map nV)):=by
   rw[h2,yao (by rw[zaT];omega)]
  have same0:Same H H2:=fun b o e=>k2 b o (zad e hD) e;refine ⟨5,rfl,by decide,by decide,?_⟩;refine zbq (n:=5) (fun i σ H3=>∃(p:Addr) (x2 x3:Option V),σ=[some (.ref a),some (.ref p),x2]∧H p=none∧Same H H3∧H3 p=some (.lst ((zdb i (zcT es)).map nV))) ?_ ?_ ?_
  ·exact ⟨D,_,none,rfl,hD,same0,e0⟩
  ·rintro i σ H3 hi ⟨p,x2,x3,rfl,hp,s3,h3⟩;refine ⟨_,rfl,p,_,rfl,SqL.of h3,zcL (zge he hri) i,by rw[zcw,zaT];exact hz,fun p4 H4 hp4 s4 h4=>?_⟩;exact ⟨p4,_,none,rfl,s3.free hp4,s3.trans s4,h4⟩
  ·rintro σ H3 ⟨p,x2,x3,rfl,hp,s3,h3⟩;refine ⟨_,rfl,?_⟩;exact q p H3 hp s3 h3
theorem zcH {n d i:Nat}:HT.sIx n d (some (i:Int))=min i n:=by
 unfold HT.sIx;simp
 try omega
theorem zj8 (xs:List V)(a b:Nat):cutV xs (some (a:Int)) (some (b:Int))=(xs.drop a).take (b - a):=by
 unfold cutV;rw[zcH,zcH];by_cases h:a≤xs.length
 ·rw[ybh h];by_cases h2:b≤xs.length
  ·rw[ybh h2]
  ·rw[ybK (by omega),yao (by rw[yaM];exact yaa _),yao (by rw[yaM];omega)]
 ·rw[ybK (show xs.length≤a by omega),yaX (yaa _),yaX (show xs.length≤a by omega)];simp
theorem zgu {α:Type}(xs:List α)(k:Nat):(xs.drop k).take 1=xs[k]?.toList:=by
 by_cases h:k < xs.length
 ·rw[yb6 h,yac h];rfl
 ·rw[yaX (by omega),yaY (by omega)];rfl
theorem zmZ {xs:List V}{k:Nat}{i j:Int}(hi:i=if (k:Int) - 1 > 0 then (k:Int) - 1 else 0)(hj:j=(k:Int)):cutV xs (some i) (some j)=(if k=0 then none else xs[k - 1]?).toList:=by
 subst hj;have e:i=((k - 1:Nat):Int):=by
  rw[hi];split <;> omega
 subst e;rw[zj8];split
 ·rename_i h;subst h;simp
 ·rw[show k - (k - 1)=1 by omega,zgu]
theorem zkO {xs:List V}{k:Nat}{i j:Int}(hi:i=(k:Int)+1)(hj:j=(k:Int)+2):cutV xs (some i) (some j)=xs[k+1]?.toList:=by
 subst hi hj;rw[show (k:Int)+1=((k+1:Nat):Int) by omega,show (k:Int)+2=((k+2:Nat):Int) by omega,zj8,show k+2 - (k+1)=1 by omega,zgu]
theorem zm9 (xs:List Nat)(k:Nat):(if k=0 then none else (xs.map nV)[k - 1]?).toList++(xs.map nV)[k+1]?.toList=(zaV xs k).map nV:=by
 unfold zaV;rw[yav,yat,yat];congr 1
 ·split
  ·rfl
  ·cases xs[k - 1]? <;> rfl
 ·cases xs[k+1]? <;> rfl
theorem But.new {p b:Addr}{H H2:Hp}(k:But p H H2)(hb:H2 b=none)(o:HO):But p H (upd H2 b o):=fun x o' n e=>(zah hb o) x o' (k x o' n e)
def zhS (K:Frag):Sp:=fun vs H Q _=>∃(a:Addr) (xs:List Nat),vs=[.ref a]∧SqL K H a (xs.map nV)∧Unl xs∧zdx 6 xs∧xs.length≤1000∧
 ∀(p:Addr) (H':Hp),H p=none→Same H H'→H' p=some (.lst ((colL xs).map nV))→Q (.ref p) H'
def zez (es:List (Int×Int)):List Bool:=zgF (colL (zdb 5 (zcT es)))
theorem zhm (es:List (Int×Int)):(zez es).length=es.length:=by
 unfold zez;rw[zhn,zgd,zcw,zaT]
theorem zmq {es:List (Int×Int)}(he:∀ e∈es,zfq 64 e)(hri:Rise es):Unl (zdb 5 (zcT es)):=zcL (zge he hri) 5
theorem zmr {es:List (Int×Int)}(he:∀ e∈es,zfq 64 e)(hri:Rise es):zdx 6 (zdb 5 (zcT es)):=zpm (zge he hri) (zjd he)
def zlv (K:Frag):Sp:=fun vs H Q _=>∃(a:Addr) (ws:List V) (es:List (Int×Int)),vs=[.ref a]∧H a=some (.lst ws)∧zak K H es ws∧es.length≤1000∧(∀ e∈es,zfq 64 e)∧Rise es∧
 ∀(p:Addr) (H':Hp),H p=none→Same H H'→H' p=some (.lst ((zez es).map V.bl))→Q (.ref p) H'
def zgZ (K:Frag):Sp:=fun vs H Q _=>∃(a:Addr) (ws:List V) (es:List (Int×Int)),vs=[.ref a]∧H a=some (.lst ws)∧zak K H es ws∧es.length≤1000∧(∀ e∈es,zfq 64 e)∧Rise es∧
 ∀(p:Addr) (H':Hp),H p=none→Same H H'→H' p=some (.lst (zcR ws (zez es)))→Q (.ref p) H'
theorem zgt (o:Option Bool):o.toList.any id=o.getD false:=by
 cases o with
 | none=>rfl
 | some b=>cases b <;> rfl
theorem zol (ms:List Bool):inV (.bl true) (ms.map V.bl)=ms.any id:=by
 unfold inV
 induction ms with
 | nil=>rfl
 | cons m ms ih=>
  rw[yar,yba,ih,yba];cases m <;> rfl
theorem zqh (ms:List Bool):(ms.map V.bl).all zeZ=true:=by
 rw[ya1];intro x hx;obtain ⟨n,_,rfl⟩:=yaE.mp hx;rfl
theorem zmK {α:Type}{as:List α}{bs:List Bool}{a:α}{b:Bool}(h:as.length=bs.length):zcR (as++[a]) (bs++[b])=zcR as bs++(if b=true then [a] else []):=by
 unfold zcR;rw[List.zip_append h,ybp,yav];congr 1;cases b <;> rfl
theorem zi2 {α:Type}(as:List α)(bs:List Bool):(zcR as bs).length≤as.length:=by
 unfold zcR;rw[yab];refine yaw (ya2 _ _) ?_;rw[yck];omega
theorem zfI {α:Type}[Rep α]{K:Frag}{H:Hp}:∀{es:List α} {ws:List V} {ms:List Bool},zak K H es ws→zak K H (zcR es ms) (zcR ws ms)
 | _,_,_,.nil=>by
  unfold zcR;exact .nil
 | e::es,w::ws,[],.cons h t=>by
  unfold zcR;exact .nil
 | e::es,w::ws,m::ms,.cons h t=>by
  have:=zfI (ms:=ms) t;unfold zcR at this ⊢;cases m with
  | false=>exact this
  | true=>exact .cons h this
theorem zdZ (bs:List Nat)(c:Nat):((List.range (c+1)).filter fun c=>!decide (c∈bs))=((List.range c).filter fun c=>!decide (c∈bs))++(if c∈bs then [] else [c]):=by
 rw[ycl,ybp];congr 1;by_cases h:c∈bs
 ·rw[if_pos h];simp[List.filter,h]
 ·rw[if_neg h];simp[List.filter,h]
theorem zdV {H:Hp}{p t:Addr}{xs ys:List V}(h1:H p=some (.lst xs))(h2:H t=some (.tup ys)):p≠t:=fun z=>by
 rw[z,h2]at h1;cases h1
theorem zht {n k:Nat}(h:k < n):ixN n (k:Int)=some k:=by
 unfold ixN;simp;omega
def besV (xs:List V)(k:Nat):List V:=(if k=0 then none else xs[k - 1]?).toList++xs[k+1]?.toList
theorem zje (xs:List V)(k:Nat):(besV xs k).length≤2:=by
 have e:∀ o:Option V,o.toList.length≤1:=fun o=>by cases o <;> simp
 unfold besV;rw[yap];have:=e (if k=0 then none else xs[k - 1]?)
 have:=e xs[k+1]?;omega
def spNb (K:Frag):Sp:=fun vs H Q _=>∃(a:Addr) (xs:List V) (k:Nat),vs=[.ref a,.int k]∧H a=some (.lst xs)∧
 ∀(g:Addr) (H':Hp),H g=none→Same H H'→H' g=some (.lst (besV xs k))→Q (.ref g) H'
theorem zhi (T:Txt K mg)(qaJ:DF K mg "neighbours" zcx zbG):FC P w K mg base 1 "neighbours" zbG (spNb K):=by
 refine qaJ.ok qbK (fun vs H Q E h=>?_) (fun f cdv A outer s H vs Q E hr h=>?_)
 ·obtain ⟨a,xs,k,rfl,_⟩:=h;rfl
 obtain ⟨a,xs,k,rfl,ha,q⟩:=h;refine ⟨_,(zae (zav (zaA zrb (zcb zlD (pv 0) (zcl (zap (zik rfl) rfl T.qcW boot_max (zaa (zaA zc9 (pv 1) zaj) (zaa zaj zac)))) (zcl (pv 1))) (zcb zlD (pv 0) (zcl (zaA zbA (pv 1) zaj)) (zcl (zaA zbA (pv 1) zaj)))))),?_⟩;refine ⟨_,rfl,_,rfl,_,_,rfl,rfl,_,_,rfl,_,rfl,_,rfl,_,rfl,_,_,rfl,SqL.of ha,fun b hb=>?_⟩;have kb:=zah hb (.lst (cutV xs (some (if 0 > (k:Int) - 1 then 0 else (k:Int) - 1)) (some (k:Int))))
 have hbb:upd H b (.lst (cutV xs (some (if 0 > (k:Int) - 1 then 0 else (k:Int) - 1)) (some (k:Int)))) b=some (.lst (if k=0 then none else xs[k - 1]?).toList):=by
  rw[zab,zmZ (k:=k) (by split <;> split <;> omega) rfl]
 generalize upd H b (.lst (cutV xs (some (if 0 > (k:Int) - 1 then 0 else (k:Int) - 1)) (some (k:Int))))=H3 at kb hbb ⊢
 refine ⟨_,rfl,_,rfl,_,_,rfl,rfl,_,rfl,_,rfl,_,_,rfl,rfl,_,rfl,_,_,rfl,SqL.of (kb _ _ ha),fun c hc=>?_⟩;have kc:=zah hc (.lst (cutV xs (some ((k:Int)+1)) (some ((k:Int)+2))));have hcb:=kc _ _ hbb;have hcc:upd H3 c (.lst (cutV xs (some ((k:Int)+1)) (some ((k:Int)+2)))) c=some (.lst xs[k+1]?.toList):=by
  rw[zab,zkO (k:=k) rfl rfl]
 generalize upd H3 c (.lst (cutV xs (some ((k:Int)+1)) (some ((k:Int)+2))))=H4 at kc hcb hcc ⊢;refine ⟨b,c,_,_,rfl,rfl,hcb,hcc,?_,fun g hg=>?_⟩
 ·rw[← yap];exact yaw (zje xs k) (by decide)
 exact q g _ (kb.free (kc.free hg)) (kb.trans (kc.trans (zah hg _))) zab
def zo1 (K:Frag):Sp:=fun vs H Q _=>∃(a:Addr) (xs:List Nat) (k:Nat),vs=[.ref a]∧H a=some (.lst ((zaV xs k).map nV))∧
 ∀ H':Hp,Same H H'→Q (.int (zdY xs k:Nat)) H'
theorem zhj (T:Txt K mg)(qaK:DF K mg "least_free" zcy zb9):FC P w K mg base 1 "least_free" zb9 (zo1 K):=by
 refine qaK.ok qbL (fun vs H Q E h=>?_) (fun f cdv A outer s H vs Q E hr h=>?_)
 ·obtain ⟨a,xs,k,rfl,_⟩:=h;rfl
 obtain ⟨a,xs,k,rfl,ha,q⟩:=h;refine ⟨_,(zae (zav (zap (zm8 rfl) rfl T.qc1 boot_min (zaa (zcm (N:=["colour","taken"]) (own:=1) (cap:=[0]) rfl (zgA (zbO (zaa zaj (zaa zaj (zaa zaj zac))))) ⟨rfl,rfl,rfl,rfl,rfl,rfl⟩ (fun _ _ _ _ _=>(zat (i:=0) (show List.Nodup (["colour","taken"]:List Str) by decide +kernel) rfl (Or.inl rfl))) (fun _ _ _ _ _=>(zfU (zaw (zhg (K:=K)) (pv 0) (pv 1) (by with_unfolding_all rfl)))) (fun _ _ _ _ _=>(pv 0))) zac)))),?_⟩
 refine ⟨(by show 3≤sizeLine;decide),fun t ht=>?_⟩;have st:=zah ht (.tup [V.int 0,V.int 1,V.int 2]);have ht1:upd H t (.tup [V.int 0,V.int 1,V.int 2]) t=some (.tup [V.int 0,V.int 1,V.int 2]):=zab;generalize upd H t (.tup [V.int 0,V.int 1,V.int 2])=H1 at st ht1 ⊢;have h1a:=st _ _ ha;refine ⟨t,rfl,⟨_,SqT.of ht1⟩,fun D hD=>?_⟩;refine zeE (xs:=[V.int 0,V.int 1,V.int 2]) (fun c σ H6=>∃ x0:Option V,σ=[x0,some (.ref a)]∧H6 D=some (.lst (((List.range c).filter fun c=>!decide (c∈zaV xs k)).map nV))∧But D H1 H6) ?_ ?_ ?_ ?_
 ·exact ⟨_,rfl,zab,fun b o n e=>by rw[zaf n];exact e⟩
 ·rintro i σ H6 _ ⟨x0,rfl,_,k6⟩;exact SqT.of (k6 _ _ (zad ht1 hD) ht1)
 ·rintro c m x σ H6 hx hm ⟨x0,rfl,h6,k6⟩;obtain ⟨hi,rfl⟩:c < 3∧x=V.int (c:Int):=by
   rcases c with _ | _ | _ | c
   ·exact ⟨by decide,(yad hx).symm⟩
   ·exact ⟨by decide,(yad hx).symm⟩
   ·exact ⟨by decide,(yad hx).symm⟩
   ·cases hx
  have h6g:=k6 _ _ (zad h1a hD) h1a;have hlen:=ya2 (fun c=>!decide (c∈zaV xs k)) (List.range c);rw[ybi]at hlen;refine ⟨_,rfl,_,rfl,_,_,rfl,.inl (SqL.of h6g),rfl,zmQ _,_,rfl,?_⟩;show if (!inV (.int (c:Int)) ((zaV xs k).map nV))=true then _ else _
  rw[zpd];have hm3:c+m=3:=hm;refine ite2 (fun e=>?_) (fun e=>?_)
  ·have e':c∉zaV xs k:=fun z=>by
    rw[yae z]at e;cases e
   refine ⟨_,rfl,_,h6,zaq (by rw[yab];omega),m - 1,by omega,(by show c+1+(m - 1)=3;omega),_,rfl,?_,fun b o n e=>by rw[zaf n];exact k6 b o n e⟩;rw[zab,zdZ,if_neg e',yav];rfl
  ·have e':c∈zaV xs k:=Decidable.byContradiction fun z=>e (by rw[yah z];rfl);refine ⟨m - 1,by omega,(by show c+1+(m - 1)=3;omega),_,rfl,?_,k6⟩;rw[h6,zdZ,if_pos e',yaJ]
 ·rintro σ H6 ⟨x0,rfl,h6,k6⟩;have h6:H6 D=some (.lst (((List.range 3).filter fun c=>!decide (c∈zaV xs k)).map nV)):=h6;have s6:Same H1 H6:=fun b o e=>k6 b o (zad e hD) e;have mem:∀ c,c∈((List.range 3).filter fun c=>!decide (c∈zaV xs k))↔c < 3∧c∉zaV xs k:=fun c=>by
   rw[ya5,ybc];constructor
   ·rintro ⟨h1,h2⟩;refine ⟨h1,fun z=>?_⟩;rw[yae z]at h2;cases h2
   ·rintro ⟨h1,h2⟩;exact ⟨h1,by rw[yah h2];rfl⟩
  have hf:zdY xs k∈((List.range 3).filter fun c=>!decide (c∈zaV xs k)):=(mem _).mpr ⟨Nat.lt_succ_of_le (zmO xs k),zkL⟩;refine ⟨D,((List.range 3).filter fun c=>!decide (c∈zaV xs k)).map fun n:Nat=>(n:Int),rfl,?_,?_,fun M hM hL=>?_⟩
  ·rw[ybo];exact SqL.of h6
  ·rw[yab];exact List.length_pos_of_mem hf
  have eM:M=(zdY xs k:Int):=by
   have h1:=hL _ (yaE.mpr ⟨_,hf,rfl⟩);obtain ⟨c,hc,rfl⟩:=yaE.mp hM;have h2:¬ c < zdY xs k:=fun z=>((mem c).mp hc).2 (zic z);omega
  rw[eM];exact q _ (st.trans s6)
theorem zqn (xs:List Nat)(k:Nat):besV (xs.map nV) k=(zaV xs k).map nV:=zm9 xs k
theorem zkv (T:Txt K mg)(qbu:DF K mg "colours" zem zdK)(qaL:FC P w K mg base 1 "neighbours" zbG (spNb K))(qb6:FC P w K mg base 1 "least_free" zb9 (zo1 K)):FC P w K mg base 3 "colours" zdK (zhS K):=by
 refine qbu.ok qaO (fun vs H Q E h=>?_) (fun f cdv A outer s H vs Q E hr h=>?_)
 ·obtain ⟨a,xs,rfl,_⟩:=h;rfl
 obtain ⟨a,xs,rfl,hS,hu,hb,hz,q⟩:=h;refine ⟨_,(zal (zar (i:=1) qaO.nd rfl (Or.inl rfl) (zbn zfk rfl T.qbI boot_list (zaa (pv 0) zac)))
   (zal (zbd PassesOwn.never rfl (zgA (zbO (zaa zaj (zaa zaj (zaa zaj zac))))) (zat (i:=2) qaO.nd rfl (Or.inl rfl)) (zae (zbd PassesOwn.never rfl (zbJ rfl T.qaj (zaa (zap zan rfl T.qan boot_len (zaa (pv 0) zac)) zac)) (zat (i:=3) qaO.nd rfl (Or.inl rfl)) (zae (zaW (zaw zgq (zaO zbe (pv 1) (pv 3) (fun _ _=>rfl)) (pv 2) (zaF _)) (zae (zjM (zax qb6 hr (zaa (zax qaL hr (zaa (pv 1) (zaa (pv 3) zac))) zac)) (zjN (pv 1) (pv 3) zfr))) zay)))))
   (zae (zav (pv 1))))),?_⟩
 refine ⟨_,rfl,a,_,rfl,.inl hS,fun p hp=>?_⟩;have k0:But p H (upd H p (.lst (xs.map nV))):=fun b o n e=>by rw[zaf n];exact e
 refine ⟨(by show 3≤sizeLine;decide),fun t ht=>?_⟩;have npt:p≠t:=zad zab ht;refine ⟨t,rfl,⟨_,SqT.of zab⟩,?_⟩;refine zhx (xs:=[V.int 3,V.int 4,V.int 5]) (fun i σ H2=>∃ x2 x3:Option V,σ=[some (.ref a),some (.ref p),x2,x3]∧H2 p=some (.lst ((colN xs i).map nV))∧H2 t=some (.tup [V.int 3,V.int 4,V.int 5])∧But p H H2) ?_ ?_ ?_ ?_
 ·exact ⟨_,_,rfl,by rw[zaf npt];exact zab,zab,k0.new ht _⟩
 ·rintro i σ H2 _ ⟨x2,x3,rfl,_,h2t,_⟩;exact SqT.of h2t
 ·rintro i x σ H2 hx ⟨x2,x3,rfl,h2,h2t,k2⟩;obtain ⟨hi,rfl⟩:i < 3∧x=V.int ((3+i:Nat):Int):=by
   rcases i with _ | _ | _ | i
   ·exact ⟨by decide,(yad hx).symm⟩
   ·exact ⟨by decide,(yad hx).symm⟩
   ·exact ⟨by decide,(yad hx).symm⟩
   ·cases hx
  have hyl:=zjc xs i;have hyu:=zoD hu i;have hnx:colN xs (i+1)=recL (3+i) (colN xs i):=rfl;rw[hnx];generalize colN xs i=ys at h2 hyl hyu ⊢;generalize 3+i=v;have hSa:SqL K H2 a (xs.map nV):=k2.sq hS hp;refine ⟨_,rfl,_,_,rfl,.inl hSa,_,rfl,by rw[yab];omega,by rw[yab];omega,?_⟩;have el:((((xs.map nV).length:Nat):Int)).toNat=ys.length:=by rw[yab,ya9,hyl]
  rw[el];refine zbq (n:=ys.length) (fun k σ H3=>∃ x3:Option V,σ=[some (.ref a),some (.ref p),some (.int v),x3]∧H3 p=some (.lst ((mixL v ys k).map nV))∧H3 t=some (.tup [V.int 3,V.int 4,V.int 5])∧But p H H3) ?_ ?_ ?_
  ·exact ⟨_,rfl,h2,h2t,k2⟩
  ·rintro k σ H3 hk ⟨x3,rfl,h3,h3t,k3⟩;rw[ybP];have ml:=zfZ v ys k;have eg:(mixL v ys k).getD k 0=ys.getD k 0:=by
    rw[yaf,zmh (yaa k),← yaf]
   have hat:atI ((mixL v ys k).map nV) (k:Int)=some (nV (ys.getD k 0)):=by
    rw[← eg];exact znc (by omega)
   refine ⟨_,rfl,_,rfl,_,_,_,_,rfl,rfl,SqL.of h3,hat,_,rfl,rfl,_,rfl,?_⟩;refine ite2 (fun c=>?_) (fun c=>?_)
   ·have c':ys.getD k 0=v:=by
     have:=V.int.inj (yaT c);omega
    refine ⟨_,rfl,_,rfl,p,_,k,rfl,h3,fun g H4 hg s4 h4=>?_⟩;rw[zqn,ziR hyu hk c']at h4;refine ⟨g,ys,k,rfl,h4,fun H5 s5=>?_⟩;have s35:=s4.trans s5;have same:∀ b o,b≠p→H3 b=some o→upd H5 p (.lst (((mixL v ys k).map nV).set k (nV (zdY ys k)))) b=some o:=fun b o n e=>by
     rw[zaf n];exact s35 _ _ e
    refine ⟨_,rfl,_,rfl,_,_,_,k,rfl,rfl,s35 _ _ h3,zht (by rw[yab,ml];exact hk),?_⟩;refine ⟨_,rfl,?_,same _ _ (Ne.symm (zdV h3 h3t)) h3t,fun b o n e=>same _ _ n (k3 b o n e)⟩;rw[zab,zoc hk c',List.map_set]
   ·have c':ys.getD k 0≠v:=fun z=>c (by rw[z];exact yae rfl);exact ⟨_,rfl,by rw[zmf hk c'];exact h3,h3t,k3⟩
  ·rintro σ H3 ⟨x3,rfl,h3,h3t,k3⟩;rw[zod (yaa _)]at h3;exact ⟨_,_,rfl,h3,h3t,k3⟩
 ·rintro σ H2 ⟨x2,x3,rfl,h2,_,k2⟩;refine ⟨_,rfl,?_⟩;exact q p H2 hp (fun b o e=>k2 b o (zad e hp) e) h2
def zdu (ms:List Bool)(k:Nat):Bool:=!ms.getD (k - 1) false && !ms.getD (k+1) false
def besB (ms:List Bool)(k:Nat):List Bool:=(if k=0 then none else ms[k - 1]?).toList++ms[k+1]?.toList
theorem zqo (ms:List Bool)(k:Nat):besV (ms.map V.bl) k=(besB ms k).map V.bl:=by
 unfold besV besB;rw[yav,yat,yat];congr 1
 ·split
  ·rfl
  ·cases ms[k - 1]? <;> rfl
 ·cases ms[k+1]? <;> rfl
theorem zoJ {ms:List Bool}{k:Nat}(h:1≤k):(besB ms k).any id=!zdu ms k:=by
 unfold besB zdu;rw[if_neg (by omega),List.any_append,zgt,zgt,yaf,yaf];generalize ms[k - 1]?.getD false=x;generalize ms[k+1]?.getD false=z;cases x <;> cases z <;> rfl
theorem ziQ {sh:Nat}{cs:List Nat}{ms:List Bool}(hu:Unl cs)(hl:cs.length=ms.length){k:Nat}(h:k < cs.length)(h1:1≤k)(hs:cs.getD k 0=sh):zdu (mixM sh cs ms k) k=zdu ms k:=by
 unfold zdu;have e:∀ j,k≤j→(mixM sh cs ms k).getD j false=ms.getD j false:=fun j hj=>by
  rw[yaf,yaf,zcE hl,if_neg (by omega)]
 rw[e (k+1) (by omega)];have e2:(mixM sh cs ms k).getD (k - 1) false=ms.getD (k - 1) false:=by
  rw[yaf,zcE hl,if_pos (by omega),zdM hl (by omega)];have:=hu (k - 1) (by omega);rw[show k - 1+1=k by omega,hs]at this;rw[yah this];simp
 rw[e2]
theorem zgE {sh:Nat}{cs:List Nat}{ms:List Bool}(hl:cs.length=ms.length){k:Nat}(h:k < cs.length)(hn:¬ (cs.getD k 0=sh∧zdu ms k=true)):mixM sh cs ms (k+1)=mixM sh cs ms k:=by
 apply ybb;intro j;rw[zcE hl,zcE hl];by_cases c:j < k
 ·rw[if_pos c,if_pos (by omega)]
 ·rw[if_neg c];split
  ·have:j=k:=by omega
   subst this;rw[zdM hl h];unfold zdu at hn;rw[yac (by omega)];have e:ms.getD j false=ms[j]'(by omega):=by
    rw[yaf,yac (by omega)];rfl
   rw[e];congr 1;generalize ms[j]=a;generalize ms.getD (j - 1) false=b at hn ⊢;generalize ms.getD (j+1) false=d at hn ⊢;by_cases z:cs.getD j 0=sh
   ·have hn':¬ ((!b && !d)=true):=fun y=>hn ⟨z,y⟩;cases b with
    | true=>simp
    | false=>
     cases d with
     | true=>simp
     | false=>exact absurd rfl hn'
   ·rw[yah z];simp
  ·rfl
theorem zme {sh:Nat}{cs:List Nat}{ms:List Bool}(hl:cs.length=ms.length){k:Nat}(h:k < cs.length)(hp:1≤k∧cs.getD k 0=sh∧zdu ms k=true):mixM sh cs ms (k+1)=(mixM sh cs ms k).set k true:=by
 apply ybb;intro j;rw[ybN,zfY hl,zcE hl,zcE hl];by_cases c:k=j
 ·subst c;rw[if_pos rfl,if_pos h,if_pos (by omega),zdM hl h];obtain ⟨p1,p2,p3⟩:=hp;unfold zdu at p3;simp only[ybs,ybY]at p3;rw[p2,p3.1,p3.2,yae p1];simp
 ·rw[if_neg c];by_cases c2:j < k
  ·rw[if_pos c2,if_pos (by omega)]
  ·rw[if_neg c2,if_neg (by omega)]
theorem znY (T:Txt K mg)(qch:DF K mg "marks" zg3 zfD)(qcG:FC P w K mg base 3 "labels" zes (zjw K))(qcA:FC P w K mg base 3 "colours" zdK (zhS K))(qaL:FC P w K mg base 1 "neighbours" zbG (spNb K)):FC P w K mg base 5 "marks" zfD (zlv K):=by
 refine qch.ok qa0 (fun vs H Q E h=>?_) (fun f cdv A outer s H vs Q E hr h=>?_)
 ·obtain ⟨a,ws,es,rfl,_⟩:=h;rfl
 obtain ⟨a,ws,es,rfl,ha,hw,hz,he,hri,q⟩:=h;refine ⟨_,(zal (zar (i:=1) qa0.nd rfl (Or.inl rfl) (zax qcA hr (zaa (zax qcG hr (zaa (pv 0) zac)) zac)))
   (zal (ziJ (i:=2) (N:=["tint"]) (own:=1) (cap:=[]) qa0.nd rfl rfl rfl (zb2 (pv 1)) ⟨rfl,rfl,rfl,rfl,rfl,rfl⟩ (fun _ _ _ _ _=>(zat (i:=0) (show List.Nodup (["tint"]:List Str) by decide +kernel) rfl (Or.inl rfl))) (fun _ _ _ _ _=>zc1) (fun _ _ _ _ _=>zdU))
   (zal (zbd PassesOwn.never rfl (zgA (zbO (zaa zaj (zaa zaj (zaa zaj zac))))) (zat (i:=3) qa0.nd rfl (Or.inl rfl)) (zae (zbd PassesOwn.never rfl (zev rfl T.qaj (zaa zaj (zaa (zap zan rfl T.qan boot_len (zaa (pv 1) zac)) zac))) (zat (i:=4) qa0.nd rfl (Or.inl rfl)) (zae (zaW (PW.pt (zgz (zaw zgq (zaO zbe (pv 1) (pv 4) (fun _ _=>rfl)) (pv 3) (zaF _)) (zeP (zaw zbZ zdU (zax qaL hr (zaa (pv 2) (zaa (pv 4) zac))) (by with_unfolding_all rfl))))) (zae (zjM zdU (zjN (pv 2) (pv 4) zfr))) zay)))))
   (zae (zav (pv 2)))))),?_⟩
 refine ⟨_,rfl,a,ws,es,rfl,SqL.of ha,hw,hz,he,hri,fun p H3 hp s3 h3=>?_⟩;refine ⟨p,_,rfl,SqL.of h3,zmq he hri,zmr he hri,by rw[zcw,zaT];exact hz,fun c H4 hc s4 h4=>?_⟩;have cu:Unl (colL (zdb 5 (zcT es))):=zoV (zoE (unlZ (zmq he hri)));have cl:(colL (zdb 5 (zcT es))).length=es.length:=by rw[zgd,zcw,zaT]
 have fin:zez es=mkN (colL (zdb 5 (zcT es))) 3:=(zmc _).symm;generalize colL (zdb 5 (zcT es))=cs at h4 cu cl fin;have s04:=s3.trans s4;refine ⟨_,rfl,c,rfl,⟨_,SqL.of h4⟩,fun F hF=>?_⟩;refine zcs (xs:=cs.map nV) (fun i σ H5=>∃ x0:Option V,σ=[x0]∧H5 F=some (.lst ((List.replicate i false).map V.bl))∧But F H4 H5) ?_ ?_ ?_ ?_
 ·exact ⟨_,rfl,zab,fun b o n e=>by rw[zaf n];exact e⟩
 ·rintro i σ H5 _ ⟨x0,rfl,_,k5⟩;exact k5.sq (SqL.of h4) hF
 ·rintro i m x σ H5 hx hm ⟨x0,rfl,h5,k5⟩;have hi:=(yam.mp hx).1;rw[yab]at hi hm;refine zdr ?_;refine ⟨_,h5,zaq (by rw[yab,ybm];omega),m - 1,by omega,by rw[yab];omega,_,rfl,?_,fun b o n e=>by rw[zaf n];exact k5 b o n e⟩;rw[zab,List.replicate_succ',yav];rfl
 rintro σ H5 ⟨x0,rfl,h5,k5⟩;have s45:Same H4 H5:=fun b o e=>k5 b o (zad e hF) e;have h5c:=s45 _ _ h4;have nFc:c≠F:=zad h4 hF;have hF0:H F=none:=s04.free hF;have k05:But F H H5:=fun b o _ e=>s45 _ _ (s04 _ _ e);have e5:H5 F=some (.lst ((mkN cs 0).map V.bl)):=by
  rw[h5,mkN,yab,show List.replicate cs.length false=cs.map (fun _=>false) from by rw[List.map_const']]
 refine ⟨(by show 3≤sizeLine;decide),fun t ht=>?_⟩;have st:=zah ht (.tup [V.int 2,V.int 1,V.int 0]);refine ⟨t,rfl,⟨_,SqT.of zab⟩,?_⟩;refine zhx (xs:=[V.int 2,V.int 1,V.int 0]) (fun i σ H6=>∃(x3 x4:Option V),σ=[some (.ref a),some (.ref c),some (.ref F),x3,x4]∧H6 F=some (.lst ((mkN cs i).map V.bl))∧H6 c=some (.lst (cs.map nV))∧H6 t=some (.tup [V.int 2,V.int 1,V.int 0])∧But F H H6) ?_ ?_ ?_ ?_
 ·exact ⟨_,_,rfl,st _ _ e5,st _ _ h5c,zab,k05.new ht _⟩
 ·rintro i σ H6 _ ⟨x3,x4,rfl,_,_,h6t,_⟩;exact SqT.of h6t
 ·rintro i x σ H6 hx ⟨x3,x4,rfl,h6,h6c,h6t,k6⟩;obtain ⟨hi,rfl⟩:i < 3∧x=V.int ((2 - i:Nat):Int):=by
   rcases i with _ | _ | _ | i
   ·exact ⟨by decide,(yad hx).symm⟩
   ·exact ⟨by decide,(yad hx).symm⟩
   ·exact ⟨by decide,(yad hx).symm⟩
   ·cases hx
  have hml:=zkz cs i;have hnx:mkN cs (i+1)=zcn (2 - i) cs (mkN cs i):=rfl;rw[hnx];generalize mkN cs i=ms at h6 hml ⊢;generalize 2 - i=sh;refine ⟨_,rfl,_,_,rfl,.inl (SqL.of h6c),1,_,rfl,⟨by omega,by omega,by rw[yab];omega,by rw[yab];omega⟩,?_⟩;have en:((((cs.map nV).length:Nat):Int) - 1).toNat=cs.length - 1:=by rw[yab];omega
  rw[en];have km:∀ k,(mixM sh cs ms k).length=cs.length:=zfY hml;refine zbq (n:=cs.length - 1) (fun j σ H7=>∃(x4:Option V),σ=[some (.ref a),some (.ref c),some (.ref F),some (.int sh),x4]∧H7 F=some (.lst ((mixM sh cs ms (1+j)).map V.bl))∧H7 c=some (.lst (cs.map nV))∧H7 t=some (.tup [V.int 2,V.int 1,V.int 0])∧But F H H7) ?_ ?_ ?_
  ·exact ⟨_,rfl,by rw[zoa hml];exact h6,h6c,h6t,k6⟩
  ·rintro j σ H7 hj ⟨x4,rfl,h7,h7c,h7t,k7⟩;have ek:(1:Int)+(j:Int)=((1+j:Nat):Int):=by omega
   have hk1:1≤1+j:=by omega
   have hkl:1+j < cs.length:=by omega
   rw[ek];have es1:1+(j+1)=1+j+1:=by omega
   rw[es1];generalize 1+j=k at h7 hk1 hkl ⊢;have hat:=znc (xs:=cs) hkl;have mc:cs.getD k 0=sh→zdu (mixM sh cs ms k) k=zdu ms k:=fun z=>ziQ cu hml hkl hk1 z;refine ⟨_,rfl,_,rfl,_,_,_,_,rfl,rfl,SqL.of h7c,hat,_,rfl,rfl,_,rfl,?_⟩;refine ite2 (fun e=>?_) (fun e=>?_)
   ·have e':cs.getD k 0=sh:=by
     have:=V.int.inj (yaT e);omega
    refine ⟨_,rfl,_,rfl,F,_,k,rfl,h7,fun b H8 hb sb hbb=>?_⟩;rw[zqo]at hbb;have kb:But F H H8:=fun x o n e=>sb _ _ (k7 x o n e);refine ⟨_,_,rfl,.inl (SqL.of hbb),rfl,zqh _,_,rfl,?_⟩;show if (!inV (.bl true) ((besB (mixM sh cs ms k) k).map V.bl))=true then _ else _
    rw[zol,zoJ hk1,mc e',Bool.not_not];refine ite2 (fun y=>?_) (fun y=>?_)
    ·refine ⟨_,rfl,_,rfl,_,_,_,k,rfl,rfl,sb _ _ h7,zht (by rw[yab,km];exact hkl),?_⟩;have same:∀ b o,b≠F→H8 b=some o→upd H8 F (.lst (((mixM sh cs ms k).map V.bl).set k (.bl true))) b=some o:=fun b o n e=>by
      rw[zaf n];exact e
     refine ⟨_,rfl,?_,same _ _ (fun z=>?_) (sb _ _ h7c),same _ _ (Ne.symm (zdV (sb _ _ h7) (sb _ _ h7t))) (sb _ _ h7t),fun b o n e=>same _ _ n (kb b o n e)⟩
     ·rw[zab,zme hml hkl ⟨hk1,e',y⟩,List.map_set]
     ·exact nFc z
    ·exact ⟨_,rfl,by rw[zgE hml hkl (fun z=>y z.2)];exact sb _ _ h7,sb _ _ h7c,sb _ _ h7t,kb⟩
   ·have e':cs.getD k 0≠sh:=fun z=>e (by rw[z];exact yae rfl);refine iteF ?_;exact ⟨_,rfl,by rw[zgE hml hkl (fun z=>e' z.1)];exact h7,h7c,h7t,k7⟩
  ·rintro σ H7 ⟨x4,rfl,h7,h7c,h7t,k7⟩;rw[zob hml (by omega)]at h7;exact ⟨_,_,rfl,h7,h7c,h7t,k7⟩
 ·rintro σ H6 ⟨x3,x4,rfl,h6,_,_,k6⟩;refine ⟨_,rfl,?_⟩;refine q F H6 hF0 (fun b o e=>k6 b o (zad e hF0) e) ?_;rw[fin];exact h6
theorem zoo {α:Type}:zcR ([]:List α) []=[]:=rfl
theorem zrE {ms:List Bool}{i:Nat}{x:V}(h:(ms.map V.bl)[i]?=some x):∃ hi:i < ms.length,x=.bl ms[i]:=by
 rw[yat]at h;cases e:ms[i]? with
 | none=>rw[e]at h;cases h
 | some y=>
  rw[e]at h;obtain ⟨hi,rfl⟩:=yam.mp e;exact ⟨hi,(yad h).symm⟩
theorem zhN {α:Type}{l:List α}{i:Nat}(h:i < l.length):l.take (i+1)=l.take i++[l[i]]:=yaK h
theorem zl6 (T:Txt K mg)(qbS:DF K mg "handed" zfB zdl)(qcO:FC P w K mg base 5 "marks" zfD (zlv K)):FC P w K mg base 6 "handed" zdl (zgZ K):=by
 refine qbS.ok qcx (fun vs H Q E h=>?_) (fun f cdv A outer s H vs Q E hr h=>?_)
 ·obtain ⟨a,ws,es,rfl,_⟩:=h;rfl
 obtain ⟨a,ws,es,rfl,ha,hw,hz,he,hri,q⟩:=h;have hwl:=hw.length;have hml:=zhm es;refine ⟨_,(zae (zav (zcm (N:=["entry","mark"]) (own:=2) (cap:=[]) rfl (zqY rfl T.qc4 (zaa (pv 0) (zaa (zax qcO hr (zaa (pv 0) zac)) zac))) ⟨rfl,rfl,rfl,rfl,rfl,rfl⟩ (fun _ _ _ _ _=>(zpC (K:=K) (n:=2) rfl (za5 (zat (i:=0) (show List.Nodup (["entry","mark"]:List Str) by decide +kernel) rfl (Or.inl rfl)) (za5 (zat (i:=1) (show List.Nodup (["entry","mark"]:List Str) by decide +kernel) rfl (Or.inl rfl)) zeR)))) (fun _ _ _ _ _=>(zfU (zbV (pv 1)))) (fun _ _ _ _ _=>(pv 0))))),?_⟩;refine ⟨_,rfl,_,rfl,a,ws,es,rfl,ha,hw,hz,he,hri,fun u H6 hu g6 h6u=>?_⟩;have h6p:=g6 _ _ ha;generalize zez es=ms at hml h6u q;refine ⟨a,u,rfl,⟨_,SqL.of h6p⟩,⟨_,SqL.of h6u⟩,fun D hD=>?_⟩;refine zoC (xs:=ws) (ys:=ms.map V.bl) (by rw[yab,hml];exact hwl.symm) (fun j σ H7=>∃ x0 x1:Option V,σ=[x0,x1]∧H7 D=some (.lst (zcR (ws.take j) (ms.take j)))∧But D H6 H7) ?_ ?_ ?_ ?_
 ·exact ⟨_,_,rfl,by rw[ybG,ybG,zoo];exact zab,fun b o n e=>by rw[zaf n];exact e⟩
 ·rintro j σ H7 _ ⟨x0,x1,rfl,_,k7⟩;exact ⟨k7.sq (SqL.of h6p) hD,k7.sq (SqL.of h6u) hD⟩
 ·rintro j m' x y σ H7 r' hx hy hm' ⟨x0,x1,rfl,h7,k7⟩ hr';obtain ⟨hj,rfl⟩:=zrE hy;obtain ⟨hjw,rfl⟩:=yam.mp hx;have hsn:=zmK (a:=ws[j]) (b:=ms[j]) (show (ws.take j).length=(ms.take j).length by rw[yan,yan];omega);rw[← zhN hjw,← zhN hj]at hsn;refine ⟨r',_,rfl,SqT.of zab,rfl,_,_,rfl,_,_,rfl,rfl,?_⟩;have s7:=zah hr' (.tup [ws[j],.bl ms[j]]);have h8:=s7 _ _ h7;have k8:=k7.new hr' (.tup [ws[j],.bl ms[j]]);generalize upd H7 r' (.tup [ws[j],.bl ms[j]])=H8 at h8 k8 ⊢;refine ⟨_,rfl,_,rfl,?_⟩;have hl8:=zi2 (ws.take j) (ms.take j);rw[yan]at hl8;refine ite2 (fun e=>?_) (fun e=>?_)
  ·refine ⟨_,rfl,_,h8,zaq (by omega),m' - 1,by omega,by omega,_,_,rfl,?_,fun b o n e=>by rw[zaf n];exact k8 b o n e⟩;rw[zab,hsn,if_pos e]
  ·refine ⟨m' - 1,by omega,by omega,_,_,rfl,?_,k8⟩;rw[h8,hsn,if_neg e,yaJ]
 ·rintro σ H7 ⟨x0,x1,rfl,h7,k7⟩;rw[yao (yaa _),yao (by omega)]at h7;have s7:Same H6 H7:=fun b o e=>k7 b o (zad e hD) e;exact q D H7 (g6.free hD) (g6.trans s7) h7
theorem zbj {K:Frag}{H:Hp}{q:Addr}{zs:List V}{o:HO}(hq:H q=some (.lst zs)){es:List (Int×Int)}{ws:List V}(h:zak K H es ws):zak K (upd H q o) es ws:=pImp (fun _ _ h=>by
  obtain ⟨a,x1,x2,rfl,hT,e1,e2⟩:=(show hasP K H _ _ from h);exact ⟨a,x1,x2,rfl,by rw[zaf (zrl hT hq (by intro z;cases z))];exact hT,e1,e2⟩) h
def Own (K:Frag)(H:Hp):List Addr→List (List (Int×Int))→Prop:=Paired fun q l=>∃ ws,H q=some (.lst ws)∧zak K H l ws
section
variable {K:Frag}{H H':Hp}
theorem Own.length {qs:List Addr}{ls:List (List (Int×Int))}(h:Own K H qs ls):qs.length=ls.length:=Paired.length h
theorem Own.ext (e:Ext H H'){qs:List Addr}{ls:List (List (Int×Int))}(h:Own K H qs ls):Own K H' qs ls:=pImp (fun _ _ h=>by
 obtain ⟨ws,h1,h2⟩:=h;exact ⟨ws,e _ _ h1 (fun _ z=>nomatch z),zak.mono e h2⟩) h
theorem Own.get:∀{qs:List Addr} {ls:List (List (Int×Int))} {i:Nat} {x:V},Own K H qs ls→(qs.map V.ref)[i]?=some x→∃ q l ws,qs[i]?=some q∧x=.ref q∧ls[i]?=some l∧H q=some (.lst ws)∧zak K H l ws
 | _,_,_,_,.nil,e=>by simp at e
 | _,_,0,_,.cons ⟨ws,h1,h2⟩ _,e=>by
  simp at e;exact ⟨_,_,ws,rfl,e.symm,rfl,h1,h2⟩
 | _,_,i+1,x,.cons _ t,e=>by
  obtain ⟨q,l,ws,h1,h2,h3,h4,h5⟩:=Own.get (i:=i) (x:=x) t (by simpa using e);exact ⟨q,l,ws,by simpa using h1,h2,by simpa using h3,h4,h5⟩
theorem Own.append {qs qs':List Addr}{ls ls':List (List (Int×Int))}(h:Own K H qs ls)(g:Own K H qs' ls'):Own K H (qs++qs') (ls++ls'):=pApp h g
theorem Own.other {q:Addr}{o:HO}{zs:List V}(hq:H q=some (.lst zs)){qs:List Addr}{ls:List (List (Int×Int))}(h:Own K H qs ls)(hn:q∉qs):Own K (upd H q o) qs ls:=by
 unfold Own at h
 induction h with
 | nil=>exact .nil
 | cons h _ ih=>
  obtain ⟨ws,h1,h2⟩:=h;rw[yak,not_or]at hn;exact .cons ⟨ws,by rw[zaf (Ne.symm hn.1)];exact h1,zbj hq h2⟩ (ih hn.2)
end
theorem zid {ls:List (List (Int×Int))}{i:Nat}{l:List (Int×Int)}(h:ls[i]?=some l):(ls.take (i+1)).flatten=(ls.take i).flatten++l:=by
 have hi:=(yam.mp h).1;rw[yaK hi,ycq,(yam.mp h).2];simp
theorem zqg {ls:List (List (Int×Int))}(i:Nat):(ls.take i).flatten.length≤ls.flatten.length:=by
 have e:ls.flatten=(ls.take i).flatten++(ls.drop i).flatten:=by rw[← ycq,yaP]
 rw[e,yap];omega
def zlx (K:Frag):Sp:=fun vs H Q _=>∃(a:Addr) (qs:List Addr) (ls:List (List (Int×Int))),vs=[.ref a]∧H a=some (.lst (qs.map V.ref))∧Own K H qs ls∧ls.flatten.length≤1000∧
 ∀(p:Addr) (ws:List V) (H':Hp),H p=none→Same H H'→H' p=some (.lst ws)→zak K H' (zcG ls.flatten) ws→Q (.ref p) H'
theorem zl5 (T:Txt K mg)(qaQ:DF K mg "joined_up" zcX zbX):FC P w K mg base 1 "joined_up" zbX (zlx K):=by
 refine qaQ.ok qaF (fun vs H Q E h=>?_) (fun f cdv A outer s H vs Q E hr h=>?_)
 ·obtain ⟨a,qs,ls,rfl,_⟩:=h;rfl
 obtain ⟨a,qs,ls,rfl,ha,ho,hz,q⟩:=h;have hll:=ho.length;refine ⟨_,(zal (zar (i:=1) qaF.nd rfl (Or.inl rfl) (zbP zac))
   (zal (zbd PassesOwn.never rfl (zb2 (pv 0)) (zat (i:=2) qaF.nd rfl (Or.inl rfl)) (zae (zbx (zfn F.plainAttrs_list F.slot_list_extend F.type_list_extend zmb (pv 1) (zaa (pv 2) zac)))))
   (zae (zav (zap (zdS (Int×Int)) rfl T.qbm boot_sorted (zaa (pv 1) zac)))))),?_⟩
 refine ⟨(by show 0≤sizeLine;decide),fun t ht=>?_⟩;have k0:But t H (upd H t (.lst [])):=fun b o n e=>by rw[zaf n];exact e
 refine ⟨_,rfl,a,rfl,⟨_,SqL.of (k0 _ _ (zad ha ht) ha)⟩,?_⟩;refine zcF (xs:=qs.map V.ref) (fun i σ H2=>∃(zs:List V) (x2:Option V),σ=[some (.ref a),some (.ref t),x2]∧H2 t=some (.lst zs)∧zak K H2 (ls.take i).flatten zs∧But t H H2∧Own K H2 qs ls) ?_ ?_ ?_ ?_
 ·exact ⟨[],_,rfl,zab,.nil,k0,ho.ext (zah ht _).ext⟩
 ·rintro i σ H2 _ ⟨zs,x2,rfl,h2,_,k2,_⟩;exact SqL.of (k2 _ _ (zad ha ht) ha)
 ·rintro i x σ H2 hx ⟨zs,x2,rfl,h2,hw,k2,o2⟩;obtain ⟨g,l,ws,e1,rfl,e3,e4,e5⟩:=o2.get hx;have hlen:zs.length+ws.length≤1000:=by
   have z1:=hw.length;have z2:=e5.length;have z3:=zqg (ls:=ls) (i+1);rw[zid e3,yap]at z3;omega
  have hgo:∀ b∈qs,b≠t:=fun b hb z=>by
   obtain ⟨j,hj,rfl⟩:=yaz hb;obtain ⟨_,_,ws0,f1,f2,_,f4,_⟩:=ho.get (i:=j) (x:=.ref qs[j]) (by rw[yat,yac hj];rfl);cases f2
   rw[z,ht]at f4;cases f4
  refine ⟨_,rfl,.inl ⟨rfl,_,SqL.of h2⟩,_,rfl,t,g,zs,ws,rfl,rfl,h2,e4,ya8 (zaq hlen),?_⟩;refine ⟨_,_,rfl,zab,?_,fun b o n e=>by rw[zaf n];exact k2 b o n e,o2.other h2 (fun z=>hgo t z rfl)⟩;rw[zid e3];exact (zbj h2 hw).append (zbj h2 e5)
 ·rintro σ H2 ⟨zs,x2,rfl,h2,hw,k2,o2⟩;rw[yao (by rw[yab];omega)]at hw;refine ⟨_,rfl,t,zs,_,rfl,SqL.of h2,hw,fun l ws hl hs=>?_⟩;have e2:=zah hl (.lst ws);have s2:Same H H2:=fun b o e=>k2 b o (zad e ht) e;exact q l ws _ (s2.free hl) (s2.trans e2) zab (zak.mono e2.ext hs)
def zbB (ps:List Nat):List V:=.non::ps.map nV
def parV (ps:List Nat)(k:Nat):V:=match par ps k with
 | none=>.non
 | some p=>nV p
theorem zas (ps:List Nat):(zbB ps).length=ps.length+1:=by
 unfold zbB;rw[yaI,yab]
theorem ze7 {ps:List Nat}{k:Nat}(h:k < ps.length+1):atI (zbB ps) (k:Int)=some (parV ps k):=by
 refine ze8 ?_;unfold zbB parV;cases k with
 | zero=>rfl
 | succ k=>
  show (ps.map nV)[k]?=some (match ps[k]? with | none=>_ | some p=>nV p)
  rw[yat,yac (show k < ps.length by omega)];rfl
theorem zex {ps:List Nat}{k p:Nat}(h:par ps k=some p):parV ps k=nV p:=by
 unfold parV;rw[h]
theorem zfX {ps:List Nat}{k:Nat}(h:par ps k=none):parV ps k=.non:=by
 unfold parV;rw[h]
theorem zlQ {ps:List Nat}{k m:Nat}:parV ps k=.int (m:Int)↔par ps k=some m:=by
 cases e:par ps k with
 | none=>
  rw[zfX e];exact ⟨(fun z=>nomatch z),(fun z=>nomatch z)⟩
 | some p=>
  rw[zex e];constructor
  ·intro z;have:=Int.ofNat.inj (V.int.inj z);rw[this]
  ·intro z;rw[yad z]
theorem zlI (ps:List Nat)(k:Nat)(i:Int):scal (parV ps k) (.int i)=true:=by
 cases e:par ps k with
 | none=>rw[zfX e];rfl
 | some p=>rw[zex e];rfl
theorem But.new' {p b:Addr}{H H2:Hp}(k:But p H H2)(hb:H2 b=none)(o:HO):But p H (upd H2 b o):=fun x o' n e=>(zah hb o) x o' (k x o' n e)
def zoZ (K:Frag):Sp:=fun vs H Q _=>∃(d L:Addr) (m:Int),vs=[.ref d,.int m]∧(0 < m∧m≤40)∧LS K L d H∧
 ∀(t:Addr) (ps:List Nat) (H':Hp),H t=none→zaB ps→(ps.length:Int) < m→H' t=some (.tup (zbB ps))→Keep d H H'→LS K L d H'→Q (.ref t) H'
theorem zli {ps:List Nat}{u:Nat}(T:zaB ps)(h:u≤ps.length):zaB (ps++[u]):=by
 intro i hi;rw[yap,ybf]at hi;by_cases c:i < ps.length
 ·rw[List.getElem_append_left c];exact T i c
 ·have:i=ps.length:=by omega
  subst this;rw[List.getElem_append_right (yaa _)];simp;exact h
theorem znZ (T:Txt K mg)(qbT:DF K mg "_law_tree" zfw zet)(qaa:FC P w K mg base 2 "_law_take" zbH (zfP K)):FC P w K mg base 3 "_law_tree" zet (zoZ K):=by
 refine qbT.ok qa2 (fun vs H Q E h=>?_) (fun f cdv A outer s H vs Q E hr h=>?_)
 ·obtain ⟨d,L,m,rfl,_⟩:=h;rfl
 obtain ⟨d,L,m,rfl,⟨hm0,hm1⟩,hs,q⟩:=h;refine ⟨_,(zal (zar (i:=2) qa2.nd rfl (Or.inl rfl) (zax qaa hr (zaa (pv 0) (zaa zaj zac))))
   (zal (zar (i:=3) qa2.nd rfl (Or.inl rfl) (zbP (zaa zfW zac)))
   (zal (zbd PassesOwn.never rfl (zev rfl T.qaj (zaa zaj (zaa (zaA zbA zaj (zax qaa hr (zaa (pv 0) (zaa (pv 1) zac)))) zac))) (zat (i:=4) qa2.nd rfl (Or.inl rfl)) (zae (zbx (zfn F.plainAttrs_list F.slot_list_append F.type_list_append zbo (pv 3) (zaa (zaO zbe (zbP (zaa (zaA zc9 (pv 4) zaj) (zaa zaj (zaa (zax qaa hr (zaa (pv 0) (zaa (pv 4) zac))) (zaa (zap (zik rfl) rfl T.qcW boot_max (zaa zaj (zaa (zaA zc9 (zaA zc9 (pv 4) zaj) (zax qaa hr (zaa (pv 0) (zaa zaj zac)))) zac))) zac))))) (pv 2) (fun _ _=>rfl)) zac)))))
   (zae (zav (zbn zbk rfl T.qaB boot_tuple (zaa (pv 3) zac))))))),?_⟩
 refine ⟨_,rfl,d,L,4,rfl,by decide,hs,fun w1 H1 w0 w4 k1 s1=>?_⟩;refine ⟨(by show 1≤sizeLine;decide),fun p hp=>?_⟩;have g0:=zah hp (.lst [V.non]);have hpd:p≠d:=by
  obtain ⟨ns,a,l,e,_⟩:=s1.ex;exact Ne.symm (zad e hp)
 have hp0:H p=none:=by
  cases e:H p with
  | none=>rfl
  | some o=>
   have:=k1 p o hpd e;rw[hp]at this;cases this
 refine ⟨_,rfl,_,rfl,d,L,m,rfl,⟨hm0,by omega⟩,s1.same g0,fun n H2 n0 n1 k2 s2=>⟨_,_,rfl,rfl,1,_,rfl,⟨by omega,by omega,by omega,by omega⟩,?_⟩⟩;have en:((1:Int)+n - 1).toNat=n.toNat:=by omega
 rw[en];refine zbq (n:=n.toNat) (fun i σ H3=>∃(ps:List Nat) (x4:Option V),σ=[some (.ref d),some (.int m),some (.int w1),some (.ref p),x4]∧H3 p=some (.lst (zbB ps))∧ps.length=i∧zaB ps∧(∀ b o,b≠d→b≠p→H b=some o→H3 b=some o)∧LS K L d H3) ?_ ?_ ?_
 ·exact ⟨[],_,rfl,k2 p _ hpd zab,rfl,fun i hi=>absurd hi (by simp),fun b o n1 n2 e=>k2 b o n1 (g0 b o (k1 b o n1 e)),s2⟩
 ·rintro i σ H3 hi ⟨ps,x4,rfl,h3,rfl,hT,k3,s3⟩;have ek:(1:Int)+((ps.length:Nat):Int)=((ps.length+1:Nat):Int):=by omega
  rw[ek];refine ⟨_,rfl,.inl ⟨rfl,_,SqL.of h3⟩,?_⟩;refine ⟨_,rfl,_,_,rfl,rfl,_,rfl,_,rfl,d,L,_,rfl,⟨by omega,by omega⟩,s3,fun v1 H4 v10 v11 k4 s4=>?_⟩;refine ⟨_,rfl,_,_,rfl,rfl,_,rfl,d,L,2,rfl,by decide,s4,fun v2 H5 v20 v21 k5 s5=>⟨_,_,rfl,rfl,_,_,rfl,(by show 4≤sizeLine;decide),fun l hl=>?_⟩⟩;have h4:=k4 p _ hpd h3;have h5:=k5 p _ hpd h4;obtain ⟨u,hat,hu⟩:∃ u:Nat,atI [V.int (((ps.length+1:Nat):Int) - 1),V.int 0,V.int v1,V.int (if ((ps.length+1:Nat):Int) - 1 - v2 > 0 then ((ps.length+1:Nat):Int) - 1 - v2 else 0)] w1=some (nV u)∧u≤ps.length:=by
   have z:w1=0∨w1=1∨w1=2∨w1=3:=by omega
   rcases z with rfl | rfl | rfl | rfl
   ·refine ⟨ps.length,?_,yaa _⟩;rw[show ((ps.length+1:Nat):Int) - 1=((ps.length:Nat):Int) by omega];rfl
   ·exact ⟨0,rfl,yaF _⟩
   ·obtain ⟨u,rfl⟩:=zrm v10;exact ⟨u,rfl,by omega⟩
   ·refine ⟨(if ((ps.length+1:Nat):Int) - 1 - v2 > 0 then ((ps.length+1:Nat):Int) - 1 - v2 else 0).toNat,?_,?_⟩
    ·show some (V.int _)=some (V.int _);rw[Int.toNat_of_nonneg (by split <;> omega)]
    ·split <;> omega
  refine ⟨_,rfl,_,_,_,_,rfl,rfl,SqL.of zab,hat,_,_,_,rfl,rfl,by rw[zaf (zad h5 hl)];exact h5,zaq (by rw[zas];omega),?_⟩;refine ⟨ps++[u],_,rfl,?_,by rw[yap,ybf],zli hT hu,fun b o n1 n2 e=>?_,?_⟩
  ·rw[zab];unfold zbB;rw[yav];rfl
  ·rw[zaf n2];have e5:=k5 b o n1 (k4 b o n1 (k3 b o n1 n2 e));exact (zah hl _) _ _ e5
  ·exact LS.put hs hp0 (fun b o n1 n2 e=>(zah hl _) _ _ (k5 b o n1 (k4 b o n1 (k3 b o n1 n2 e)))) (s5.of_new hl _)
 ·rintro σ H3 ⟨ps,x4,rfl,h3,hl,hT,k3,s3⟩;refine ⟨_,rfl,p,_,rfl,.inl ⟨SqL.of h3,fun t ht=>?_⟩⟩;have sn:=zah ht (.tup (zbB ps));have htp:t≠p:=Ne.symm (zad h3 ht);have ht0:H t=none:=by
   cases e:H t with
   | none=>rfl
   | some o=>
    have htd:t≠d:=by
     obtain ⟨ns,a,l,e,_⟩:=s3.ex;exact Ne.symm (zad e ht)
    have:=k3 t o htd htp e;rw[ht]at this;cases this
  exact q t ps _ ht0 hT (by omega) zab (fun b o n e=>sn _ _ (k3 b o n (zad e hp0) e)) (s3.of_new ht _)
def zgw (K:Frag):Sp:=fun vs H Q _=>∃(t:Addr) (ps:List Nat) (k:Nat),vs=[.ref t,.int k]∧H t=some (.tup (zbB ps))∧ps.length≤900∧
 ∀(p:Addr) (H':Hp),H p=none→Same H H'→H' p=some (.lst ((zb3 ps k (ps.length+1)).map nV))→Q (.ref p) H'
theorem ziP (T:Txt K mg)(qa7:DF K mg "children" zdE zc4):FC P w K mg base 1 "children" zc4 (zgw K):=by
 refine qa7.ok qce (fun vs H Q E h=>?_) (fun f cdv A outer s H vs Q E hr h=>?_)
 ·obtain ⟨t,ps,k,rfl,_⟩:=h;rfl
 obtain ⟨t,ps,k,rfl,ht,hz,q⟩:=h;refine ⟨_,(zae (zav (zcm (N:=["other","tree","knot"]) (own:=1) (cap:=[0,1]) rfl (zbJ rfl T.qaj (zaa (zap zan rfl T.qan boot_len (zaa (pv 0) zac)) zac)) ⟨rfl,rfl,rfl,rfl,rfl,rfl⟩ (fun _ _ _ _ _=>(zat (i:=0) (show List.Nodup (["other","tree","knot"]:List Str) by decide +kernel) rfl (Or.inl rfl))) (fun _ _ _ _ _=>(zfU (zaw zgq (zaO (zmx (K:=K)) (pv 1) (pv 0) (fun _ _=>rfl)) (pv 2) (zaF _)))) (fun _ _ _ _ _=>(pv 0))))),?_⟩;refine ⟨_,rfl,_,_,rfl,.inr (SqT.of ht),_,rfl,by omega,by rw[zas];omega,fun D hD=>?_⟩;have el:((((zbB ps).length:Nat):Int)).toNat=ps.length+1:=by rw[zas,ya9]
 rw[el];refine ze2 (n:=ps.length+1) (fun j σ H3=>∃ x0:Option V,σ=[x0,some (.ref t),some (.int k)]∧H3 D=some (.lst ((zb3 ps k j).map nV))∧But D H H3) ?_ ?_ ?_
 ·exact ⟨_,rfl,zab,fun b o n e=>by rw[zaf n];exact e⟩
 ·rintro j m σ H3 hm hj ⟨x0,rfl,h3,k3⟩;rw[ybP];have h3t:=k3 _ _ (zad ht hD) ht;have hlen:=zgL ps k j;refine ⟨_,rfl,_,rfl,_,_,_,_,rfl,rfl,SqT.of h3t,ze7 hj,_,rfl,zlI _ _ _,_,rfl,?_⟩;refine ite2 (fun c=>?_) (fun c=>?_)
  ·have c':par ps j=some k:=zlQ.mp (yaT c);refine ⟨_,rfl,_,h3,zaq (by rw[yab];omega),m - 1,by omega,by omega,_,rfl,?_,fun b o n e=>by rw[zaf n];exact k3 b o n e⟩;rw[zab,zgh,if_pos c',yav];rfl
  ·have c':¬ par ps j=some k:=fun z=>c (yae (zlQ.mpr z));refine ⟨m - 1,by omega,by omega,_,rfl,?_,k3⟩;rw[h3,zgh,if_neg c',yaJ]
 ·rintro σ H3 ⟨x0,rfl,h3,k3⟩;exact q D H3 hD (fun b o e=>k3 b o (zad e hD) e) h3
def zhT (K:Frag):Sp:=fun vs H Q _=>∃(t:Addr) (ps:List Nat) (k:Nat),vs=[.ref t,.int k]∧H t=some (.tup (zbB ps))∧zaB ps∧k < ps.length+1∧ps.length≤900∧
 ∀(p:Addr) (H':Hp),H p=none→Same H H'→H' p=some (.lst ((benL ps k (ps.length+1)).map nV))→Q (.ref p) H'
theorem zkw (T:Txt K mg)(qbv:DF K mg "beneath" zen zdL):FC P w K mg base 1 "beneath" zdL (zhT K):=by
 refine qbv.ok qa3 (fun vs H Q E h=>?_) (fun f cdv A outer s H vs Q E hr h=>?_)
 ·obtain ⟨t,ps,k,rfl,_⟩:=h;rfl
 obtain ⟨t,ps,k,rfl,ht,hT,hk,hz,q⟩:=h;refine ⟨_,(zal (zar (i:=2) qa3.nd rfl (Or.inl rfl) (zbP (zaa (pv 1) zac)))
   (zal (zbd PassesOwn.never rfl (zev rfl T.qaj (zaa (zaA zbA (pv 1) zaj) (zaa (zap zan rfl T.qan boot_len (zaa (pv 0) zac)) zac))) (zat (i:=3) qa3.nd rfl (Or.inl rfl)) (zae (zaW (zaw zh2 (zaO za0 (pv 0) (pv 3) (fun _ _=>rfl)) (pv 2) (by with_unfolding_all rfl)) (zae (zbx (zfn F.plainAttrs_list F.slot_list_append F.type_list_append zbo (pv 2) (zaa (pv 3) zac)))) zay)))
   (zae (zav (pv 2))))),?_⟩
 refine ⟨_,rfl,(by show 1≤sizeLine;decide),fun p hp=>?_⟩;have k0:But p H (upd H p (.lst [.int (k:Int)])):=fun b o n e=>by rw[zaf n];exact e
 have ntp:t≠p:=zad ht hp;refine ⟨_,rfl,_,_,rfl,rfl,_,rfl,_,_,rfl,.inr (SqT.of (k0 _ _ ntp ht)),_,_,rfl,⟨by omega,by omega,by omega,by rw[zas];omega⟩,?_⟩;have en:((((zbB ps).length:Nat):Int) - ((k:Int)+1)).toNat=ps.length - k:=by rw[zas];omega
 rw[en];refine zbq (n:=ps.length - k) (fun i σ H3=>∃ x3:Option V,σ=[some (.ref t),some (.int k),some (.ref p),x3]∧H3 p=some (.lst ((benL ps k (k+1+i)).map nV))∧But p H H3) ?_ ?_ ?_
 ·refine ⟨_,rfl,?_,k0⟩;rw[zab,ybw,zoK hT];rfl
 ·rintro i σ H3 hi ⟨x3,rfl,h3,k3⟩;have ek:(k:Int)+1+(i:Int)=((k+1+i:Nat):Int):=by omega
  rw[ek];have hj:k+1+i < ps.length+1:=by omega
  have hj1:1≤k+1+i:=by omega
  have hjk:k+1+i≠k:=by omega
  have ei:k+1+(i+1)=k+1+i+1:=by omega
  rw[ei];generalize k+1+i=j at h3 hj hj1 hjk ⊢;obtain ⟨u,hu⟩:=zhd hj1 hj;have h3t:=k3 _ _ ntp ht;have hat:=ze7 hj;rw[zex hu]at hat;have hlen:=zkb ps k j;refine ⟨_,rfl,_,rfl,_,_,_,_,rfl,rfl,SqT.of h3t,hat,_,rfl,_,_,rfl,.inl (SqL.of h3),rfl,zmQ _,_,rfl,?_⟩;show if inV (.int (u:Int)) ((benL ps k j).map nV)=true then _ else _
  rw[zpd];have hB:isB ps k j=isB ps k u:=zbS hT hjk hu;have hult:=(zaM hT hu).1;refine ite2 (fun c=>?_) (fun c=>?_)
  ·have c':isB ps k u=true:=(zcd.mp (yaT c)).2;refine ⟨_,rfl,.inl ⟨rfl,_,SqL.of h3⟩,_,rfl,_,_,_,rfl,rfl,h3,zaq (by rw[yab];omega),?_⟩;refine ⟨_,rfl,?_,fun b o n e=>by rw[zaf n];exact k3 b o n e⟩;rw[zab,zir,hB,if_pos c',yav];rfl
  ·have c':¬ isB ps k u=true:=fun z=>c (yae (zcd.mpr ⟨hult,z⟩));refine ⟨_,rfl,?_,k3⟩;rw[h3,zir,hB,if_neg c',yaJ]
 ·rintro σ H3 ⟨x3,rfl,h3,k3⟩;refine ⟨_,rfl,?_⟩;rw[show k+1+(ps.length - k)=ps.length+1 by omega]at h3;exact q p H3 hp (fun b o e=>k3 b o (zad e hp) e) h3
def zcJ (es:List (Int×Int)):List (Int×Int):=zcR es (zez es)
def zai (rows:List (List Int))(k:Nat):List Int:=rows.getD k []
def ownE (rows:List (List Int))(k:Nat):List (Int×Int):=(zai rows k).map fun x=>(x,(k:Int))
def zkK (ps:List Nat)(rows:List (List Int)):Nat→Nat→List (Int×Int)
 | 0,_=>[]
 | f+1,k=>zcG (((zb3 ps k (ps.length+1)).map fun c=>zcJ (zkK ps rows f c)).flatten++ownE rows k)
theorem zgJ {ps:List Nat}(T:zaB ps){rows:List (List Int)}:∀ f g k,k < ps.length+1→ps.length+1 - k≤f→ps.length+1 - k≤g→zkK ps rows f k=zkK ps rows g k
 | 0,_,k,hk,h,_=>by omega
 | _,0,k,hk,_,h=>by omega
 | f+1,g+1,k,hk,hf,hg=>by
  unfold zkK;congr 3;refine ycp fun c hc=>?_;have h:=zaE.mp hc;have:=zaM T h.2;show zcJ _=zcJ _;rw[zgJ T f g c h.1 (by omega) (by omega)]
def zam (ps:List Nat)(rows:List (List Int))(k:Nat):List (Int×Int):=zkK ps rows (ps.length+1 - k) k
def zdo (ps:List Nat)(rows:List (List Int))(k:Nat):List (List (Int×Int)):=((zb3 ps k (ps.length+1)).map fun c=>zcJ (zam ps rows c))++[ownE rows k]
theorem zbT {ps:List Nat}(T:zaB ps){rows:List (List Int)}{k:Nat}(hk:k < ps.length+1):zam ps rows k=zcG (zdo ps rows k).flatten:=by
 unfold zam zdo;obtain ⟨f,hf⟩:∃ f,ps.length+1 - k=f+1:=⟨ps.length - k,by omega⟩;rw[hf,zkK,ycq,List.flatten_singleton];congr 3;refine ycp fun c hc=>?_;have h:=zaE.mp hc;have:=zaM T h.2;show zcJ _=zcJ _;rw[zgJ T f (ps.length+1 - c) c h.1 (by omega) (by omega)];rfl
structure zaz (rows:List (List Int)):Prop where
 up:∀ row∈rows,row.Pairwise (· < ·)
 key:∀ row∈rows,∀ x∈row,-(10 ^ 60) < x∧x < 10 ^ 60
theorem zaz.at_up {rows:List (List Int)}(R:zaz rows)(k:Nat):(zai rows k).Pairwise (· < ·):=by
 unfold zai;rw[yaf];cases e:rows[k]? with
 | none=>exact .nil
 | some row=>exact R.up row (yaD e)
theorem zaz.at_key {rows:List (List Int)}(R:zaz rows)(k:Nat):∀ x∈zai rows k,-(10 ^ 60) < x∧x < 10 ^ 60:=by
 unfold zai;rw[yaf];cases e:rows[k]? with
 | none=>exact fun x hx=>nomatch hx
 | some row=>exact R.key row (yaD e)
theorem zia {α:Type}:∀(es:List α) (ms:List Bool),(zcR es ms).Sublist es
 | [],_=>by
  unfold zcR;exact List.Sublist.refl _
 | e::es,[]=>by
  unfold zcR;exact List.nil_sublist _
 | e::es,m::ms=>by
  have ih:=zia es ms;unfold zcR at ih ⊢;cases m with
  | false=>exact List.Sublist.cons e ih
  | true=>exact List.Sublist.cons₂ e ih
theorem zaS (es:List (Int×Int)):(zcJ es).Sublist es:=zia _ _
def Of (ps:List Nat)(rows:List (List Int))(k:Nat)(e:Int×Int):Prop:=∃ j,j < ps.length+1∧isB ps k j=true∧e.2=(j:Int)∧e.1∈zai rows j
theorem zjR {ps:List Nat}{rows:List (List Int)}{k:Nat}(hk:k < ps.length+1){e:Int×Int}(h:e∈ownE rows k):Of ps rows k e∧e.2=(k:Int):=by
 obtain ⟨x,hx,rfl⟩:=yaE.mp h;exact ⟨⟨k,hk,zcc,rfl,hx⟩,rfl⟩
theorem zlS {rows:List (List Int)}(R:zaz rows)(k:Nat):(ownE rows k).Nodup:=by
 unfold ownE;rw[List.nodup_iff_pairwise_ne,ybJ];exact List.Pairwise.imp (fun {a b} (h:a < b) z=>by
  have:=congrArg Prod.fst z;have:a=b:=this;omega) (R.at_up k)
theorem zfK {ps:List Nat}(T:zaB ps){rows:List (List Int)}(R:zaz rows):∀(m k:Nat),ps.length+1 - k≤m→k < ps.length+1→(∀ e∈zam ps rows k,Of ps rows k e)∧(zdo ps rows k).flatten.Nodup
 | 0,k,hm,hk=>by omega
 | m+1,k,hm,hk=>by
  have ih:∀ c,par ps c=some k→(∀ e∈zam ps rows c,Of ps rows c e)∧(zam ps rows c).Nodup:=fun c hc=>by
   have:=zaM T hc;have q:=zfK T R m c (by omega) this.2;refine ⟨q.1,?_⟩;rw[zbT T this.2];exact (zce _).nodup_iff.mpr q.2
  have up:∀{c:Nat} {e:Int×Int},par ps c=some k→Of ps rows c e→Of ps rows k e:=fun {c e} hc h=>by
   obtain ⟨j,h1,h2,h3,h4⟩:=h;exact ⟨j,h1,(zb0 T j j (yaa _) h1).mpr (.inr ⟨c,hc,h2⟩),h3,h4⟩
  refine ⟨fun e he=>?_,?_⟩
  ·rw[zbT T hk,zeg]at he;obtain ⟨l,hl,he⟩:=yco.mp he;rcases yai.mp hl with q | q
   ·obtain ⟨c,hc,rfl⟩:=yaE.mp q;have hp:=(zaE.mp hc).2;exact up hp ((ih c hp).1 e ((zaS _).mem he))
   ·rw[yaj.mp q]at he;exact (zjR hk he).1
  ·show List.Pairwise _ _;unfold zdo;rw[List.pairwise_flatten];refine ⟨fun l hl=>?_,?_⟩
   ·rcases yai.mp hl with q | q
    ·obtain ⟨c,hc,rfl⟩:=yaE.mp q;exact (ih c (zaE.mp hc).2).2.sublist (zaS _)
    ·rw[yaj.mp q];exact zlS R k
   ·rw[yaG];refine ⟨?_,ycr _ _,?_⟩
    ·rw[ybJ];refine List.Pairwise.imp_of_mem (fun {c d} hc hd hcd=>?_) (zij ps k _);intro x hx y hy z;subst z;have pc:=(zaE.mp hc).2;have pd:=(zaE.mp hd).2;obtain ⟨j,_,h2,h3,_⟩:=(ih c pc).1 x ((zaS _).mem hx);obtain ⟨i,_,g2,g3,_⟩:=(ih d pd).1 x ((zaS _).mem hy);have:j=i:=by omega
     subst this;exact zds T pc pd (yas hcd) j j (yaa _) h2 g2
    ·intro l hl l' hl' x hx y hy z;subst z;obtain ⟨c,hc,rfl⟩:=yaE.mp hl;rw[yaj.mp hl']at hy;have pc:=(zaE.mp hc).2;obtain ⟨j,_,h2,h3,_⟩:=(ih c pc).1 x ((zaS _).mem hx);have h4:=(zjR hk hy).2;have:j=k:=by omega
     subst this;rw[zdX T (zaM T pc).1]at h2;cases h2
theorem zfL {ps:List Nat}(T:zaB ps){rows:List (List Int)}(R:zaz rows){k:Nat}(hk:k < ps.length+1):∀ e∈zam ps rows k,Of ps rows k e:=(zfK T R _ k (yaa _) hk).1
theorem zd9 {ps:List Nat}(T:zaB ps){rows:List (List Int)}(R:zaz rows){k:Nat}(hk:k < ps.length+1):(zam ps rows k).Nodup:=by
 rw[zbT T hk];exact (zce _).nodup_iff.mpr (zfK T R _ k (yaa _) hk).2
theorem zaG {ps:List Nat}(T:zaB ps){rows:List (List Int)}(R:zaz rows){k:Nat}(hk:k < ps.length+1):Rise (zam ps rows k):=by
 rw[zbT T hk];exact zeN (zfK T R _ k (yaa _) hk).2
theorem zf8 {ps:List Nat}(T:zaB ps){rows:List (List Int)}(R:zaz rows)(hz:ps.length≤40){k:Nat}(hk:k < ps.length+1):∀ e∈zam ps rows k,zfq 64 e:=fun e he=>by
 obtain ⟨j,h1,h2,h3,h4⟩:=zfL T R hk e he;have:=R.at_key j _ h4;exact ⟨this.1,this.2,by omega,by omega⟩
def wtR (ps:List Nat)(rows:List (List Int))(k:Nat):Nat:=((benL ps k (ps.length+1)).map fun j=>(zai rows j).length).sum
theorem znx {l m:List Nat}(h:l.Perm m):l.sum=m.sum:=by
 induction h with
 | nil=>rfl
 | cons x _ ih=>rw[yaH,yaH,ih]
 | swap x y l=>rw[yaH,yaH,yaH,yaH];omega
 | trans _ _ h1 h2=>rw[h1,h2]
theorem zjs (f:Nat→Nat):∀(ls:List (List Nat)),(ls.flatten.map f).sum=(ls.map fun l=>(l.map f).sum).sum
 | []=>rfl
 | l::ls=>by
  rw[ybQ,yav,List.sum_append,zjs f ls,yar,yaH]
theorem zk1 {ps:List Nat}(T:zaB ps)(f:Nat→Nat){k:Nat}(hk:k < ps.length+1):((benL ps k (ps.length+1)).map f).sum=f k+((zb3 ps k (ps.length+1)).map fun c=>((benL ps c (ps.length+1)).map f).sum).sum:=by
 have h:=znx ((zkr T hk).map f);rw[yar,yaH,zjs,ybo]at h;exact h.symm
theorem zoY {f g:Nat→Nat}:∀{l:List Nat},(∀ x∈l,f x≤g x)→(l.map f).sum≤(l.map g).sum
 | [],_=>yaa _
 | x::l,h=>by
  rw[yar,yaH,yar,yaH];have h1:=h x yaL;have h2:=zoY (f:=f) (g:=g) (l:=l) fun y hy=>h y (yaA _ hy);omega
theorem zjY {α:Type}:∀(ls:List (List α)),ls.flatten.length=(ls.map List.length).sum
 | []=>rfl
 | l::ls=>by
  rw[ybQ,yap,zjY ls,yar,yaH]
theorem zmN {ps:List Nat}(T:zaB ps){rows:List (List Int)}{k:Nat}(hk:k < ps.length+1):(zam ps rows k).length=(zai rows k).length+((zb3 ps k (ps.length+1)).map fun c=>(zcJ (zam ps rows c)).length).sum:=by
 rw[zbT T hk,zdh];unfold zdo;rw[ycq,yap,List.flatten_singleton,zjY,ybo];unfold ownE;rw[yab,Nat.add_comm];rfl
theorem zgI {ps:List Nat}(T:zaB ps){rows:List (List Int)}:∀(m k:Nat),ps.length+1 - k≤m→k < ps.length+1→(zam ps rows k).length≤wtR ps rows k
 | 0,k,hm,hk=>by omega
 | m+1,k,hm,hk=>by
  unfold wtR;rw[zmN T hk,zk1 T _ hk];refine ycu (zoY fun c hc=>?_) _;have h:=zaE.mp hc;have:=zaM T h.2;exact yaw (zaS _).length_le (zgI T m c (by omega) h.1)
theorem zgv (f:Nat→Nat)(P:Nat→Bool):∀(l:List Nat),((l.filter P).map f).sum≤(l.map f).sum
 | []=>yaa _
 | x::l=>by
  have ih:=zgv f P l;rw[yar,yaH];by_cases h:P x=true
  ·rw[ybq h,yar,yaH];omega
  ·rw[ybO h];omega
def zbm (rows:List (List Int)):Nat:=(rows.map List.length).sum
theorem zlm (rows:List (List Int)):((List.range rows.length).map fun j=>(zai rows j).length).sum=zbm rows:=by
 unfold zbm;congr 1;apply ybb;intro i;rw[yat,yat];by_cases h:i < rows.length
 ·rw[ycj h,yac h];show some (zai rows i).length=some rows[i].length;unfold zai;rw[yaf,yac h];rfl
 ·rw[yaY (by rw[ybi];omega),yaY (by omega)];rfl
theorem zoR {ps:List Nat}{rows:List (List Int)}(hl:rows.length=ps.length+1)(k:Nat):wtR ps rows k≤zbm rows:=by
 unfold wtR benL;refine yaw (zgv _ _ _) ?_;rw[← hl,zlm];exact yaa _
theorem zeX {ps:List Nat}(T:zaB ps){rows:List (List Int)}(hl:rows.length=ps.length+1){k:Nat}(hk:k < ps.length+1):(zam ps rows k).length≤zbm rows:=yaw (zgI T _ k (yaa _) hk) (zoR hl k)
def zaI (H:Hp)(as:List Addr)(rows:List (List Int)):Prop:=Paired (fun a row=>H a=some (.tup (row.map V.int))) as rows
theorem zaI.ext {H H':Hp}(e:∀ b o,H b=some o→H' b=some o){as:List Addr}{rows:List (List Int)}(h:zaI H as rows):zaI H' as rows:=pImp (fun _ _=>e _ _) h
theorem zaI.keep {d p:Addr}{H H':Hp}(hd:∀ a row,H a=some (.tup row)→a≠d)(e:∀ b o,b≠d→H b=some o→H' b=some o){as:List Addr}{rows:List (List Int)}(h:zaI H as rows):zaI H' as rows:=pImp (fun _ _ h=>e _ _ (hd _ _ h) h) h
theorem zaI.length {H:Hp}{as:List Addr}{rows:List (List Int)}(h:zaI H as rows):as.length=rows.length:=Paired.length h
theorem zaI.get {H:Hp}:∀{as:List Addr} {rows:List (List Int)} {k:Nat},zaI H as rows→k < rows.length→∃ a,as[k]?=some a∧H a=some (.tup ((zai rows k).map V.int))
 | _,_,_,.nil,hk=>by simp at hk
 | a::as,row::rows,0,.cons h t,_=>⟨a,rfl,h⟩
 | a::as,row::rows,k+1,.cons h t,hk=>by
  obtain ⟨b,h1,h2⟩:=zaI.get (k:=k) t (by simpa using hk);refine ⟨b,by rw[ybI];exact h1,?_⟩;have:zai (row::rows) (k+1)=zai rows k:=by
   unfold zai;rw[yaf,yaf,ybI]
  rw[this];exact h2
theorem zaI.snoc {H:Hp}{a:Addr}{row:List Int}{as:List Addr}{rows:List (List Int)}(h:zaI H as rows)(g:H a=some (.tup (row.map V.int))):zaI H (as++[a]) (rows++[row]):=pApp h (.cons g .nil)
structure zby (H:Hp)(st:Addr)(ps:List Nat)(rows:List (List Int))(t rs:Addr)(as:List Addr):Prop where
 st:H st=some (.tup [.ref t,.ref rs])
 tr:H t=some (.tup (zbB ps))
 rs:H rs=some (.tup (as.map V.ref))
 at_:zaI H as rows
 len:rows.length=ps.length+1
 T:zaB ps
 R:zaz rows
 few:ps.length≤40
 keys:zbm rows≤400
theorem zby.same {H H':Hp}{st t rs:Addr}{ps:List Nat}{rows:List (List Int)}{as:List Addr}(S:zby H st ps rows t rs as)(e:Same H H'):zby H' st ps rows t rs as:=
 ⟨e _ _ S.st,e _ _ S.tr,e _ _ S.rs,S.at_.ext e,S.len,S.T,S.R,S.few,S.keys⟩
theorem zcU {as:List Addr}{k:Nat}{a:Addr}(h:as[k]?=some a):atI (as.map V.ref) (k:Int)=some (.ref a):=ze8 (by rw[yat,h];rfl)
theorem zh4 {α:Type}{l:List α}(h:l.Nodup):l.reverse.Nodup:=(List.reverse_perm l).nodup_iff.mpr h
def zgl (K:Frag)(H:Hp)(ps:List Nat)(rows:List (List Int))(j:Nat)(q:Addr):Prop:=∃ ws,H q=some (.lst ws)∧zak K H (zam ps rows j) ws
def zaD (K:Frag)(H:Hp)(ps:List Nat)(rows:List (List Int)):List Nat→List Addr→Prop:=Paired (zgl K H ps rows)
theorem zgl.same {K:Frag}{H H':Hp}{ps:List Nat}{rows:List (List Int)}{j:Nat}{q:Addr}(h:zgl K H ps rows j q)(e:Same H H'):zgl K H' ps rows j q:=by
 obtain ⟨ws,h1,h2⟩:=h;exact ⟨ws,e _ _ h1,h2.mono e.ext⟩
theorem zaD.same {K:Frag}{H H':Hp}{ps:List Nat}{rows:List (List Int)}(e:Same H H'){js:List Nat}{qs:List Addr}(h:zaD K H ps rows js qs):zaD K H' ps rows js qs:=pImp (fun _ _ h=>zgl.same h e) h
theorem zaD.ext {K:Frag}{H H':Hp}{ps:List Nat}{rows:List (List Int)}(e:Ext H H'){js:List Nat}{qs:List Addr}(h:zaD K H ps rows js qs):zaD K H' ps rows js qs:=pImp (fun _ _ h=>by
  obtain ⟨ws,a1,a2⟩:=h;exact ⟨ws,e _ _ a1 (fun _ z=>nomatch z),a2.mono e⟩) h
theorem zaD.length {K:Frag}{H:Hp}{ps:List Nat}{rows:List (List Int)}{js:List Nat}{qs:List Addr}(h:zaD K H ps rows js qs):js.length=qs.length:=Paired.length h
theorem zaD.snoc {K:Frag}{H:Hp}{ps:List Nat}{rows:List (List Int)}{j:Nat}{q:Addr}{js:List Nat}{qs:List Addr}(h:zaD K H ps rows js qs)(g:zgl K H ps rows j q):zaD K H ps rows (js++[j]) (qs++[q]):=pApp h (.cons g .nil)
theorem zaD.get {K:Frag}{H:Hp}{ps:List Nat}{rows:List (List Int)}:∀{js:List Nat} {qs:List Addr} {i j:Nat},zaD K H ps rows js qs→js[i]?=some j→∃ q,qs[i]?=some q∧zgl K H ps rows j q
 | _,_,i,j,.nil,h=>by simp at h
 | _::_,q::_,0,j,.cons h t,e=>by
  have:=yad (show some _=some j from e);subst this;exact ⟨q,rfl,h⟩
 | _::_,_::_,i+1,j,.cons h t,e=>by
  obtain ⟨q,h1,h2⟩:=zaD.get (i:=i) t (by simpa using e);exact ⟨q,by simpa using h1,h2⟩
theorem zaD.rev {K:Frag}{H:Hp}{ps:List Nat}{rows:List (List Int)}{js:List Nat}{qs:List Addr}(h:zaD K H ps rows js qs):zaD K H ps rows js.reverse qs.reverse:=by
 unfold zaD at h
 induction h with
 | nil=>exact .nil
 | cons h _ ih=>
  rw[ybL,ybL];exact zaD.snoc ih h
theorem zaD.alloc {K:Frag}{H:Hp}{ps:List Nat}{rows:List (List Int)}:∀{js:List Nat} {qs:List Addr},zaD K H ps rows js qs→∀ q∈qs,∃ ws,H q=some (.lst ws)
 | _,_,.nil=>fun q hq=>nomatch hq
 | _::_,_::_,.cons h t=>fun q hq=>by
  rcases yak.mp hq with e | e
  ·obtain ⟨ws,h1,_⟩:=h;exact ⟨ws,e ▸ h1⟩
  ·exact zaD.alloc t q e
abbrev kN (j:Nat):Key:=Sum.inl (j:Int)
def zdq:List Nat→List Addr→List (Key×V)
 | j::js,q::qs=>(kN j,.ref q)::zdq js qs
 | _,_=>[]
theorem zj0 {j:Nat}:∀{js:List Nat} {qs:List Addr},j∉js→valV (zdq js qs) (kN j)=none
 | [],_,_=>rfl
 | _::_,[],_=>rfl
 | i::js,q::qs,h=>by
  have h1:¬ kN i=kN j:=fun z=>h (by
   have:=Int.ofNat.inj (Sum.inl.inj z);rw[this];exact yaL)
  show valV ((kN i,V.ref q)::zdq js qs) (kN j)=none;rw[zbr h1];exact zj0 fun z=>h (yaA _ z)
theorem ziX {j:Nat}{q:Addr}:∀{js:List Nat} {qs:List Addr} {i:Nat},js.Nodup→js[i]?=some j→qs[i]?=some q→valV (zdq js qs) (kN j)=some (.ref q)
 | [],_,_,_,h,_=>by simp at h
 | _::_,[],_,_,_,h=>by simp at h
 | a::js,b::qs,0,_,h1,h2=>by
  have:=yad (show some a=some j from h1);subst this;have:=yad (show some b=some q from h2);subst this;exact zcv (p:=(kN a,V.ref b)) rfl
 | a::js,b::qs,i+1,hn,h1,h2=>by
  have g1:js[i]?=some j:=by simpa using h1
  have hne:¬ kN a=kN j:=fun z=>by
   have e:=Int.ofNat.inj (Sum.inl.inj z);exact (yaO.mp hn).1 (e ▸ yaD g1)
  show valV ((kN a,V.ref b)::zdq js qs) (kN j)=_;rw[zbr hne];exact ziX (yaO.mp hn).2 g1 (by simpa using h2)
theorem zjZ {j:Nat}{q:Addr}:∀{js:List Nat} {qs:List Addr},js.length=qs.length→zdq (js++[j]) (qs++[q])=zdq js qs++[(kN j,.ref q)]
 | [],[],_=>rfl
 | [],_::_,h=>by cases h
 | _::_,[],h=>by cases h
 | a::js,b::qs,h=>by
  show (kN a,V.ref b)::zdq (js++[j]) (qs++[q])=(kN a,V.ref b)::(zdq js qs++[(kN j,V.ref q)]);rw[zjZ (Nat.succ.inj h)]
theorem zp3 {j:Nat}{q:Addr}{js:List Nat}{qs:List Addr}(hl:js.length=qs.length)(h:j∉js):putK (zdq js qs) (kN j) (.ref q)=zdq (js++[j]) (qs++[q]):=by
 rw[zeo _ (zj0 h),zjZ hl]
theorem zms:∀{js:List Nat} {qs:List Addr},js.length=qs.length→(zdq js qs).length=js.length
 | [],[],_=>rfl
 | [],_::_,h=>by cases h
 | _::_,[],h=>by cases h
 | a::js,b::qs,h=>by
  show (zdq js qs).length+1=js.length+1;rw[zms (Nat.succ.inj h)]
theorem zoO {l:List Nat}(h:l.Pairwise (· > ·)){i j c:Nat}(hj:l[i]?=some j)(hc:c∈l)(hcj:j < c):c∈l.take i:=by
 obtain ⟨u,hu,rfl⟩:=yaz hc;obtain ⟨hi,rfl⟩:=yam.mp hj;have:u < i:=by
  refine Nat.lt_of_not_le fun z=>?_;by_cases e:i=u
  ·subst e;omega
  ·have:=yaV.mp h i u hi hu (by omega);omega
 rw[List.mem_iff_getElem?];exact ⟨u,by rw[yb0,if_pos this,yac hu]⟩
theorem zoj {ps:List Nat}(T:zaB ps){k j c:Nat}(h:isB ps k j=true)(hc:par ps c=some j):isB ps k c=true:=by
 by_cases e:c=k
 ·rw[e];exact zcc
 ·rw[zbS T e hc];exact h
def zqK (K:Frag):Sp:=fun vs H Q _=>∃(st:Addr) (ps:List Nat) (rows:List (List Int)) (t rs:Addr) (as:List Addr) (j:Nat),vs=[.ref st,.int j]∧zby H st ps rows t rs as∧j < ps.length+1∧
 ∀(D:Addr) (us:List V) (H':Hp),H D=none→Same H H'→H' D=some (.lst us)→zak K H' (ownE rows j) us→Q (.ref D) H'
theorem zrd (T:Txt K mg)(qaC:DF K mg "own_entries" zb7 zbQ):FC P w K mg base 1 "own_entries" zbQ (zqK K):=by
 refine qaC.ok qbD (fun vs H Q E h=>?_) (fun f cdv A outer s H vs Q E hr h=>?_)
 ·obtain ⟨st,ps,rows,t,rs,as,k,rfl,_⟩:=h;rfl
 obtain ⟨st,ps,rows,t,rs,as,j,rfl,S4,hjn,q⟩:=h;refine ⟨_,(zae (zav (zcm (N:=["key","knot"]) (own:=1) (cap:=[1]) rfl (zgA (zaO za0 (zaO za0 (pv 0) zaj (fun _ _=>rfl)) (pv 1) (fun _ _=>rfl))) ⟨rfl,rfl,rfl,rfl,rfl,rfl⟩ (fun _ _ _ _ _=>(zat (i:=0) (show List.Nodup (["key","knot"]:List Str) by decide +kernel) rfl (Or.inl rfl))) (fun _ _ _ _ _=>zc1) (fun _ _ _ _ _=>(zbO (zaa (pv 0) (zaa (pv 1) zac))))))),?_⟩;obtain ⟨a,ha1,ha4⟩:=S4.at_.get (k:=j) (by rw[S4.len];exact hjn);have hkeys:=S4.keys;refine ⟨_,rfl,_,_,_,_,rfl,rfl,SqT.of S4.st,rfl,_,rfl,_,_,_,_,rfl,rfl,SqT.of S4.rs,zcU ha1,a,rfl,⟨_,SqT.of ha4⟩,fun D3 hD3=>?_⟩;refine zeE (xs:=(zai rows j).map V.int) (fun m σ H5=>∃(us:List V) (x0:Option V),σ=[x0,some (.int j)]∧H5 D3=some (.lst us)∧zak K H5 ((ownE rows j).take m) us∧But D3 H H5) ?_ ?_ ?_ ?_
 ·exact ⟨[],_,rfl,zab,.nil,fun b o n e=>by rw[zaf n];exact e⟩
 ·rintro m σ H5 _ ⟨us,x0,rfl,_,_,k5⟩;exact SqT.of (k5 _ _ (zad ha4 hD3) ha4)
 ·rintro m r x σ H5 hx hm ⟨us,x0,rfl,h5,hw5,k5⟩;rw[yat]at hx;obtain ⟨y,hy,rfl⟩:=ybD.mp hx;have hlow:=(yam.mp hy).1;have htk3:(ownE rows j).take (m+1)=(ownE rows j).take m++[(y,(j:Int))]:=by
   unfold ownE;rw[← ycs,← ycs,yaK hlow,yav];rw[(yam.mp hy).2];rfl
  have hul:=hw5.length;rw[yan]at hul;rw[yab]at hm;have hrl:(zai rows j).length≤zbm rows:=by
   have:=zoR S4.len (k:=j) (ps:=ps);have e2:wtR ps rows j=(zai rows j).length+_:=zk1 S4.T _ hjn;omega
  refine zdr ?_;refine ⟨_,rfl,_,rfl,(by show 2≤sizeLine;decide),fun u hu=>?_⟩;have su:=zah hu (.tup [.int y,.int (j:Int)]);have h6:=su _ _ h5;have hut:upd H5 u (.tup [.int y,.int (j:Int)]) u=some (.tup [.int y,.int (j:Int)]):=zab;have k6:=k5.new' hu (.tup [.int y,.int (j:Int)]);have hw6:=hw5.mono su.ext;generalize upd H5 u (.tup [.int y,.int (j:Int)])=H6 at su h6 hut k6 hw6 ⊢;refine ⟨_,h6,zaq (by omega),r - 1,by omega,by rw[yab];omega,us++[.ref u],_,rfl,zab,?_,fun b o n e=>by rw[zaf n];exact k6 b o n e⟩;rw[htk3];exact (zbj h6 hw6).append (zbj h6 (.cons ⟨u,.int y,.int (j:Int),rfl,hut,rfl,rfl⟩ .nil))
 ·rintro σ H5 ⟨us,x0,rfl,h5,hw5,k5⟩;rw[yab,yao (by unfold ownE;rw[yab];exact yaa _)]at hw5;exact q D3 us H5 hD3 (fun x o e=>k5 x o (zad e hD3) e) h5 hw5
def zqN (K:Frag):Sp:=fun vs H Q _=>∃(st:Addr) (ps:List Nat) (rows:List (List Int)) (t rs:Addr) (as:List Addr) (k:Nat),vs=[.ref st,.int k]∧zby H st ps rows t rs as∧k < ps.length+1∧
 ∀(D:Addr) (qs:List Addr) (H':Hp),H D=none→Same H H'→H' D=some (.dK (zdq (benL ps k (ps.length+1)).reverse qs))→qs.Nodup→(∀ q∈qs,H q=none)→zaD K H' ps rows (benL ps k (ps.length+1)).reverse qs→Q (.ref D) H'
theorem zrj (T:Txt K mg)(qai:DF K mg "full_rows_beneath" za2 zaX)(qcB:FC P w K mg base 1 "beneath" zdL (zhT K))(qcs:FC P w K mg base 1 "children" zc4 (zgw K))(qbn:FC P w K mg base 6 "handed" zdl (zgZ K))(qbU:FC P w K mg base 1 "own_entries" zbQ (zqK K))(qaR:FC P w K mg base 1 "joined_up" zbX (zlx K)):FC P w K mg base 7 "full_rows_beneath" zaX (zqN K):=by
 refine qai.ok qac (fun vs H Q E h=>?_) (fun f cdv A outer s H vs Q E hr h=>?_)
 ·obtain ⟨st,ps,rows,t,rs,as,k,rfl,_⟩:=h;rfl
 obtain ⟨st,ps,rows,t,rs,as,k,rfl,S,hk,q⟩:=h;refine ⟨_,(zal (zar (i:=2) qac.nd rfl (Or.inl rfl) (zaO za0 (pv 0) zaj (fun _ _=>rfl)))
   (zal (zar (i:=3) qac.nd rfl (Or.inr rfl) zjP)
   (zal (zbd PassesOwn.never rfl (zfV rfl T.qbJ (zaa (zax qcB hr (zaa (pv 2) (zaa (pv 1) zac))) zac)) (zat (i:=4) qac.nd rfl (Or.inl rfl)) (zal (ziJ (i:=5) (N:=["child","told"]) (own:=1) (cap:=[3]) qac.nd rfl rfl rfl (zb2 (zax qcs hr (zaa (pv 2) (zaa (pv 4) zac)))) ⟨rfl,rfl,rfl,rfl,rfl,rfl⟩ (fun _ _ _ _ _=>(zat (i:=0) (show List.Nodup (["child","told"]:List Str) by decide +kernel) rfl (Or.inl rfl))) (fun _ _ _ _ _=>zc1) (fun _ _ _ _ _=>(zax qbn hr (zaa (zd5 (zeC hr) (pv 1) (pv 0) (fun _ _=>rfl)) zac))))
   (zal (zbx (zfn F.plainAttrs_list F.slot_list_append F.type_list_append zbo (pv 5) (zaa (zax qbU hr (zaa (pv 0) (zaa (pv 4) zac))) zac)))
   (zae (zeQ (zeC hr) (pv 3) (pv 4) (zax qaR hr (zaa (pv 5) zac)) rfl)))))
   (zae (zav (pv 3)))))),?_⟩
 refine ⟨_,rfl,_,_,_,_,rfl,rfl,SqT.of S.st,rfl,fun D hD=>?_⟩;have s0:=zah hD (.dK []);have hD0:upd H D (.dK []) D=some (.dK []):=zab;generalize upd H D (.dK [])=H0 at s0 hD0 ⊢;refine ⟨_,rfl,_,rfl,t,ps,k,rfl,s0 _ _ S.tr,S.T,hk,by have:=S.few;omega,fun b H1 hb s1 h1=>?_⟩;refine ⟨b,_,rfl,SqL.of h1,?_⟩;have hup:=zjg ps k (ps.length+1);have hmem:=fun j=>zcd (ps:=ps) (k:=k) (n:=ps.length+1) (j:=j);have hbl:=zkb ps k (ps.length+1);generalize benL ps k (ps.length+1)=bs at h1 q hup hmem hbl ⊢;have hdn:bs.reverse.Pairwise (· > ·):=by
  rw[List.pairwise_reverse];exact hup
 have hnd:bs.reverse.Nodup:=List.Pairwise.imp (fun {a b} (q:a > b)=>ybk q) hdn;refine zmP (xs:=bs.map nV) (fun i σ H2=>∃(qs:List Addr) (x5 x6:Option V),σ=[some (.ref st),some (.int k),some (.ref t),some (.ref D),x5,x6]∧H2 D=some (.dK (zdq (bs.reverse.take i) qs))∧qs.Nodup∧(∀ q∈qs,H q=none)∧zaD K H2 ps rows (bs.reverse.take i) qs∧H2 b=some (.lst (bs.map nV))∧But D H H2) ?_ ?_ ?_ ?_
 ·exact ⟨[],_,_,rfl,s1 _ _ hD0,ybg,(fun q hq=>nomatch hq),.nil,h1,fun x o _ e=>s1 _ _ (s0 _ _ e)⟩
 ·rintro i σ H2 _ ⟨qs,x5,x6,rfl,_,_,_,_,h2b,_⟩;exact SqL.of h2b
 ·rintro i x σ H2 hx ⟨qs,x5,x6,rfl,h2,hqn,hqf,hF,h2b,k2⟩;rw[← List.map_reverse]at hx;obtain ⟨hi,hxe⟩:=zmL hx;have hji:bs.reverse[i]?=some (bs.reverse.getD i 0):=by
   rw[yaf,yac hi];rfl
  subst hxe;have htk:bs.reverse.take (i+1)=bs.reverse.take i++[bs.reverse.getD i 0]:=by
   rw[yaK hi,yaf,yac hi];rfl
  rw[htk];generalize bs.reverse.getD i 0=j at hji htk ⊢;have hjm:j∈bs:=ybx.mp (yaD hji);obtain ⟨hjn,hjB⟩:=(hmem j).mp hjm;have hjnot:j∉bs.reverse.take i:=fun z=>by
   have hnd':=hnd;rw[← yaP (i+1) bs.reverse,htk]at hnd';have:=(ya7.mp hnd').1;exact (ya7.mp this).2.2 j z j (yaj.mpr rfl) rfl
  have noD:∀{p:Addr} {o:HO},H p=some o→p≠D:=fun {p o} e=>zad e hD;have S2:zby H2 st ps rows t rs as:=⟨k2 _ _ (noD S.st) S.st,k2 _ _ (noD S.tr) S.tr,k2 _ _ (noD S.rs) S.rs,zaI.keep (p:=D) (d:=D) (fun a row e=>noD e) k2 S.at_,S.len,S.T,S.R,S.few,S.keys⟩;have hkeys:=S.keys;have hfew:=S.few;refine ⟨_,rfl,_,rfl,t,ps,j,rfl,S2.tr,by omega,fun c H3 hc s3 h3=>?_⟩;refine ⟨c,rfl,⟨_,SqL.of h3⟩,fun D2 hD2=>?_⟩;have hcmem:=fun m=>zaE (ps:=ps) (k:=j) (n:=ps.length+1) (j:=m);have hcl:=zgL ps j (ps.length+1);have hparts:zdo ps rows j=((zb3 ps j (ps.length+1)).map fun c=>zcJ (zam ps rows c))++[ownE rows j]:=rfl;generalize zb3 ps j (ps.length+1)=cs at h3 hcmem hcl hparts ⊢;have h3D:=s3 _ _ h2;have nDD2:D≠D2:=zad h3D hD2;have F3:zaD K H3 ps rows (bs.reverse.take i) qs:=hF.same s3;refine zcs (xs:=cs.map nV) (fun m σ H4=>∃(gs:List Addr) (x0:Option V),σ=[x0,some (.ref D)]∧H4 D2=some (.lst (gs.map V.ref))∧Own K H4 gs ((cs.take m).map fun c=>zcJ (zam ps rows c))∧D2∉gs∧But D2 H3 H4) ?_ ?_ ?_ ?_
  ·exact ⟨[],_,rfl,zab,.nil,(fun z=>nomatch z),fun b o n e=>by rw[zaf n];exact e⟩
  ·rintro m σ H4 _ ⟨gs,x0,rfl,_,_,_,k4⟩;exact k4.sq (SqL.of h3) hD2
  ·rintro m r x σ H4 hx hm ⟨gs,x0,rfl,h4,hO,hg,k4⟩;obtain ⟨hmi,rfl⟩:=zmL hx;have hcm:cs[m]?=some (cs.getD m 0):=by
    rw[yaf,yac hmi];rfl
   have htk2:cs.take (m+1)=cs.take m++[cs.getD m 0]:=by
    rw[yaK hmi,yaf,yac hmi];rfl
   rw[htk2];generalize cs.getD m 0=ch at hcm ⊢;obtain ⟨hchn,hchp⟩:=(hcmem ch).mp (yaD hcm);have hlt:=(zaM S.T hchp).1;have hin:ch∈bs.reverse.take i:=zoO hdn hji (ybx.mpr ((hmem ch).mpr ⟨hchn,zoj S.T hjB hchp⟩)) hlt;obtain ⟨u,hu,hue⟩:=yaz hin;have hu2:(bs.reverse.take i)[u]?=some ch:=by rw[yac hu,hue]
   obtain ⟨qq,hq1,ws,hq2,hq3⟩:=F3.get hu2;have hnd2:(bs.reverse.take i).Nodup:=hnd.sublist (List.take_sublist _ _);have hv:=ziX hnd2 hu2 hq1;have k4D:=k4 _ _ nDD2 h3D;have hq4:=k4 _ _ (zad hq2 hD2) hq2;have hq5:zak K H4 (zam ps rows ch) ws:=by
    have key:∀{es:List (Int×Int)} {vs:List V},zak K H3 es vs→zak K H4 es vs:=by
     intro es vs hh
     induction hh with
     | nil=>exact .nil
     | cons a _ ih=>
      obtain ⟨b,x1,x2,rfl,q,e1,e2⟩:=(show hasP K H3 _ _ from a);exact .cons ⟨b,x1,x2,rfl,k4 _ _ (zad q hD2) q,e1,e2⟩ ih
    exact key hq3
   have hlen:=zeX S.T S.len (rows:=rows) hchn;refine zdr ?_;have hdg:DGet H4 D (.int (ch:Int)) (some (.ref qq)):=by
    rw[← hv];exact DGet.k (k:=kN ch) k4D
   refine ⟨_,rfl,_,rfl,D,_,rfl,hdg,?_⟩;refine ⟨qq,ws,zam ps rows ch,rfl,hq4,hq5,by omega,zf8 S.T S.R hfew hchn,zaG S.T S.R hchn,fun g H5 hg5 s5 h5=>?_⟩;have hgl:=hO.length;rw[yab,yan]at hgl;have h5D2:=s5 _ _ h4;have ngD2:D2≠g:=zad h4 hg5;rw[yab]at hm;refine ⟨_,h5D2,zaq (by rw[yab];omega),r - 1,by omega,by rw[yab];omega,gs++[g],_,rfl,?_,?_,?_,fun x o n e=>by rw[zaf n];exact s5 _ _ (k4 x o n e)⟩
   ·rw[zab,yav];rfl
   ·rw[yav];refine Own.other h5D2 (Own.append (hO.ext s5.ext) (.cons ⟨_,h5,?_⟩ .nil)) ?_
    ·exact zfI (hq5.mono s5.ext)
    ·intro z;rcases yai.mp z with z | z
     ·exact hg z
     ·exact ngD2 (yaj.mp z)
   ·intro z;rcases yai.mp z with z | z
    ·exact hg z
    ·exact ngD2 (yaj.mp z)
  ·rintro σ H4 ⟨gs,x0,rfl,h4,hO,hg,k4⟩;rw[yab,yao (yaa _)]at hO;have hgl:=hO.length;rw[yab]at hgl;have s34:Same H3 H4:=fun x o e=>k4 x o (zad e hD2) e;have s24:Same H2 H4:=s3.trans s34;have S4:=S2.same s24;refine ⟨_,rfl,.inl ⟨rfl,_,SqL.of h4⟩,_,rfl,_,rfl,st,ps,rows,t,rs,as,j,rfl,S4,hjn,fun D3 us H5 hD3 s45 h5 hw5=>?_⟩;have h5D2:=s45 _ _ h4;have n23:D2≠D3:=zad h4 hD3;refine ⟨_,_,_,rfl,rfl,h5D2,zaq (by rw[yab];omega),?_⟩;have O5:Own K H5 (gs++[D3]) (zdo ps rows j):=by
    rw[hparts];exact Own.append (hO.ext s45.ext) (.cons ⟨us,h5,hw5⟩ .nil)
   have nin:D2∉gs++[D3]:=fun z=>by
    rcases yai.mp z with z | z
    ·exact hg z
    ·exact n23 (yaj.mp z)
   have O6:=O5.other (o:=.lst (gs.map V.ref++[.ref D3])) h5D2 nin;have h6:upd H5 D2 (.lst (gs.map V.ref++[.ref D3])) D2=some (.lst ((gs++[D3]).map V.ref)):=by
    rw[zab,yav];rfl
   have k26:∀ x o,H2 x=some o→upd H5 D2 (.lst (gs.map V.ref++[.ref D3])) x=some o:=fun x o e=>by
    rw[zaf (zad (s3 _ _ e) hD2)];exact s45 _ _ (s24 _ _ e)
   generalize upd H5 D2 (.lst (gs.map V.ref++[.ref D3]))=H6 at O6 h6 k26 ⊢;have hfl:(zdo ps rows j).flatten.length≤1000:=by
    have:=zeX S.T S.len (rows:=rows) hjn;rw[zbT S.T hjn,zdh]at this;omega
   refine ⟨_,rfl,D2,gs++[D3],zdo ps rows j,rfl,h6,O6,hfl,fun p ws H7 hp s7 h7 hw7=>?_⟩;rw[← zbT S.T hjn]at hw7;have s27:Same H2 H7:=fun x o e=>s7 _ _ (k26 x o e);have h7D:=s27 _ _ h2;have hql:=hF.length;have hpD:p≠D:=Ne.symm (zad (k26 _ _ h2) hp);refine ⟨_,rfl,_,rfl,D,_,rfl,DPut.k (k:=kN j) h7D (zaq (by rw[zms hql,yan,ybA];omega)),?_⟩;rw[zp3 hql hjnot];have e78:Ext H7 (upd H7 D (.dK (zdq (bs.reverse.take i++[j]) (qs++[p])))):=fun x o e n=>by
    rw[zaf (fun z=>by
     rw[z,h7D]at e;cases e
     exact n _ rfl)]
    exact e
   have F8:zaD K (upd H7 D (.dK (zdq (bs.reverse.take i++[j]) (qs++[p])))) ps rows (bs.reverse.take i++[j]) (qs++[p]):=by
    exact zaD.ext e78 (zaD.snoc (hF.same s27) ⟨ws,h7,hw7⟩)
   refine ⟨qs++[p],_,_,rfl,zab,?_,?_,F8,?_,fun x o n e=>?_⟩
   ·rw[ya7];refine ⟨hqn,yaO.mpr ⟨(fun z=>nomatch z),ybg⟩,fun a ha b hb z=>?_⟩;rw[yaj.mp hb]at z;subst z;obtain ⟨ws',hws⟩:=hF.alloc a ha;have:=k26 _ _ hws;rw[hp]at this;cases this
   ·intro x hx;rcases yai.mp hx with z | z
    ·exact hqf x z
    ·rw[yaj.mp z];cases e:H p with
     | none=>rfl
     | some o=>
      have:=k26 _ _ (k2 p o hpD e);rw[hp]at this;cases this
   ·rw[zaf (fun z=>by rw[z,h2]at h2b;cases h2b)]
    exact s27 _ _ h2b
   ·rw[zaf n];exact s27 _ _ (k2 x o n e)
 ·rintro σ H2 ⟨qs,x5,x6,rfl,h2,hqn,hqf,hF,h2b,k2⟩;refine ⟨_,rfl,?_⟩;rw[yab,yao (by rw[ybA];exact yaa _)]at h2 hF;exact q D qs H2 hD (fun x o e=>k2 x o (zad e hD) e) h2 hqn hqf hF
def ziF (K:Frag):Sp:=fun vs H Q _=>∃(st:Addr) (ps:List Nat) (rows:List (List Int)) (t rs:Addr) (as:List Addr),vs=[.ref st]∧zby H st ps rows t rs as∧
 ∀(p:Addr) (qs:List Addr) (H':Hp),H p=none→Same H H'→H' p=some (.lst (qs.map V.ref))→qs.Nodup→(∀ q∈qs,H q=none)→p∉qs→zaD K H' ps rows (List.range (ps.length+1)) qs→Q (.ref p) H'
theorem zg9 {n i:Nat}(h:i < n):(List.range n).reverse[n - 1 - i]?=some i:=by
 rw[ycz (by rw[ybi];omega),ybi,ycj (by omega)];congr 1;omega
theorem zn3 (T:Txt K mg)(qaS:DF K mg "full_rows" zcY zbY)(qaT:FC P w K mg base 7 "full_rows_beneath" zaX (zqN K)):FC P w K mg base 8 "full_rows" zbY (ziF K):=by
 refine qaS.ok qbg (fun vs H Q E h=>?_) (fun f cdv A outer s H vs Q E hr h=>?_)
 ·obtain ⟨st,ps,rows,t,rs,as,rfl,_⟩:=h;rfl
 obtain ⟨st,ps,rows,t,rs,as,rfl,S,q⟩:=h;refine ⟨_,(zal (zar (i:=1) qbg.nd rfl (Or.inr rfl) (zax qaT hr (zaa (pv 0) (zaa zaj zac))))
   (zae (zav (zcm (N:=["knot","told"]) (own:=1) (cap:=[1]) rfl (zbJ rfl T.qaj (zaa (zap zan rfl T.qan boot_len (zaa (zaO za0 (pv 0) zaj (fun _ _=>rfl)) zac)) zac)) ⟨rfl,rfl,rfl,rfl,rfl,rfl⟩ (fun _ _ _ _ _=>(zat (i:=0) (show List.Nodup (["knot","told"]:List Str) by decide +kernel) rfl (Or.inl rfl))) (fun _ _ _ _ _=>zc1) (fun _ _ _ _ _=>(zd5 (zeC hr) (pv 1) (pv 0) (fun _ _=>rfl))))))),?_⟩
 refine ⟨_,rfl,st,ps,rows,t,rs,as,0,rfl,S,by omega,fun D qs H1 hD s1 h1 hqn hqf hF=>?_⟩;rw[zna S.T]at h1 hF;have S1:=S.same s1;have hfew:=S.few;have hql:=hF.length;rw[ybA,ybi]at hql;refine ⟨_,rfl,_,_,_,_,rfl,rfl,SqT.of S1.st,rfl,_,_,rfl,.inr (SqT.of S1.tr),_,rfl,by omega,by rw[zas];omega,fun p hp=>?_⟩;have el:((((zbB ps).length:Nat):Int)).toNat=ps.length+1:=by rw[zas,ya9]
 rw[el];refine ze2 (n:=ps.length+1) (fun i σ H2=>∃ x0:Option V,σ=[x0,some (.ref D)]∧H2 p=some (.lst ((qs.reverse.take i).map V.ref))∧But p H1 H2) ?_ ?_ ?_
 ·exact ⟨_,rfl,zab,fun b o n e=>by rw[zaf n];exact e⟩
 ·rintro i m σ H2 hm hi ⟨x0,rfl,h2,k2⟩;rw[ybP];have hi2:i < qs.reverse.length:=by rw[ybA];omega
  have hq1:qs[ps.length+1 - 1 - i]?=some qs.reverse[i]:=by
   have:=ycz (l:=qs) (i:=i) (by omega);rw[yac hi2]at this;rw[this];congr 1;omega
  have hv:=ziX (zh4 List.nodup_range) (zg9 hi) hq1;have h2D:=k2 _ _ (zad h1 hp) h1;have hdg:DGet H2 D (.int (i:Int)) (some (.ref qs.reverse[i])):=by
   rw[← hv];exact DGet.k (k:=kN i) h2D
  refine zdr ?_;refine ⟨_,rfl,_,rfl,D,_,rfl,hdg,?_⟩;refine ⟨_,h2,zaq (by rw[yab,yan];omega),m - 1,by omega,by omega,_,rfl,?_,fun b o n e=>by rw[zaf n];exact k2 b o n e⟩;rw[zab,yaK hi2,yav];rfl
 ·rintro σ H2 ⟨x0,rfl,h2,k2⟩;rw[yao (by rw[ybA];omega)]at h2;have s2:Same H1 H2:=fun b o e=>k2 b o (zad e hp) e;have F2:=(hF.same s2).rev;rw[ycx]at F2;refine q p qs.reverse H2 ?_ (s1.trans s2) h2 (zh4 hqn) (fun x hx=>hqf x (ybx.mp hx)) (fun z=>?_) F2
  ·cases e:H p with
   | none=>rfl
   | some o=>
    have:=s1 _ _ e;rw[hp]at this;cases this
  ·obtain ⟨ws,hws⟩:=hF.alloc p (ybx.mp z);rw[hp]at hws;cases hws
abbrev En:=Int×Int
theorem zbh {l:List En}(h:Rise l):l.Nodup:=List.Pairwise.imp (fun {a b} (q:pLt a b=true) z=>by
 subst z;have:=zcI.mp q;omega) h
theorem zfT {l m:List En}(h1:Rise l)(h2:Rise m)(h:∀ e,e∈l↔e∈m):l=m:=by
 refine List.Perm.eq_of_pairwise (le:=fun a b=>pLt a b=true) (fun a b _ _ q1 q2=>?_) h1 h2 ((ycn (zbh h1) (zbh h2)).mpr h);have:=zcI.mp q1;have:=zcI.mp q2;omega
theorem zbw {ps:List Nat}(T:zaB ps){rows:List (List Int)}{k:Nat}(hk:k < ps.length+1){e:En}:e∈zam ps rows k↔e∈ownE rows k∨∃ c,par ps c=some k∧e∈zcJ (zam ps rows c):=by
 rw[zbT T hk,zeg,yco];unfold zdo;constructor
 ·rintro ⟨l,hl,he⟩;rcases yai.mp hl with q | q
  ·obtain ⟨c,hc,rfl⟩:=yaE.mp q;exact .inr ⟨c,(zaE.mp hc).2,he⟩
  ·rw[yaj.mp q]at he;exact .inl he
 ·rintro (h | ⟨c,hc,h⟩)
  ·exact ⟨_,yai.mpr (.inr (yaj.mpr rfl)),h⟩
  ·exact ⟨_,yai.mpr (.inl (yaE.mpr ⟨c,zaE.mpr ⟨(zaM T hc).2,hc⟩,rfl⟩)),h⟩
inductive zhD (K:Frag)(H:Hp):V→Bool→Prop where
 | int (i:Int):zhD K H (.int i) true
 | bl (b:Bool):zhD K H (.bl b) false
 | oth (x:V) (t:String) (ty:TyOf K H x (.type t)) (h2:kitO t "int" = some false):zhD K H x false
def ziB (K:Frag):Sp:=fun vs H Q _=>∃(x:V) (b:Bool),vs=[x]∧zhD K H x b∧Q (.bl b) H
theorem znT (T:Txt K mg)(qa8:DF K mg "is_whole" zdD zck):FC P w K mg base 1 "is_whole" zck (ziB K):=by
 refine qa8.ok qcb (fun vs H Q E h=>?_) (fun f cdv A outer s H vs Q E hr h=>?_)
 ·obtain ⟨x,b,rfl,_⟩:=h;rfl
 obtain ⟨x,b,rfl,hk,q⟩:=h;refine ⟨_,(zae (zav (zjQ (zap zka rfl T.qam boot_isinstance (zaa (pv 0) (zaa (zdn (v:=.ty "int") rfl T.qc0 boot_int rfl) zac))) (zjO (zq4 (zap zka rfl T.qam boot_isinstance (zaa (pv 0) (zaa (zdn (v:=.ty "bool") rfl T.qcV boot_bool rfl) zac)))))))),?_⟩;cases hk with
 | int i=>
  refine ⟨_,rfl,_,_,_,_,rfl,.int _,zrv,_,rfl,?_⟩;refine iteT ?_;refine ⟨_,rfl,_,_,_,_,rfl,.int _,zrw,_,rfl,?_⟩;exact q
 | bl c=>
  refine ⟨_,rfl,_,_,_,_,rfl,.bl _,(show kitO "bool" "int" = some true by decide +kernel),_,rfl,?_⟩;refine iteT ?_;refine ⟨_,rfl,_,_,_,_,rfl,.bl _,zrx,_,rfl,?_⟩;exact q
 | oth x t ty h2=>
  refine ⟨_,rfl,_,_,_,_,rfl,ty,h2,_,rfl,?_⟩;refine iteF ?_;exact q
inductive zoP (K:Frag)(H:Hp):V→Bool→Prop where
 | int (i:Int) (b:Bool) (h:b=decide ((if i < 0 then -i else i) < 10 ^ 60)):zoP K H (.int i) b
 | bl (b:Bool):zoP K H (.bl b) false
 | oth (x:V) (t:String) (ty:TyOf K H x (.type t)) (h1:kitO t "bool" = some false) (h2:kitO t "int" = some false):zoP K H x false
def ziE (K:Frag):Sp:=fun vs H Q _=>∃(x:V) (b:Bool),vs=[x]∧zoP K H x b∧Q (.bl b) H
theorem zn2 (T:Txt K mg)(qbV:DF K mg "is_key" zfA zdk)(qa9:FC P w K mg base 1 "is_whole" zck (ziB K)):FC P w K mg base 2 "is_key" zdk (ziE K):=by
 refine qbV.ok qcw (fun vs H Q E h=>?_) (fun f cdv A outer s H vs Q E hr h=>?_)
 ·obtain ⟨x,b,rfl,_⟩:=h;rfl
 obtain ⟨x,b,rfl,hk,q⟩:=h;refine ⟨_,(zae (zav (zjQ (zax qa9 hr (zaa (pv 0) zac)) (zjO (zd6 zh1 (zap zhB rfl T.qcM boot_abs (zaa (pv 0) zac)) (zaA zgD zaj zaj) (zaF _)))))),?_⟩;cases hk with
 | int i b hb=>
  refine ⟨_,rfl,_,true,rfl,.int i,_,rfl,?_⟩;refine iteT ?_;refine ⟨_,rfl,_,rfl,_,_,rfl,rfl,⟨by decide,by decide,by decide⟩,_,_,rfl,rfl,?_⟩;rw[hb]at q;exact q
 | bl c=>
  refine ⟨_,rfl,_,false,rfl,.bl c,_,rfl,?_⟩;refine iteF ?_;exact q
 | oth x t ty h1 h2=>
  refine ⟨_,rfl,_,false,rfl,.oth x t ty h2,_,rfl,?_⟩;refine iteF ?_;exact q
def ziG (K:Frag):Sp:=fun vs H Q _=>∃(m x:Int),vs=[.int m,.int x]∧0≤x∧x < m∧Q (.bl true) H
theorem zn5 (T:Txt K mg)(qak:DF K mg "is_one_of_first" zbg zaP)(qa9:FC P w K mg base 1 "is_whole" zck (ziB K)):FC P w K mg base 2 "is_one_of_first" zaP (ziG K):=by
 refine qak.ok qa1 (fun vs H Q E h=>?_) (fun f cdv A outer s H vs Q E hr h=>?_)
 ·obtain ⟨m,x,rfl,_⟩:=h;rfl
 obtain ⟨m,x,rfl,h0,h1,q⟩:=h;refine ⟨_,(zae (zav (zjQ (zax qa9 hr (zaa (pv 1) zac)) (zjO (znO zpK zh1 zaj (pv 1) (pv 0)))))),?_⟩;refine ⟨_,rfl,_,true,rfl,.int x,_,rfl,?_⟩;refine iteT ?_;refine ⟨_,rfl,_,_,rfl,rfl,_,rfl,?_⟩;refine zrD h0 ?_;refine ⟨_,rfl,_,_,rfl,rfl,?_⟩;show Q (.bl (decide (x < m))) H;rw[yae h1];exact q
def zaH (a b:List En):List En:=a.filter fun e=>decide (e∉b)
theorem zaL {a b:List En}{e:En}:e∈zaH a b↔e∈a∧e∉b:=by
 unfold zaH;rw[ya5,decide_eq_true_iff]
theorem zmS (a:List En):zaH a a=[]:=ybz.mpr fun e h=>by
 rw[yah (fun z=>z h)];decide
theorem zcS {a b:List En}(h:a.Nodup):(zaH a b).Nodup:=h.filter _
structure Led (f f' g c:List En):Prop where
 eq:f'=zcG (zaH f g++c)
 gone:g=zaH f f'
 come:c=zaH f' f
theorem zmo {f f' g c:List En}(h1:Rise f)(h2:Rise f')(hg:Rise g)(hc:Rise c)(mg:∀ e,e∈g↔e∈f∧e∉f')(mc:∀ e,e∈c↔e∈f'∧e∉f):Led f f' g c:=by
 have nd:(zaH f g++c).Nodup:=by
  refine ya7.mpr ⟨zcS (zbh h1),zbh hc,fun a ha b hb z=>?_⟩;subst z;exact ((mc a).mp hb).2 (zaL.mp ha).1
 refine ⟨zfT h2 (zeN nd) fun e=>?_,zfT hg (h1.filter _) fun e=>?_,zfT hc (h2.filter _) fun e=>?_⟩
 ·rw[zeg,yai,zaL,mg,mc];constructor
  ·intro h;by_cases hf:e∈f
   ·exact .inl ⟨hf,fun z=>z.2 h⟩
   ·exact .inr ⟨h,hf⟩
  ·rintro (⟨h,n⟩ | h)
   ·exact Classical.byContradiction fun z=>n ⟨h,z⟩
   ·exact h.1
 ·exact (mg e).trans zaL.symm
 ·exact (mc e).trans zaL.symm
theorem zp2 {f f':List En}(h1:Rise f)(h2:Rise f'):Led f f' (zaH f f') (zaH f' f):=zmo h1 h2 (h1.filter _) (h2.filter _) (fun _=>zaL) (fun _=>zaL)
theorem zhq {f f':List En}(h1:Rise f)(h2:Rise f')(hg:zaH f f'=[])(hc:zaH f' f=[]):f'=f:=zfT h2 h1 fun e=>by
 constructor
 ·intro h;exact Classical.byContradiction fun z=>absurd (zaL.mpr ⟨h,z⟩) (by rw[hc];exact yaS)
 ·intro h;exact Classical.byContradiction fun z=>absurd (zaL.mpr ⟨h,z⟩) (by rw[hg];exact yaS)
section
variable {ps:List Nat}{rows rows':List (List Int)}
def zeI (k:Nat)(rows rows':List (List Int)):Prop:=∀ j,j≠k→zai rows' j=zai rows j
theorem zlT {k j:Nat}(h:zeI k rows rows')(n:j≠k):ownE rows' j=ownE rows j:=by
 unfold ownE;rw[h j n]
theorem zfJ (T:zaB ps){k:Nat}(hk:k < ps.length+1)(h:zeI k rows rows'):∀(m j:Nat),ps.length+1 - j≤m→j < ps.length+1→isB ps j k=false→zam ps rows' j=zam ps rows j
 | 0,j,hm,hj,_=>by omega
 | m+1,j,hm,hj,hb=>by
  rw[zbT T hj,zbT T hj];unfold zdo;have njk:j≠k:=fun z=>by
   rw[z,zcc]at hb;cases hb
  rw[zlT h njk];congr 3;refine ycp fun c hc=>?_;obtain ⟨hcn,hcp⟩:=zaE.mp hc;have hlt:=(zaM T hcp).1;rw[zfJ T hk h m c (by omega) hcn ?_];cases e:isB ps c k with
  | false=>rfl
  | true=>
   rw[(zb0 T _ k (yaa _) hk).mpr (.inr ⟨c,hcp,e⟩)]at hb;cases hb
theorem zmM (T:zaB ps)(R:zaz rows)(R':zaz rows'){k j p:Nat}(hk:k < ps.length+1)(h:zeI k rows rows')(hb:isB ps j k=true)(hp:par ps j=some p) :
  Led (zam ps rows p) (zam ps rows' p) (zaH (zcJ (zam ps rows j)) (zcJ (zam ps rows' j))) (zaH (zcJ (zam ps rows' j)) (zcJ (zam ps rows j))):=by
 have hlt:=zaM T hp;have hpn:p < ps.length+1:=by omega
 have npk:p≠k:=fun z=>by
  have:=zdX T (show k < j by omega);rw[hb]at this;cases this
 have oth:∀ c,par ps c=some p→c≠j→zam ps rows' c=zam ps rows c:=fun c hc n=>by
  refine zfJ T hk h _ c (yaa _) (zaM T hc).2 ?_;cases e:isB ps c k with
  | false=>rfl
  | true=>exact (zds T hc hp n _ k (yaa _) e hb).elim
 have hr:=fun {r:List (List Int)} (R:zaz r)=>(zaG T R hlt.2).sublist (zaS _);have dis:∀{r r':List (List Int)},zaz r→zaz r'→(∀ c,par ps c=some p→c≠j→zam ps r' c=zam ps r c)→ownE r' p=ownE r p→∀ e,e∈zcJ (zam ps r j)→e∉zcJ (zam ps r' j)→e∉zam ps r' p:=fun {r r'} Q Q' ho hw e he hn hf=>by
  obtain ⟨i,hi,hbi,ei,_⟩:=zfL T Q hlt.2 e ((zaS _).subset he);rcases (zbw T hpn).mp hf with z | ⟨c,hc,z⟩
  ·have:=(zjR hpn z).2;have eij:i=p:=by omega
   have:=zdX T hlt.1;rw[← eij,hbi]at this;cases this
  ·by_cases cj:c=j
   ·subst cj;exact hn z
   ·obtain ⟨i2,hi2,hb2,e2,_⟩:=zfL T Q' (zaM T hc).2 e ((zaS _).subset z);have eii:i2=i:=by omega
    subst eii;exact zds T hc hp cj _ i2 (yaa _) hb2 hbi
 have up:∀{r r':List (List Int)},(∀ c,par ps c=some p→c≠j→zam ps r' c=zam ps r c)→ownE r' p=ownE r p→∀ e,e∈zam ps r p→e∉zam ps r' p→e∈zcJ (zam ps r j)∧e∉zcJ (zam ps r' j):=fun {r r'} ho hw e he hn=>by
  refine ⟨?_,fun z=>hn ((zbw T hpn).mpr (.inr ⟨j,hp,z⟩))⟩;rcases (zbw T hpn).mp he with z | ⟨c,hc,z⟩
  ·exact absurd ((zbw T hpn).mpr (.inl (by rw[hw];exact z))) hn
  ·by_cases cj:c=j
   ·subst cj;exact z
   ·exact absurd ((zbw T hpn).mpr (.inr ⟨c,hc,by rw[ho c hc cj];exact z⟩)) hn
 have ow:=zlT h npk;refine zmo (zaG T R hpn) (zaG T R' hpn) ((hr R).filter _) ((hr R').filter _) (fun e=>zaL.trans ⟨fun zq0=>(by obtain ⟨a,b⟩:=zq0;exact ⟨(zbw T hpn).mpr (.inr ⟨j,hp,a⟩),dis R R' oth ow e a b⟩),fun zq1=>(by obtain ⟨a,b⟩:=zq1;exact up oth ow e a b)⟩) (fun e=>zaL.trans ⟨fun zq2=>(by obtain ⟨a,b⟩:=zq2;exact ⟨(zbw T hpn).mpr (.inr ⟨j,hp,a⟩),dis R' R (fun c hc n=>(oth c hc n).symm) ow.symm e a b⟩),fun zq3=>(by obtain ⟨a,b⟩:=zq3;exact up (fun c hc n=>(oth c hc n).symm) ow.symm e a b)⟩)
theorem zib (T:zaB ps)(R:zaz rows)(R':zaz rows'){k:Nat}(hk:k < ps.length+1)(h:zeI k rows rows'):Led (zam ps rows k) (zam ps rows' k) (zaH (ownE rows k) (ownE rows' k)) (zaH (ownE rows' k) (ownE rows k)):=by
 have oth:∀ c,par ps c=some k→zam ps rows' c=zam ps rows c:=fun c hc=>zfJ T hk h _ c (yaa _) (zaM T hc).2 (zdX T (zaM T hc).1);have half:∀{r r':List (List Int)},zaz r'→(∀ c,par ps c=some k→zam ps r' c=zam ps r c)→∀ e,(e∈ownE r k∧e∉ownE r' k)↔e∈zam ps r k∧e∉zam ps r' k:=fun {r r'} Q' ho e=>by
  constructor
  ·rintro ⟨a,b⟩;refine ⟨(zbw T hk).mpr (.inl a),fun z=>?_⟩;rcases (zbw T hk).mp z with z | ⟨c,hc,z⟩
   ·exact b z
   ·obtain ⟨i,hi,hbi,ei,_⟩:=zfL T Q' (zaM T hc).2 e ((zaS _).subset z);have:=(zjR hk a).2;have eik:i=k:=by omega
    have:=zdX T (zaM T hc).1;rw[← eik,hbi]at this;cases this
  ·rintro ⟨a,b⟩;refine ⟨?_,fun z=>b ((zbw T hk).mpr (.inl z))⟩;rcases (zbw T hk).mp a with z | ⟨c,hc,z⟩
   ·exact z
   ·exact absurd ((zbw T hk).mpr (.inr ⟨c,hc,by rw[ho c hc];exact z⟩)) b
 have ori:∀{r:List (List Int)},zaz r→Rise (ownE r k):=fun {r} Q=>by
  unfold ownE;exact List.Pairwise.map _ (R:=fun a b:Int=>a < b) (fun a b (h:a < b)=>zcI.mpr (.inl h)) (Q.at_up k)
 exact zmo (zaG T R hk) (zaG T R' hk) ((ori R).filter _) ((ori R').filter _) (fun e=>zaL.trans (half R' oth e)) (fun e=>zaL.trans (half R (fun c hc=>(oth c hc).symm) e))
end
structure FA (K:Frag)(H:Hp)(p:Addr)(qs:List Addr)(n:Nat)(f:Nat→List En):Prop where
 at_:H p=some (.lst (qs.map V.ref))
 len:qs.length=n
 nd:qs.Nodup
 np:p∉qs
 get:∀(j:Nat) (q:Addr),qs[j]?=some q→∃ ws,H q=some (.lst ws)∧zak K H (f j) ws
section
variable {K:Frag}{H H':Hp}{p:Addr}{qs:List Addr}{n:Nat}{f g:Nat→List En}
theorem FA.ext (h:FA K H p qs n f)(e:Ext H H'):FA K H' p qs n f:=
 ⟨e _ _ h.at_ (fun _ z=>nomatch z),h.len,h.nd,h.np,fun j q hq=>by
  obtain ⟨ws,h1,h2⟩:=h.get j q hq;exact ⟨ws,e _ _ h1 (fun _ z=>nomatch z),h2.mono e⟩⟩
theorem FA.congr (h:FA K H p qs n f)(e:∀ j,j < n→f j=g j):FA K H p qs n g:=
 ⟨h.at_,h.len,h.nd,h.np,fun j q hq=>by
  rw[← e j (by have:=(yam.mp hq).1;have:=h.len;omega)];exact h.get j q hq⟩
theorem FA.set (h:FA K H p qs n f){k:Nat}{q':Addr}{l:List En}{ws:List V}(hq:H q'=some (.lst ws))(hw:zak K H l ws)(hn:q'∉qs)(hp:q'≠p):FA K (upd H p (.lst ((qs.map V.ref).set k (.ref q')))) p (qs.set k q') n (fun j=>if j=k then l else f j):=by
 refine ⟨?_,by rw[ybU];exact h.len,?_,fun z=>?_,fun j q hj=>?_⟩
 ·rw[zab,List.map_set]
 ·show List.Pairwise _ _;rw[yaV];intro i j hi hj hij;rw[ybU]at hi hj;rw[List.getElem_set,List.getElem_set];have old:=yaV.mp h.nd i j hi hj hij;split
  ·rw[if_neg (by omega)];exact fun z=>hn (z ▸ yaN hj)
  ·split
   ·exact fun z=>hn (z ▸ yaN hi)
   ·exact old
 ·rcases ybB z with y | y
  ·exact h.np y
  ·exact hp y.symm
 ·rw[ybN]at hj;show ∃ ws,_∧zak K _ (if j=k then l else f j) ws
  by_cases c:k=j
  ·rw[if_pos c]at hj;by_cases c2:k < qs.length
   ·rw[if_pos c2]at hj;have:=yad hj;subst this;rw[if_pos c.symm];exact ⟨ws,by rw[zaf hp];exact hq,zbj h.at_ hw⟩
   ·rw[if_neg c2]at hj;cases hj
  ·rw[if_neg c]at hj;rw[if_neg (fun z=>c z.symm)];obtain ⟨us,h1,h2⟩:=h.get j q hj;have hqp:q≠p:=fun z=>h.np (by rw[← z];exact yaD hj);exact ⟨us,by rw[zaf hqp];exact h1,zbj h.at_ h2⟩
theorem FA.at (h:FA K H p qs n f){k:Nat}(hk:k < n):∃ q ws,qs[k]?=some q∧H q=some (.lst ws)∧zak K H (f k) ws:=by
 have e:qs[k]?=some (qs[k]'(by have:=h.len;omega)):=yac _;obtain ⟨ws,h1,h2⟩:=h.get k _ e;exact ⟨_,ws,e,h1,h2⟩
theorem FA.has (h:FA K H p qs n f):zak K H ((List.range n).map f) (qs.map V.ref):=by
 obtain ⟨h1,h2,h3,h4,h5⟩:=h;clear h1 h3 h4
 induction qs generalizing n f with
 | nil=>
  have:n=0:=h2.symm;subst this;exact .nil
 | cons q qs ih=>
  obtain ⟨m,rfl⟩:∃ m,n=m+1:=⟨qs.length,h2.symm⟩;rw[List.range_succ_eq_map,yar,yar,ybo];obtain ⟨ws,w1,w2⟩:=h5 0 q rfl;exact .cons ⟨q,ws,rfl,SqL.of w1,w2⟩ (ih (n:=m) (f:=f ∘ Nat.succ) (Nat.succ.inj h2) fun j q' hj=>h5 (j+1) q' (by rw[ybI];exact hj))
end
structure zaC (K:Frag)(CS:Addr)(H:Hp)(sh dx st p:Addr)(qs:List Addr)(ps:List Nat)(rows:List (List Int))(t rs:Addr)(as:List Addr):Prop where
 own:H dx=some (.own sh)
 ins:H sh=some (.ins CS dx [("kept",.ref st),("fulls",.ref p)])
 stand:zby H st ps rows t rs as
 full:FA K H p qs (ps.length+1) (zam ps rows)
def Tp (H H':Hp):Prop:=∀ b us,H b=some (.tup us)→H' b=some (.tup us)
theorem ziI {H H':Hp}(e:Tp H H'){as:List Addr}{rows:List (List Int)}(h:zaI H as rows):zaI H' as rows:=pImp (fun _ _=>e _ _) h
theorem zb6 {H H':Hp}{st t rs:Addr}{ps:List Nat}{rows:List (List Int)}{as:List Addr}(e:Tp H H')(S:zby H st ps rows t rs as):zby H' st ps rows t rs as:=
 ⟨e _ _ S.st,e _ _ S.tr,e _ _ S.rs,ziI e S.at_,S.len,S.T,S.R,S.few,S.keys⟩
theorem But.tp {H H':Hp}{p:Addr}(k:But p H H')(n:∀ us,H p≠some (.tup us)):Tp H H':=fun b us e=>k b _ (fun z=>n us (z ▸ e)) e
theorem zaQ {K:Frag}{H H':Hp}(k:Tp H H'){es:List (Int×Int)}{ws:List V}(h:zak K H es ws):zak K H' es ws:=pImp (fun _ _ h=>by
  obtain ⟨a,x1,x2,rfl,hT,e1,e2⟩:=(show hasP K H _ _ from h);exact ⟨a,x1,x2,rfl,k _ _ hT,e1,e2⟩) h
theorem FA.tp {K:Frag}{H H':Hp}{p:Addr}{qs:List Addr}{n:Nat}{f:Nat→List En}(h:FA K H p qs n f)(e:Tp H H')(l:∀ b us,H b=some (.lst us)→H' b=some (.lst us)):FA K H' p qs n f:=
 ⟨l _ _ h.at_,h.len,h.nd,h.np,fun j q hq=>by
  obtain ⟨ws,h1,h2⟩:=h.get j q hq;exact ⟨ws,l _ _ h1,zaQ e h2⟩⟩
def zjx (K:Frag)(CS:Addr):Sp:=fun vs H Q _=>∃(sh dx st:Addr) (ps:List Nat) (rows:List (List Int)) (t rs:Addr) (as:List Addr),vs=[.ref sh,.ref st]∧H dx=some (.own sh)∧H sh=some (.ins CS dx [])∧zby H st ps rows t rs as∧
 ∀(p:Addr) (qs:List Addr) (H':Hp),H p=none→(∀ q∈qs,H q=none)→But sh H H'→zaC K CS H' sh dx st p qs ps rows t rs as→Q .non H'
theorem zrK {K:Frag}{H:Hp}{ps:List Nat}{rows:List (List Int)}:∀{n:Nat} {qs:List Addr} (m:Nat),zaD K H ps rows (List.range' m n) qs→qs.length=n∧∀(j:Nat) (q:Addr),qs[j]?=some q→∃ ws,H q=some (.lst ws)∧zak K H (zam ps rows (m+j)) ws
 | 0,_,_,.nil=>⟨rfl,fun j q h=>by simp at h⟩
 | n+1,_,m,.cons (b:=q) h r=>by
  obtain ⟨l,g⟩:=zrK (m+1) r;refine ⟨by rw[yaI,l],fun j q' hj=>?_⟩;cases j with
  | zero=>
   obtain rfl:=yad hj;exact h
  | succ j=>
   have:=g j q' hj;rwa[show m+1+j=m+(j+1) by omega]at this
theorem zaD.fa {K:Frag}{H:Hp}{p:Addr}{ps:List Nat}{rows:List (List Int)}{n:Nat}{qs:List Addr}(h:zaD K H ps rows (List.range n) qs)(hp:H p=some (.lst (qs.map V.ref)))(nd:qs.Nodup)(np:p∉qs):FA K H p qs n (zam ps rows):=by
 rw[List.range_eq_range']at h;obtain ⟨l,g⟩:=zrK 0 h;exact ⟨hp,l,nd,np,fun j q hj=>by
  have:=g j q hj;rwa[Nat.zero_add]at this⟩
theorem zpS (T:Txt K mg){CS:Addr}(O:OwnC K mg CS)(qao:DI K CS "Shelf.__init__" zbu zaZ)(qaU:FC P w K mg base 8 "full_rows" zbY (ziF K)):FI P w K mg base CS 9 zaZ (zjx K CS):=by
 refine qao.ok qa6 (fun vs H Q E h=>?_) (fun f cdv A outer s H vs Q E hr h=>?_)
 ·obtain ⟨sh,dx,st,ps,rows,t,rs,as,rfl,_⟩:=h;rfl
 obtain ⟨sh,dx,st,ps,rows,t,rs,as,rfl,h1,h2,S,q⟩:=h;refine ⟨_,(zal (zjL (pv 0) (pv 1) rfl)
   (zae (zjL (pv 0) (zax qaU hr (zaa (pv 1) zac)) rfl))),?_⟩
 refine ⟨_,rfl,_,rfl,sh,CS,dx,[],rfl,h2,O.cl,O.n_kept,by decide,?_⟩;have k1:But sh H (upd H sh (.ins CS dx (putF "kept" (.ref st) []))):=fun b o n e=>by rw[zaf n];exact e
 have hsd:dx≠sh:=fun z=>by rw[z,h2]at h1;cases h1
 have a1:=k1 _ _ hsd h1;have a2:upd H sh (.ins CS dx (putF "kept" (.ref st) [])) sh=some (.ins CS dx [("kept",.ref st)]):=zab;have S1:=zb6 (k1.tp fun us z=>by rw[h2]at z;cases z) S
 have hn:∀ b,upd H sh (.ins CS dx (putF "kept" (.ref st) [])) b=none→H b=none:=fun b e=>by
  by_cases z:b=sh
  ·subst z;rw[a2]at e;cases e
  ·rwa[zaf z]at e
 generalize upd H sh (.ins CS dx (putF "kept" (.ref st) []))=H1 at k1 a1 a2 S1 hn ⊢;refine ⟨_,rfl,st,ps,rows,t,rs,as,rfl,S1,fun p qs H2 hp s2 g2 nd hq np F=>?_⟩;have b2:=s2 _ _ a2;refine ⟨_,rfl,sh,CS,dx,_,rfl,b2,O.cl,O.n_fulls,(by show 1 < 1000;decide),?_⟩;have k2:But sh H2 (upd H2 sh (.ins CS dx (putF "fulls" (.ref p) [("kept",.ref st)]))):=fun b o n e=>by rw[zaf n];exact e
 have F2:FA K (upd H2 sh (.ins CS dx (putF "fulls" (.ref p) [("kept",.ref st)]))) p qs (ps.length+1) (zam ps rows):=by
  exact (F.fa g2 nd np).tp (k2.tp fun us z=>by rw[b2]at z;cases z) fun b us e=>k2 b _ (fun z=>by rw[z,b2]at e;cases e) e
 refine q p qs _ (hn _ hp) (fun x hx=>hn _ (hq x hx)) (fun b o n e=>k2 b o n (s2 _ _ (k1 b o n e))) ⟨k2 _ _ hsd (s2 _ _ a1),by rw[zab];rfl,zb6 (k2.tp fun us z=>by rw[b2]at z;cases z) (S1.same s2),F2⟩
def ziD (K:Frag):Sp:=fun vs H Q _=>∃(t:Addr) (kn:Nat) (ps:List Nat),vs=[.ref t,.int kn]∧H t=some (.tup (zbB ps))∧ps.length≤900∧kn < ps.length+1∧Q .non H
def zls (CS:Addr):Sp:=fun vs H Q _=>∃(sh dx st p:Addr),vs=[.ref sh]∧H sh=some (.ins CS dx [("kept",.ref st),("fulls",.ref p)])∧Q (.ref st) H
theorem znU {CS:Addr}(O:OwnC K mg CS)(qaD:DM K CS "stand" "Shelf.stand" zb8 zbR):FM P w K mg base CS 1 "stand" zbR (zls CS):=by
 refine qaD.ok qbE (fun vs H Q E h=>?_) (fun f cdv A outer s H vs Q E hr h=>?_)
 ·obtain ⟨sh,dx,st,p,rfl,_⟩:=h;rfl
 obtain ⟨sh,dx,st,p,rfl,h2,q⟩:=h;refine ⟨_,(zae (zav (zcO (pv 0) rfl))),?_⟩;exact ⟨_,rfl,sh,CS,dx,_,_,rfl,h2,O.cl,O.n_kept,rfl,q⟩
theorem zn1 (T:Txt K mg)(qaV:DF K mg "need_knot" zcW zbW)(qal:FC P w K mg base 2 "is_one_of_first" zaP (ziG K)):FC P w K mg base 3 "need_knot" zbW (ziD K):=by
 refine qaV.ok qb3 (fun vs H Q E h=>?_) (fun f cdv A outer s H vs Q E hr h=>?_)
 ·obtain ⟨t,kn,ps,rfl,_⟩:=h;rfl
 obtain ⟨t,kn,ps,rfl,ht,hl,hk,q⟩:=h;refine ⟨_,(zae (zaW (zcM (zbV (zax qal hr (zaa (zap zan rfl T.qan boot_len (zaa (pv 0) zac)) (zaa (pv 1) zac))))) (zae za4) zay)),?_⟩;have el:=zas ps;refine ⟨_,rfl,_,_,rfl,.inr (SqT.of ht),_,rfl,_,_,rfl,by omega,by omega,_,rfl,?_⟩;exact iteF q
def zfb (x:Int):Prop:=-10 ^ 60 < x∧x < 10 ^ 60
def zlt (K:Frag):Sp:=fun vs H Q _=>∃(x:Int),vs=[.int x]∧zfb x∧Q .non H
theorem znW (T:Txt K mg)(qba:DF K mg "need_key" zdB zc2)(qbW:FC P w K mg base 2 "is_key" zdk (ziE K)):FC P w K mg base 3 "need_key" zc2 (zlt K):=by
 refine qba.ok qcc (fun vs H Q E h=>?_) (fun f cdv A outer s H vs Q E hr h=>?_)
 ·obtain ⟨x,rfl,_⟩:=h;rfl
 obtain ⟨x,rfl,hx,q⟩:=h;refine ⟨_,(zae (zaW (zcM (zbV (zax qbW hr (zaa (pv 0) zac)))) (zae za4) zay)),?_⟩;refine ⟨_,rfl,_,true,rfl,.int x _ (yae (p:=(if x < 0 then -x else x) < 10 ^ 60) ?_).symm,_,rfl,?_⟩
 ·obtain ⟨h1,h2⟩:=hx;split <;> omega
 exact iteF q
def zly (K:Frag)(CS:Addr):Sp:=fun vs H Q _=>∃(sh dx st p:Addr) (kn:Nat) (qs:List Addr) (ps:List Nat) (rows:List (List Int)) (t rs:Addr) (as:List Addr),vs=[.ref sh,.int kn]∧zaC K CS H sh dx st p qs ps rows t rs as∧kn < ps.length+1∧
 ∀(D:Addr) (ws:List V),H D=none→zak K H (zam ps rows kn) ws→Q (.ref D) (upd H D (.lst ws))
theorem zn4 (T:Txt K mg){CS:Addr}(O:OwnC K mg CS)(qaM:DM K CS "full" "Shelf.full" zcA zca)(qaW:FC P w K mg base 3 "need_knot" zbW (ziD K)):FM P w K mg base CS 4 "full" zca (zly K CS):=by
 refine qaM.ok qbO (fun vs H Q E h=>?_) (fun f cdv A outer s H vs Q E hr h=>?_)
 ·obtain ⟨sh,dx,st,p,kn,qs,ps,rows,t,rs,as,rfl,_⟩:=h;rfl
 obtain ⟨sh,dx,st,p,kn,qs,ps,rows,t,rs,as,rfl,S,hk,q⟩:=h;refine ⟨_,(zal (zbx (zax qaW hr (zaa (zaO za0 (zcO (pv 0) rfl) zaj (fun _ _=>rfl)) (zaa (pv 1) zac))))
   (zae (zav (zbn zfk rfl T.qbI boot_list (zaa (zaO zbe (zcO (pv 0) rfl) (pv 1) (fun _ _=>rfl)) zac))))),?_⟩
 obtain ⟨qk,ws,g1,g2,g3⟩:=S.full.at hk;refine ⟨_,rfl,sh,CS,dx,_,_,rfl,S.ins,O.cl,O.n_kept,rfl,_,_,_,_,rfl,rfl,SqT.of S.stand.st,rfl,_,rfl,t,kn,ps,rfl,S.stand.tr,by have:=S.stand.few;omega,hk,?_⟩;refine ⟨_,rfl,sh,CS,dx,_,_,rfl,S.ins,O.cl,O.n_fulls,rfl,_,rfl,_,_,_,_,rfl,rfl,SqL.of S.full.at_,zcU g1,qk,ws,rfl,.inl (SqL.of g2),fun D hD=>?_⟩;exact q D ws hD g3
def zgY (K:Frag)(CS:Addr):Sp:=fun vs H Q _=>∃(sh dx st p:Addr) (kn:Nat) (x:Int) (qs:List Addr) (ps:List Nat) (rows:List (List Int)) (t rs:Addr) (as:List Addr),vs=[.ref sh,.int kn,.int x]∧zaC K CS H sh dx st p qs ps rows t rs as∧kn < ps.length+1∧zfb x∧
 ∀(a:Addr),as[kn]?=some a→H a=some (.tup ((zai rows kn).map V.int))→Q (.ref a) H
theorem zl3 (T:Txt K mg){CS:Addr}(O:OwnC K mg CS)(qau:DM K CS "row_for" "Shelf.row_for" zbE zba)(qaW:FC P w K mg base 3 "need_knot" zbW (ziD K))(qct:FC P w K mg base 3 "need_key" zc2 (zlt K)):FM P w K mg base CS 4 "row_for" zba (zgY K CS):=by
 refine qau.ok qbi (fun vs H Q E h=>?_) (fun f cdv A outer s H vs Q E hr h=>?_)
 ·obtain ⟨sh,dx,st,p,kn,x,qs,ps,rows,t,rs,as,rfl,_⟩:=h;rfl
 obtain ⟨sh,dx,st,p,kn,x,qs,ps,rows,t,rs,as,rfl,S,hk,hx,q⟩:=h;refine ⟨_,(zal (zbx (zax qaW hr (zaa (zaO za0 (zcO (pv 0) rfl) zaj (fun _ _=>rfl)) (zaa (pv 1) zac))))
   (zal (zbx (zax qct hr (zaa (pv 2) zac)))
   (zae (zav (zaO za0 (zaO za0 (zcO (pv 0) rfl) zaj (fun _ _=>rfl)) (pv 1) (fun _ _=>rfl)))))),?_⟩
 obtain ⟨a,g1,g2⟩:=S.stand.at_.get (k:=kn) (by rw[S.stand.len];exact hk);refine ⟨_,rfl,sh,CS,dx,_,_,rfl,S.ins,O.cl,O.n_kept,rfl,_,_,_,_,rfl,rfl,SqT.of S.stand.st,rfl,_,rfl,t,kn,ps,rfl,S.stand.tr,by have:=S.stand.few;omega,hk,?_⟩;refine ⟨_,rfl,x,rfl,hx,?_⟩;refine ⟨_,rfl,sh,CS,dx,_,_,rfl,S.ins,O.cl,O.n_kept,rfl,_,_,_,_,rfl,rfl,SqT.of S.stand.st,rfl,_,rfl,_,_,_,_,rfl,rfl,SqT.of S.stand.rs,zcU g1,?_⟩;exact q a g1 g2
abbrev kS (e:En):List Key:=[.inl e.1,.inl e.2]
theorem zrC {e f:En}(h:kS e=kS f):e=f:=by
 obtain ⟨a,b⟩:=e;obtain ⟨c,d⟩:=f;injection h with h1 h2;injection h2 with h2 _;have h1:a=c:=Sum.inl.inj h1;have h2:b=d:=Sum.inl.inj h2;rw[h1,h2]
def kvW (es:List En):List (List Key×V):=es.map fun e=>(kS e,.bl true)
theorem ziY (e:En):∀ es:List En,valV (kvW es) (kS e)=if e∈es then some (.bl true) else none
 | []=>rfl
 | f::es=>by
  show valV ((kS f,.bl true)::kvW es) (kS e)=_;by_cases z:f=e
  ·subst z;rw[zcv rfl,if_pos yaL]
  ·rw[zbr (fun y=>z (zrC y)),ziY e es];have hm:(e∈f::es)=(e∈es):=propext ⟨fun h=>(yak.mp h).resolve_left fun y=>z y.symm,fun h=>yaA _ h⟩;by_cases y:e∈es
   ·rw[if_pos y,if_pos (by rw[hm];exact y)]
   ·rw[if_neg y,if_neg (by rw[hm];exact y)]
def zhQ (K:Frag):Sp:=fun vs H Q _=>∃(a c:Addr) (ws us:List V) (es cs:List En),vs=[.ref a,.ref c]∧H a=some (.lst ws)∧zak K H es ws∧es.length≤900∧H c=some (.lst us)∧zak K H cs us∧cs.length≤900∧cs.Nodup∧
 ∀(p:Addr) (ws':List V) (H':Hp),H p=none→Same H H'→H' p=some (.lst ws')→zak K H' (zaH es cs) ws'→Q (.ref p) H'
theorem zkt (T:Txt K mg)(qbw:DF K mg "without" zeh zdF):FC P w K mg base 1 "without" zdF (zhQ K):=by
 refine qbw.ok qa4 (fun vs H Q E h=>?_) (fun f cdv A outer s H vs Q E hr h=>?_)
 ·obtain ⟨a,c,ws,us,es,cs,rfl,_⟩:=h;rfl
 obtain ⟨a,c,ws,us,es,cs,rfl,ha,hw,hz,hc,hu,hzc,hnd,q⟩:=h;have hwl:=hw.length;have hul:=hu.length;refine ⟨_,(zal (zar (i:=2) qa4.nd rfl (Or.inr rfl) znN)
   (zal (zbd PassesOwn.never rfl (zb2 (pv 1)) (zat (i:=3) qa4.nd rfl (Or.inl rfl)) (zae (zeQ (zeC hr) (pv 2) (pv 3) zdU rfl)))
   (zae (zav (zcm (N:=["entry","away"]) (own:=1) (cap:=[2]) rfl (zb2 (pv 0)) ⟨rfl,rfl,rfl,rfl,rfl,rfl⟩ (fun _ _ _ _ _=>(zat (i:=0) (show List.Nodup (["entry","away"]:List Str) by decide +kernel) rfl (Or.inl rfl))) (fun _ _ _ _ _=>(zfU (zaw (zks (zeC hr)) (pv 0) (pv 1) (by with_unfolding_all rfl)))) (fun _ _ _ _ _=>(pv 0))))))),?_⟩
 intro D hD;have k0:But D H (upd H D (.dT [])):=fun b o n e=>by rw[zaf n];exact e
 have naD:a≠D:=zad ha hD;have ncD:c≠D:=zad hc hD;refine ⟨_,rfl,c,rfl,⟨_,SqL.of (k0 _ _ ncD hc)⟩,?_⟩;refine zcF (xs:=us) (fun i σ H2=>∃ x3:Option V,σ=[some (.ref a),some (.ref c),some (.ref D),x3]∧H2 D=some (.dT (kvW (cs.take i)))∧But D H H2) ?_ ?_ ?_ ?_
 ·exact ⟨_,rfl,zab,k0⟩
 ·rintro i σ H2 _ ⟨x3,rfl,_,k2⟩;exact SqL.of (k2 _ _ ncD hc)
 ·rintro i x σ H2 hx ⟨x3,rfl,h2,k2⟩;obtain ⟨e,he,hhas⟩:=hu.get hx;obtain ⟨b,y1,y2,rfl,hb,hy1,hy2⟩:=(show hasP K H e x from hhas);have hy1:y1=.int e.1:=hy1;have hy2:y2=.int e.2:=hy2;subst hy1 hy2;have hi:=(yam.mp he).1;have htk:cs.take (i+1)=cs.take i++[e]:=by
   rw[yaK hi,(yam.mp he).2]
  have h2b:=k2 _ _ (zad hb hD) hb;have hnot:e∉cs.take i:=fun z=>by
   have hn2:=hnd;rw[← yaP (i+1) cs,htk]at hn2;have:=(ya7.mp (ya7.mp hn2).1).2.2 e z e (yaj.mpr rfl);exact this rfl
  have hln:(kvW (cs.take i)).length≤1000:=by
   unfold kvW;rw[yab,yan];omega
  refine ⟨_,rfl,_,rfl,D,_,rfl,DPut.t (k:=kS e) h2 h2b (zaq hln),?_⟩;refine ⟨_,rfl,?_,fun b o n e=>by rw[zaf n];exact k2 b o n e⟩;rw[zab,zeo _ (by rw[ziY,if_neg hnot]),htk];unfold kvW;rw[yav];rfl
 ·rintro σ H2 ⟨x3,rfl,h2,k2⟩;rw[yao (by omega)]at h2;have s2:Same H H2:=fun b o e=>k2 b o (zad e hD) e;have h2a:=s2 _ _ ha;refine ⟨_,rfl,a,rfl,⟨_,SqL.of h2a⟩,fun p hp=>?_⟩;have nDp:D≠p:=zad h2 hp;refine zcs (xs:=ws) (fun j σ H5=>∃(x0:Option V) (us:List V),σ=[x0,some (.ref D)]∧H5 p=some (.lst us)∧zak K H5 (zaH (es.take j) cs) us∧us.length≤j∧But p H2 H5) ?_ ?_ ?_ ?_
  ·exact ⟨_,[],rfl,zab,.nil,yaa _,fun b o n e=>by rw[zaf n];exact e⟩
  ·rintro j σ H5 _ ⟨x0,us,rfl,_,_,_,k5⟩;exact k5.sq (SqL.of h2a) hp
  ·rintro j m x σ H5 hx hm ⟨x0,us,rfl,h5,hv,hul,k5⟩;have hj:=(yam.mp hx).1;obtain ⟨e,he,bb,x1,x2,rfl,hb,e1,e2⟩:∃ e,es[j]?=some e∧hasP K H e x:=hw.get hx;have e1':x1=.int e.1:=e1;have e2':x2=.int e.2:=e2;subst e1' e2';have htk:zaH (es.take (j+1)) cs=zaH (es.take j) cs++zaH [e] cs:=by
    unfold zaH;rw[yaK (by omega),(yam.mp he).2,ybp]
   have b2:=s2 _ _ hb;have b5:=k5 _ _ (zad b2 hp) b2;have h5D:=k5 _ _ nDp h2;refine ⟨_,rfl,_,rfl,D,_,rfl,DGet.t (k:=kS e) h5D b5,_,rfl,?_⟩;rw[ziY];by_cases c:e∈cs
   ·rw[if_pos c];refine iteF ⟨m - 1,by omega,by omega,_,_,rfl,h5,?_,by omega,k5⟩;rw[htk,show zaH [e] cs=[] from ybO (p:=fun e=>decide (e∉cs)) (by simpa using c),yaJ];exact hv
   ·rw[if_neg c];refine iteT ⟨_,rfl,_,h5,zaq (by omega),m - 1,by omega,by omega,_,_,rfl,zab,?_,by rw[yap,ybf];omega,fun b o n e=>by rw[zaf n];exact k5 b o n e⟩;rw[htk,show zaH [e] cs=[e] from ybq (p:=fun e=>decide (e∉cs)) (yae c)];exact (zbj h5 hv).append (zbj h5 (.cons ⟨bb,.int e.1,.int e.2,rfl,b5,rfl,rfl⟩ .nil))
  rintro σ H5 ⟨x0,us',rfl,h5,hv,_,k5⟩;rw[← hwl,yao (yaa _)]at hv;have hpH:H p=none:=by
   cases e:H p with
   | none=>rfl
   | some o=>
    rw[s2 _ _ e]at hp;cases hp
  exact q p us' H5 hpH (fun b o e=>k5 b o (zad (s2 _ _ e) hp) (s2 _ _ e)) h5 hv
section
variable {ps:List Nat}{rows rows':List (List Int)}{k:Nat}
def upN (ps:List Nat)(k:Nat):Nat→Option Nat
 | 0=>some k
 | m+1=>(upN ps k m).bind (par ps)
theorem znm {m j p:Nat}(h:upN ps k m=some j)(hp:par ps j=some p):upN ps k (m+1)=some p:=by
 show (upN ps k m).bind (par ps)=_;rw[h];exact hp
theorem zgT {m j:Nat}(h:upN ps k m=some j):upN ps k (m+1)=par ps j:=by
 show (upN ps k m).bind (par ps)=_;rw[h];rfl
theorem zeb {m p:Nat}(h:upN ps k (m+1)=some p):∃ j,upN ps k m=some j∧par ps j=some p:=by
 cases e:upN ps k m with
 | none=>
  have:(upN ps k m).bind (par ps)=some p:=h;rw[e]at this;cases this
 | some j=>
  have:(upN ps k m).bind (par ps)=some p:=h;rw[e]at this;exact ⟨j,rfl,this⟩
theorem zk8 (T:zaB ps):∀{m j:Nat},upN ps k m=some j→j+m≤k
 | 0,j,h=>by
  have:k=j:=yad h;omega
 | m+1,j,h=>by
  obtain ⟨i,h1,h2⟩:=zeb h;have:=zk8 T h1;have:=(zaM T h2).1;omega
theorem zfN (T:zaB ps)(hk:k < ps.length+1){m j:Nat}(h:upN ps k m=some j):j < ps.length+1:=by
 have:=zk8 T h;omega
theorem zgU (T:zaB ps){i j:Nat}:∀ d m,upN ps k (m+d)=some i→upN ps k m=some j→i+d≤j
 | 0,m,h1,h2=>by
  rw[ybw,h2]at h1;have:=yad h1;omega
 | d+1,m,h1,h2=>by
  obtain ⟨x,g1,g2⟩:=zeb (m:=m+d) h1;have:=zgU T d m g1 h2;have:=(zaM T g2).1;omega
theorem zjp (T:zaB ps)(hk:k < ps.length+1):∀{m j:Nat},upN ps k m=some j→isB ps j k=true
 | 0,j,h=>by
  have:k=j:=yad h;subst this;exact zcc
 | m+1,j,h=>by
  obtain ⟨i,h1,h2⟩:=zeb h;exact (zb0 T _ k (yaa _) hk).mpr (.inr ⟨i,h2,zjp T hk h1⟩)
theorem zoU (T:zaB ps)(hk:k < ps.length+1):∀(n j:Nat),ps.length+1 - j≤n→isB ps j k=true→∃ m,upN ps k m=some j
 | 0,j,hn,h=>by
  rcases (zb0 T _ k (yaa _) hk).mp h with z | ⟨c,hc,_⟩
  ·exact ⟨0,congrArg some z⟩
  ·have:=zaM T hc;omega
 | n+1,j,hn,h=>by
  rcases (zb0 T _ k (yaa _) hk).mp h with z | ⟨c,hc,hb⟩
  ·exact ⟨0,congrArg some z⟩
  ·have:=zaM T hc;obtain ⟨m,hm⟩:=zoU T hk n c (by omega) hb;exact ⟨m+1,znm hm hc⟩
def stL (ps:List Nat)(rows rows':List (List Int))(k:Nat):Nat→Nat→List En
 | 0,i=>zam ps rows i
 | m+1,i=>if upN ps k m=some i then zam ps rows' i else stL ps rows rows' k m i
theorem zlo:∀{m i m':Nat},m' < m→upN ps k m'=some i→stL ps rows rows' k m i=zam ps rows' i
 | m+1,i,m',h,e=>by
  unfold stL;by_cases z:upN ps k m=some i
  ·rw[if_pos z]
  ·rw[if_neg z];refine zlo (m':=m') ?_ e;rcases ybH m' m with y | y
   ·exact y
   ·have:m'=m:=by omega
    subst this;exact absurd e z
theorem zgW:∀{m i:Nat},(∀ m',m' < m→upN ps k m'≠some i)→stL ps rows rows' k m i=zam ps rows i
 | 0,_,_=>rfl
 | m+1,i,h=>by
  unfold stL;rw[if_neg (h m (by omega))];exact zgW fun m' hm=>h m' (by omega)
theorem zlq (T:zaB ps){m j:Nat}(h:upN ps k m=some j):stL ps rows rows' k m j=zam ps rows j:=zgW fun m' hm e=>by
 have:=zgU T (m - m') m' (by rw[show m'+(m - m')=m by omega];exact h) e;omega
theorem zk6 (T:zaB ps)(R:zaz rows)(R':zaz rows')(hk:k < ps.length+1)(h:zeI k rows rows'){m j:Nat}(hm:upN ps k m=some j)(e:zam ps rows' j=zam ps rows j):∀{d i:Nat},upN ps k (m+d)=some i→zam ps rows' i=zam ps rows i
 | 0,i,hi=>by
  rw[ybw,hm]at hi;have:=yad hi;subst this;exact e
 | d+1,i,hi=>by
  obtain ⟨x,g1,g2⟩:=zeb (m:=m+d) hi;have ih:=zk6 T R R' hk h hm e g1;have L:=zmM T R R' hk h (zjp T hk g1) g2;rw[ih,zmS]at L;exact zhq (zaG T R (zfN T hk hi)) (zaG T R' (zfN T hk hi)) L.gone.symm L.come.symm
theorem zlp (T:zaB ps)(R:zaz rows)(R':zaz rows')(hk:k < ps.length+1)(h:zeI k rows rows'){m:Nat}(hm:upN ps k m=none∨∃ j,upN ps k m=some j∧zam ps rows' j=zam ps rows j){i:Nat}(hi:i < ps.length+1):stL ps rows rows' k m i=zam ps rows' i:=by
 cases e:isB ps i k with
 | false=>
  rw[zgW fun m' _ z=>by rw[zjp T hk z]at e;cases e]
  exact (zfJ T hk h _ i (yaa _) hi e).symm
 | true=>
  obtain ⟨m',e'⟩:=zoU T hk _ i (yaa _) e;rcases ybH m' m with y | y
  ·exact zlo y e'
  ·rw[zgW fun x hx z=>by
    have:=zgU T (m' - x) x (by rw[show x+(m' - x)=m' by omega];exact e') z;omega]
   rcases hm with hm | ⟨j,hm,hj⟩
   ·exfalso;have:∀ d,upN ps k (m+d)=none:=fun d=>by
     induction d with
     | zero=>exact hm
     | succ d ih=>
      show (upN ps k (m+d)).bind (par ps)=none;rw[ih];rfl
    have:=this (m' - m);rw[show m+(m' - m)=m' by omega,e']at this;cases this
   ·exact (zk6 T R R' hk h hm hj (d:=m' - m) (by rw[show m+(m' - m)=m' by omega];exact e')).symm
end
def zgV (ps:List Nat)(rows rows':List (List Int))(j:Nat):Tri Int (List En) (List En):=⟨(j:Int),zaH (zam ps rows j) (zam ps rows' j),zaH (zam ps rows' j) (zam ps rows j)⟩
def zb5 (ps:List Nat)(rows rows':List (List Int))(k:Nat):Nat→List (Tri Int (List En) (List En))
 | 0=>[]
 | m+1=>zb5 ps rows rows' k m++((upN ps k m).map (zgV ps rows rows')).toList
structure zct (K:Frag)(CS:Addr)(H:Hp)(sh dx st p:Addr)(qs:List Addr)(ps:List Nat)(rows rows':List (List Int))(t rs:Addr)(as:List Addr)(k m:Nat):Prop where
 own:H dx=some (.own sh)
 ins:H sh=some (.ins CS dx [("kept",.ref st),("fulls",.ref p)])
 stand:zby H st ps rows' t rs as
 full:FA K H p qs (ps.length+1) (stL ps rows rows' k m)
def zqu (ps:List Nat)(rows rows':List (List Int))(k m:Nat):Prop:=(∀ m' j,m' < m→upN ps k m'=some j→¬(zaH (zam ps rows j) (zam ps rows' j)=[]∧zaH (zam ps rows' j) (zam ps rows j)=[]))∧
 (upN ps k m=none∨∃ j,upN ps k m=some j∧zaH (zam ps rows j) (zam ps rows' j)=[]∧zaH (zam ps rows' j) (zam ps rows j)=[])
structure zrO (K:Frag)(H:Hp)(D:Addr)(Fr:Addr→Prop)(e:Tri Int (List En) (List En))(v:V):Prop where
 ex:∃(u g c:Addr) (gw cw:List V),v=.ref u∧H u=some (.tup [.int e.a,.ref g,.ref c])∧H g=some (.lst gw)∧zak K H e.b gw∧H c=some (.lst cw)∧zak K H e.c cw∧g≠D∧c≠D∧Fr g∧Fr c
def zbN (K:Frag)(H:Hp)(D:Addr)(Fr:Addr→Prop):List (Tri Int (List En) (List En))→List V→Prop:=Paired (zrO K H D Fr)
theorem zjq {R S:Tri Int (List En) (List En)→V→Prop}(h:∀ e v,R e v→S e v){es:List (Tri Int (List En) (List En))}{us:List V}(p:Paired R es us):Paired S es us:=by
 induction p with
 | nil=>exact .nil
 | cons a _ ih=>exact .cons (h _ _ a) ih
theorem zbN.keep {K:Frag}{H H':Hp}{D:Addr}{Fr:Addr→Prop}(k:∀ b o,b≠D→Fr b→H b=some o→H' b=some o)(tp:Tp H H'){es:List (Tri Int (List En) (List En))}{us:List V}(h:zbN K H D Fr es us):zbN K H' D Fr es us:=zjq (fun e v z=>by
 obtain ⟨u,g,c,gw,cw,e1,e2,e3,e4,e5,e6,n1,n2,n3,n4⟩:=z.ex;exact ⟨u,g,c,gw,cw,e1,tp _ _ e2,k _ _ n1 n3 e3,zaQ tp e4,k _ _ n2 n4 e5,zaQ tp e6,n1,n2,n3,n4⟩) h
theorem zbN.imp {K:Frag}{H:Hp}{D:Addr}{Fr Fr':Addr→Prop}(k:∀ b o,H b=some o→Fr b→Fr' b){es:List (Tri Int (List En) (List En))}{us:List V}(h:zbN K H D Fr es us):zbN K H D Fr' es us:=zjq (fun e v z=>by
 obtain ⟨u,g,c,gw,cw,e1,e2,e3,e4,e5,e6,n1,n2,n3,n4⟩:=z.ex;exact ⟨u,g,c,gw,cw,e1,e2,e3,e4,e5,e6,n1,n2,k _ _ e3 n3,k _ _ e5 n4⟩) h
theorem zbN.snoc {K:Frag}{H:Hp}{D:Addr}{Fr:Addr→Prop}{e:Tri Int (List En) (List En)}{v:V}{es:List (Tri Int (List En) (List En))}{us:List V}(h:zbN K H D Fr es us)(g:zrO K H D Fr e v):zbN K H D Fr (es++[e]) (us++[v]):=by
 induction h with
 | nil=>exact .cons g .nil
 | cons a _ ih=>exact .cons a ih
def ziH (K:Frag)(CS:Addr):Sp:=fun vs H Q _=>∃(sh dx st p g c:Addr) (gw cw:List V) (kn:Nat) (qs:List Addr) (ps:List Nat) (rows rows':List (List Int)) (t rs:Addr) (as:List Addr) (Fr:Addr→Prop),vs=[.ref sh,.int kn,.ref g,.ref c]∧zct K CS H sh dx st p qs ps rows rows' t rs as kn 0∧
 kn < ps.length+1∧zeI kn rows rows'∧zaz rows∧rows.length=ps.length+1∧zbm rows≤400∧H g=some (.lst gw)∧zak K H (zaH (zam ps rows kn) (zam ps rows' kn)) gw∧H c=some (.lst cw)∧zak K H (zaH (zam ps rows' kn) (zam ps rows kn)) cw∧Fr g∧Fr c∧g∉qs∧c∉qs∧¬Fr p∧(∀ b,H b=none→Fr b)∧
 ∀(D:Addr) (us:List V) (m:Nat) (qs':List Addr) (H':Hp),zqu ps rows rows' kn m→H D=none→(∀ q∈qs',q∈qs∨H q=none)→But p H H'→zaC K CS H' sh dx st p qs' ps rows' t rs as→H' D=some (.lst us)→zbN K H' D (fun b=>Fr b∧b∉qs') (zb5 ps rows rows' kn m) us→Q (.ref D) H'
def upV:Option Nat→V
 | none=>.non
 | some j=>.int j
def Goes (ps:List Nat)(rows rows':List (List Int))(k m:Nat):Prop:=∀ m' j,m' < m→upN ps k m'=some j→¬(zaH (zam ps rows j) (zam ps rows' j)=[]∧zaH (zam ps rows' j) (zam ps rows j)=[])
structure CarI (K:Frag)(CS:Addr)(Fr:Addr→Prop)(H H2:Hp)(sh dx st p g c D:Addr)(gw cw us:List V)(qs qs':List Addr)(ps:List Nat)(rows rows':List (List Int))(t rs:Addr)(as:List Addr)(k m:Nat):Prop where
 half:zct K CS H2 sh dx st p qs' ps rows rows' t rs as k m
 hg:H2 g=some (.lst gw)
 hc:H2 c=some (.lst cw)
 cur:∀ j,upN ps k m=some j→zak K H2 (zaH (zam ps rows j) (zam ps rows' j)) gw∧zak K H2 (zaH (zam ps rows' j) (zam ps rows j)) cw
 goes:Goes ps rows rows' k m
 hD:H2 D=some (.lst us)
 told:zbN K H2 D (fun b=>Fr b∧b∉qs') (zb5 ps rows rows' k m) us
 gD:g≠D
 cD:c≠D
 gp:Fr g
 cp:Fr c
 gq:g∉qs'
 cq:c∉qs'
 nD:H D=none
 nqs:∀ q∈qs',q∈qs∨H q=none
 but:But p H H2
 dp:D≠p
 dqs:D∉qs'
theorem zct.keep {K:Frag}{CS:Addr}{H H':Hp}{sh dx st p:Addr}{qs:List Addr}{ps:List Nat}{rows rows':List (List Int)}{t rs:Addr}{as:List Addr}{k m:Nat}{D:Addr}(S:zct K CS H sh dx st p qs ps rows rows' t rs as k m)(kp:But D H H')(hD:∀ o,H D=some o→∃ us,o=.lst us)(dp:D≠p)(dq:D∉qs):zct K CS H' sh dx st p qs ps rows rows' t rs as k m:=by
 have nl:∀{b:Addr} {o:HO},H b=some o→(∀ us,o≠.lst us)→H' b=some o:=fun {b o} e n=>kp b o (fun z=>by
  subst z;obtain ⟨us,z⟩:=hD _ e;exact n us z) e
 have tp:Tp H H':=fun b us e=>nl e (fun _ z=>nomatch z);refine ⟨nl S.own (fun _ z=>nomatch z),nl S.ins (fun _ z=>nomatch z),zb6 tp S.stand,kp _ _ dp.symm S.full.at_,S.full.len,S.full.nd,S.full.np,fun j q hq=>?_⟩;obtain ⟨ws,h1,h2⟩:=S.full.get j q hq;exact ⟨ws,kp _ _ (fun z=>dq (z ▸ yaD hq)) h1,zaQ tp h2⟩
theorem zhL {ps:List Nat}{rows rows':List (List Int)}{k:Nat}(T:zaB ps):∀ m:Nat,(zb5 ps rows rows' k m).length≤m
 | 0=>yaa _
 | m+1=>by
  unfold zb5;rw[yap];have:=zhL (rows:=rows) (rows':=rows') (k:=k) T m;cases upN ps k m with
  | none=>exact Nat.le_succ_of_le this
  | some j=>exact Nat.succ_le_succ this
theorem ziL (ps:List Nat)(j:Nat):parV ps j=upV (par ps j):=by
 unfold parV;cases par ps j <;> rfl
theorem zn7 (T:Txt K mg){CS:Addr}(O:OwnC K mg CS)(qap:DM K CS "carry_up" "Shelf.carry_up" zbt zaY)(qbn:FC P w K mg base 6 "handed" zdl (zgZ K))(qaR:FC P w K mg base 1 "joined_up" zbX (zlx K))(qbx:FC P w K mg base 1 "without" zdF (zhQ K)):FM P w K mg base CS 7 "carry_up" zaY (ziH K CS):=by
 refine qap.ok qab (fun vs H Q E h=>?_) (fun f cdv A outer s H vs Q E hr h=>?_)
 ·obtain ⟨sh,dx,st,p,g,c,gw,cw,kn,qs,ps,rows,rows',t,rs,as,Fr,rfl,_⟩:=h;rfl
 obtain ⟨sh,dx,st,p,g,c,gw,cw,kn,qs,ps,rows,rows',t,rs,as,Fr,rfl,S,hk,hB,R,hlen,hkeys,hg,hgw,hc,hcw,ngp,ncp,ngq,ncq,hFp,hF0,q⟩:=h;refine ⟨_,(zau (zar (i:=4) qab.nd rfl (Or.inl rfl) (zbP zac))
   (zau (zjJ PassesOwn.never (PW.pt (zgz (zaw zlV (pv 1) zfW (zaF _)) (zeP (zaw zlY (zaA zbA (zap zan rfl T.qan boot_len (zaa (pv 2) zac)) (zap zan rfl T.qan boot_len (zaa (pv 3) zac))) zaj (zaF _))))) (zau (zbx (zfn F.plainAttrs_list F.slot_list_append F.type_list_append zbo (pv 4) (zaa (zbO (zaa (pv 1) (zaa (pv 2) (zaa (pv 3) zac)))) zac)))
   (zau (zar (i:=5) qab.nd rfl (Or.inl rfl) (zax qbn hr (zaa (zaO zbe (zcO (pv 0) rfl) (pv 1) (fun _ _=>rfl)) zac)))
   (zau (zjM (zax qaR hr (zaa (zbP (zaa (zax qbx hr (zaa (zaO zbe (zcO (pv 0) rfl) (pv 1) (fun _ _=>rfl)) (zaa (pv 2) zac))) (zaa (pv 3) zac))) zac)) (zjN (zcO (pv 0) rfl) (pv 1) zfr))
   (zau (zar (i:=6) qab.nd rfl (Or.inl rfl) (zax qbn hr (zaa (zaO zbe (zcO (pv 0) rfl) (pv 1) (fun _ _=>rfl)) zac)))
   (zau (zar (i:=2) qab.nd rfl (Or.inl rfl) (zax qbx hr (zaa (pv 5) (zaa (pv 6) zac))))
   (zau (zar (i:=3) qab.nd rfl (Or.inl rfl) (zax qbx hr (zaa (pv 6) (zaa (pv 5) zac))))
   (zae (zar (i:=1) qab.nd rfl (Or.inl rfl) (zaO za0 (zaO za0 (zcO (pv 0) rfl) zaj (fun _ _=>rfl)) (pv 1) (fun _ _=>rfl)))))))))))
   (zae (zav (pv 4))))),?_⟩
 intro N0 n0;refine ⟨(by show 0≤sizeLine;decide),fun D hD=>n0 _ _ ?_⟩;intro Nw nw;have T':=S.stand.T;have R':=S.stand.R;have s0:=zah hD (.lst []);refine zhF (fun σ H2=>∃(g c:Addr) (gw cw us:List V) (qs':List Addr) (m:Nat) (x5 x6:Option V),σ=[some (.ref sh),some (upV (upN ps kn m)),some (.ref g),some (.ref c),some (.ref D),x5,x6]∧CarI K CS Fr H H2 sh dx st p g c D gw cw us qs qs' ps rows rows' t rs as kn m)
  (fun σ H2=>∃(g c:Addr) (gw cw us:List V) (qs':List Addr) (m:Nat) (x5 x6:Option V),σ=[some (.ref sh),some (upV (upN ps kn m)),some (.ref g),some (.ref c),some (.ref D),x5,x6]∧CarI K CS Fr H H2 sh dx st p g c D gw cw us qs qs' ps rows rows' t rs as kn m∧(upN ps kn m=none∨∃ j,upN ps kn m=some j∧zaH (zam ps rows j) (zam ps rows' j)=[]∧zaH (zam ps rows' j) (zam ps rows j)=[]))
  (fun σ _=>match σ with | _::some (.int j)::_=>j.toNat+1 | _=>0) ?_ ?_ ?_ ?_
 ·refine ⟨g,c,gw,cw,[],qs,0,_,_,rfl,⟨s0 _ _ S.own,s0 _ _ S.ins,S.stand.same s0,S.full.ext s0.ext⟩,s0 _ _ hg,s0 _ _ hc,fun j e=>?_,fun m' j h=>absurd h (yby _),zab,.nil,zad hg hD,zad hc hD,ngp,ncp,ngq,ncq,hD,fun q h=>.inl h,fun b o _ e=>s0 b o e,(fun z=>by rw[z,S.full.at_]at hD;cases hD),fun z=>?_⟩
  ·have:kn=j:=yad e;subst this;exact ⟨hgw.mono s0.ext,hcw.mono s0.ext⟩
  ·obtain ⟨j,hj,e⟩:=yaz z;obtain ⟨ws,w1,_⟩:=S.full.get j D (by rw[yac hj,e]);rw[hD]at w1;cases w1
 ·rintro σ H2 ⟨g,c,gw,cw,us,qs',m,x5,x6,rfl,I⟩;cases eu:upN ps kn m with
  | none=>
   refine ⟨_,rfl,rfl,_,rfl,?_⟩;refine iteF ?_;refine iteF ?_;exact ⟨g,c,gw,cw,us,qs',m,x5,x6,by rw[eu],I,.inl eu⟩
  | some j=>
   refine ⟨_,rfl,rfl,_,rfl,?_⟩;refine iteT ?_;refine ⟨_,rfl,_,_,rfl,.inl (SqL.of I.hg),_,rfl,_,_,rfl,.inl (SqL.of I.hc),_,_,rfl,rfl,_,_,rfl,rfl,_,rfl,?_⟩;obtain ⟨cg,cc⟩:=I.cur j eu;have lg:=cg.length;have lc:=cc.length;refine ite2 (fun hpos=>?_) (fun hneg=>?_)
   ·have hmj:=zk8 T' eu;have hjn:=zfN T' hk eu;have hfew:=S.stand.few;have hul:us.length≤m:=by
     have:=Paired.length I.told;have:=zhL (rows:=rows) (rows':=rows') (k:=kn) T' m;omega
    refine zmC fun N B' R0 hN hB' hR'=>?_;intro N1 n1;refine ⟨_,rfl,.inl ⟨rfl,_,SqL.of I.hD⟩,?_⟩;refine ⟨_,rfl,_,rfl,_,rfl,(by show 3≤sizeLine;decide),fun u hu=>?_⟩;have su:=zah hu (.tup [upV (some j),.ref g,.ref c]);have huT:upd H2 u (.tup [upV (some j),.ref g,.ref c]) u=some (.tup [.int (j:Int),.ref g,.ref c]):=zab;generalize upd H2 u (.tup [upV (some j),.ref g,.ref c])=H3 at su huT ⊢;refine ⟨_,_,_,rfl,rfl,su _ _ I.hD,zaq (by omega),n1 _ _ ?_⟩;intro N2 n2;have hDq:∀ o,H3 D=some o→∃ us,o=.lst us:=fun o e=>⟨us,by rw[su _ _ I.hD]at e;exact (yad e).symm⟩;have k4:But D H3 (upd H3 D (.lst (us++[.ref u]))):=fun b o n e=>by rw[zaf n];exact e
    have S4:zct K CS (upd H3 D (.lst (us++[.ref u]))) sh dx st p qs' ps rows rows' t rs as kn m:=zct.keep ⟨su _ _ I.half.own,su _ _ I.half.ins,I.half.stand.same su,I.half.full.ext su.ext⟩ k4 hDq I.dp I.dqs;have tp4:Tp H3 (upd H3 D (.lst (us++[.ref u]))):=k4.tp fun us' z=>by rw[su _ _ I.hD]at z;cases z
    have tpS:Tp H2 H3:=fun b us e=>su _ _ e;have g4:=k4 _ _ I.gD (su _ _ I.hg);have c4:=k4 _ _ I.cD (su _ _ I.hc);have cg4:=zaQ tp4 (zaQ tpS cg);have cc4:=zaQ tp4 (zaQ tpS cc);have D4:upd H3 D (.lst (us++[.ref u])) D=some (.lst (us++[.ref u])):=zab;have t4:zbN K (upd H3 D (.lst (us++[.ref u]))) D (fun b=>Fr b∧b∉qs') (zb5 ps rows rows' kn (m+1)) (us++[.ref u]):=by
     have e:zb5 ps rows rows' kn (m+1)=zb5 ps rows rows' kn m++[zgV ps rows rows' j]:=by
      show _++((upN ps kn m).map (zgV ps rows rows')).toList=_;rw[eu];rfl
     rw[e];refine zbN.snoc (zbN.keep (fun b o n1 _ e=>k4 b o n1 (su _ _ e)) (fun b us e=>tp4 _ _ (tpS _ _ e)) I.told) ⟨u,g,c,gw,cw,rfl,tp4 _ _ huT,g4,cg4,c4,cc4,I.gD,I.cD,⟨I.gp,I.gq⟩,⟨I.cp,I.cq⟩⟩
    have b4:But p H (upd H3 D (.lst (us++[.ref u]))):=fun b o n e=>k4 b o (zad e hD) (su _ _ (I.but b o n e));clear k4 hDq tp4;generalize upd H3 D (.lst (us++[.ref u]))=H4 at S4 g4 c4 cg4 cc4 D4 t4 b4 ⊢;obtain ⟨qj,ws,f1,f2,f3⟩:=S4.full.at hjn;rw[zlq T' eu]at f3;have hle:=zeX T' hlen hjn;have hle':=zeX T' S.stand.len hjn;have hk':=S.stand.keys;refine ⟨_,rfl,sh,CS,dx,_,_,rfl,S4.ins,O.cl,O.n_fulls,rfl,_,rfl,_,_,_,_,rfl,rfl,SqL.of S4.full.at_,zcU f1,qj,ws,_,rfl,f2,f3,by omega,zf8 T' R hfew hjn,zaG T' R hjn,fun B H5 hB5 s5 h5=>n2 _ _ ?_⟩;intro N3 n3;have hh5:zak K H5 (zcJ (zam ps rows j)) (zcR ws (zez (zam ps rows j))):=zfI (f3.mono s5.ext);have tp5:Tp H4 H5:=fun b us e=>s5 _ _ e;have S5:zct K CS H5 sh dx st p qs' ps rows rows' t rs as kn m:=⟨s5 _ _ S4.own,s5 _ _ S4.ins,S4.stand.same s5,S4.full.ext s5.ext⟩;have ndg:(zaH (zam ps rows j) (zam ps rows' j)).Nodup:=zcS (zd9 T' R hjn);refine ⟨_,rfl,sh,CS,dx,_,_,rfl,S5.ins,O.cl,O.n_fulls,rfl,_,rfl,_,_,_,_,rfl,rfl,SqL.of S5.full.at_,zcU f1,_,rfl,qj,g,ws,gw,_,_,rfl,s5 _ _ f2,f3.mono s5.ext,by omega,s5 _ _ g4,cg4.mono s5.ext,?_,ndg,fun W ww H6 hW s6 h6 hw6=>?_⟩
    ·exact yaw (ya2 _ _) (by omega)
    refine ⟨_,rfl,(by show 2≤sizeLine;decide),fun L hL=>?_⟩;have s7:=zah hL (.lst [.ref W,.ref c]);have c7:=s7 _ _ (s6 _ _ (s5 _ _ c4));have hL7:upd H6 L (.lst [.ref W,.ref c]) L=some (.lst ([W,c].map V.ref)):=zab;have W7:=s7 _ _ h6;have w7:=hw6.mono s7.ext;generalize upd H6 L (.lst [.ref W,.ref c])=H7 at s7 c7 hL7 W7 w7 ⊢;have s47:Same H4 H7:=s5.trans (s6.trans s7);have cl:(zaH (zam ps rows' j) (zam ps rows j)).length≤(zam ps rows' j).length:=ya2 _ _;have gl:(zaH (zam ps rows j) (zaH (zam ps rows j) (zam ps rows' j))).length≤(zam ps rows j).length:=ya2 _ _;refine ⟨L,[W,c],[zaH (zam ps rows j) (zaH (zam ps rows j) (zam ps rows' j)),zaH (zam ps rows' j) (zam ps rows j)],rfl,hL7,.cons ⟨ww,W7,w7⟩ (.cons ⟨cw,c7,cc4.mono s47.ext⟩ .nil),?_,fun J jw H8 hJ s8 h8 hw8=>?_⟩
    ·rw[ybQ,ybQ,List.flatten_nil,yaJ,yap];omega
    rw[ybQ,ybQ,List.flatten_nil,yaJ,← (zp2 (zaG T' R hjn) (zaG T' R' hjn)).eq]at hw8;have s48:Same H4 H8:=s47.trans s8;have S8:zct K CS H8 sh dx st p qs' ps rows rows' t rs as kn m:=⟨s48 _ _ S4.own,s48 _ _ S4.ins,S4.stand.same s48,S4.full.ext s48.ext⟩;refine ⟨_,rfl,sh,CS,dx,_,_,rfl,S8.ins,O.cl,O.n_fulls,rfl,_,rfl,p,_,_,j,rfl,rfl,S8.full.at_,zht (by rw[yab,S8.full.len];exact hjn),n3 _ _ ?_⟩;intro N4 n4;have nn:∀{b:Addr},H7 b=none→H4 b=none:=fun {b} e=>by
     cases e4:H4 b with
     | none=>rfl
     | some o=>
      rw[s47 _ _ e4]at e;cases e
    have hJ4:=nn hJ;have hJp:J≠p:=fun z=>by rw[z,S4.full.at_]at hJ4;cases hJ4
    have hJq:J∉qs':=fun z=>by
     obtain ⟨i,hi,e⟩:=yaz z;obtain ⟨ws,w1,_⟩:=S4.full.get i J (by rw[yac hi,e]);rw[hJ4]at w1;cases w1
    have hJD:D≠J:=fun z=>by rw[← z,D4]at hJ4;cases hJ4
    have hBp:B≠p:=fun z=>by rw[z,S4.full.at_]at hB5;cases hB5
    have F9:=S8.full.set (k:=j) h8 hw8 hJq hJp;have k9:But p H8 (upd H8 p (.lst ((qs'.map V.ref).set j (.ref J)))):=fun b o n e=>by rw[zaf n];exact e
    have tp9:Tp H8 (upd H8 p (.lst ((qs'.map V.ref).set j (.ref J)))):=k9.tp fun us' z=>by rw[S8.full.at_]at z;cases z
    have F9':FA K (upd H8 p (.lst ((qs'.map V.ref).set j (.ref J)))) p (qs'.set j J) (ps.length+1) (stL ps rows rows' kn (m+1)):=F9.congr fun i hi=>by
     show _=if upN ps kn m=some i then zam ps rows' i else stL ps rows rows' kn m i
     rw[eu];by_cases z:i=j
     ·rw[if_pos z,if_pos (by rw[z]),z]
     ·rw[if_neg z,if_neg (fun y=>z (yad y).symm)]
    have nlp:∀{b:Addr} {o:HO},H8 b=some o→(∀ us,o≠.lst us)→upd H8 p (.lst ((qs'.map V.ref).set j (.ref J))) b=some o:=fun {b o} e n=>k9 b o (fun z=>by
     rw[z,S8.full.at_]at e;exact n _ (yad e).symm) e
    have S9:zct K CS (upd H8 p (.lst ((qs'.map V.ref).set j (.ref J)))) sh dx st p (qs'.set j J) ps rows rows' t rs as kn (m+1):=⟨nlp S8.own (fun _ z=>nomatch z),nlp S8.ins (fun _ z=>nomatch z),zb6 tp9 S8.stand,F9'⟩;have s58:Same H5 H8:=s6.trans (s7.trans s8);have B9:=k9 _ _ hBp (s58 _ _ h5);have hB9:=zaQ tp9 (hh5.mono s58.ext);have J9:=k9 _ _ hJp h8;have hJ9:=zaQ tp9 hw8;have D9:=k9 _ _ I.dp (s48 _ _ D4);have t4':=t4.imp (Fr':=fun b=>Fr b∧b∉qs'.set j J) fun b o e n=>⟨n.1,fun z=>by
     rcases ybB z with y | y
     ·exact n.2 y
     ·rw[y,hJ4]at e;cases e⟩
    have t9:=zbN.keep (fun b o _ n e=>k9 b o (fun z=>hFp (z ▸ n.1)) (s48 _ _ e)) (fun b us e=>tp9 _ _ (s48 _ _ e)) t4';have b9:But p H (upd H8 p (.lst ((qs'.map V.ref).set j (.ref J)))):=fun b o n e=>k9 b o n (s48 _ _ (b4 b o n e));clear k9 tp9 nlp F9 F9';generalize upd H8 p (.lst ((qs'.map V.ref).set j (.ref J)))=H9 at S9 B9 hB9 J9 hJ9 D9 t9 b9 ⊢;have fJ:(qs'.set j J)[j]?=some J:=by
     have:=I.half.full.len;rw[ybN,if_pos rfl,if_pos (by omega)]
    refine ⟨_,rfl,sh,CS,dx,_,_,rfl,S9.ins,O.cl,O.n_fulls,rfl,_,rfl,_,_,_,_,rfl,rfl,SqL.of S9.full.at_,zcU fJ,J,jw,_,rfl,J9,hJ9,by omega,zf8 T' R' hfew hjn,zaG T' R' hjn,fun A' H10 hA10 s10 h10=>n4 _ _ ?_⟩;intro N5 n5;have hh10:zak K H10 (zcJ (zam ps rows' j)) (zcR jw (zez (zam ps rows' j))):=zfI (hJ9.mono s10.ext);have hl1:=(zaS (zam ps rows j)).length_le;have hl2:=(zaS (zam ps rows' j)).length_le;have nd1:=(zd9 T' R hjn).sublist (zaS (zam ps rows j));have nd2:=(zd9 T' R' hjn).sublist (zaS (zam ps rows' j));refine ⟨_,rfl,_,rfl,B,A',_,_,_,_,rfl,s10 _ _ B9,hB9.mono s10.ext,by omega,h10,hh10,by omega,nd2,fun G gw' H11 hG s11 h11 hw11=>n5 _ _ ?_⟩;intro N6 n6;refine ⟨_,rfl,_,rfl,A',B,_,_,_,_,rfl,s11 _ _ h10,hh10.mono s11.ext,by omega,s11 _ _ (s10 _ _ B9),(hB9.mono s10.ext).mono s11.ext,by omega,nd1,fun C cw' H12 hC s12 h12 hw12=>n6 _ _ ?_⟩;have s92:Same H9 H12:=s10.trans (s11.trans s12);have S12:zct K CS H12 sh dx st p (qs'.set j J) ps rows rows' t rs as kn (m+1):=⟨s92 _ _ S9.own,s92 _ _ S9.ins,S9.stand.same s92,S9.full.ext s92.ext⟩;refine ⟨_,rfl,sh,CS,dx,_,_,rfl,S12.ins,O.cl,O.n_kept,rfl,_,_,_,_,rfl,rfl,SqT.of S12.stand.st,rfl,_,rfl,_,_,_,_,rfl,rfl,SqT.of S12.stand.tr,ze7 hjn,?_⟩;have tp92:Tp H9 H12:=fun b us e=>s92 _ _ e;have hnH:∀{b:Addr},H9 b=none→H b=none∨b=p:=fun {b} e=>by
     by_cases z:b=p
     ·exact .inr z
     ·refine .inl ?_;cases e4:H b with
      | none=>rfl
      | some o=>
       rw[b9 _ _ z e4]at e;cases e
    have nG:H9 G=none:=s10.free hG;have nC:H9 C=none:=s10.free (s11.free hC);have nqs:∀{b:Addr},H9 b=none→b∉qs'.set j J:=fun {b} e z=>by
     obtain ⟨i,hi,ei⟩:=yaz z;obtain ⟨ws,w1,_⟩:=S9.full.get i b (by rw[yac hi,ei]);rw[e]at w1;cases w1
    refine hN _ _ ⟨⟨G,C,gw',cw',us++[.ref u],qs'.set j J,m+1,some (.ref B),some (.ref A'),?_,S12,s12 _ _ h11,h12,fun i hi=>?_,fun m' i hm' hi=>?_,s92 _ _ D9,zbN.keep (fun b o _ _ e=>s92 _ _ e) tp92 t9,?_,?_,?_,?_,nqs nG,nqs nC,hD,fun x hx=>?_,fun b o n e=>s92 _ _ (b9 b o n e),I.dp,fun z=>?_⟩,?_⟩
    ·rw[zgT eu,ziL];rfl
    ·have L:=zmM T' R R' hk hB (zjp T' hk eu) ((zgT eu).symm.trans hi);rw[← L.gone,← L.come];exact ⟨hw11.mono s12.ext,hw12⟩
    ·rcases ybH m' m with y | y
     ·exact I.goes m' i y hi
     ·have:m'=m:=by omega
      subst this;rw[eu]at hi;have:=yad hi;subst this;rintro ⟨z1,z2⟩;rw[z1]at lg;rw[z2]at lc;have:(0:Int) < (gw.length:Int)+cw.length:=yaT hpos;rw[ybu]at lg lc;omega
    ·exact fun z=>by rw[z,D9]at nG;cases nG
    ·exact fun z=>by rw[z,D9]at nC;cases nC
    ·exact (hnH nG).elim (hF0 _) fun z=>by rw[z,S9.full.at_]at nG;cases nG
    ·exact (hnH nC).elim (hF0 _) fun z=>by rw[z,S9.full.at_]at nC;cases nC
    ·rcases ybB hx with y | y
     ·exact I.nqs x y
     ·rw[y];refine .inr ?_;cases e4:H J with
      | none=>rfl
      | some o=>
       rw[b4 _ _ hJp e4]at hJ4;cases hJ4
    ·rcases ybB z with y | y
     ·exact I.dqs y
     ·exact hJD y
    ·rw[ziL];cases ep:par ps j with
     | none=>exact Nat.succ_pos _
     | some i=>
      have:=(zaM T' ep).1;show ((i:Int)).toNat+1 < ((j:Int)).toNat+1;omega
   ·have e0:gw.length=0∧cw.length=0:=by
     have:¬ (0:Int) < (gw.length:Int)+cw.length:=fun z=>hneg (yae z);omega
    exact ⟨g,c,gw,cw,us,qs',m,x5,x6,by rw[eu],I,.inr ⟨j,eu,ycB.mp (by omega),ycB.mp (by omega)⟩⟩
 ·refine zll (fun σ H Q Q' m h=>?_) (fun σ H Q Q' m h=>?_)
  ·obtain ⟨y1,e1,e3,b,e4,q⟩:=h;exact ⟨y1,e1,e3,b,e4,m _ _ q⟩
  ·obtain ⟨y1,e1,p1,z1,e2,e3,y2,e4,p2,z2,e5,e6,i1,j1,e7,e8,i2,j2,e9,e10,b,e11,q⟩:=h;exact ⟨y1,e1,p1,z1,e2,e3,y2,e4,p2,z2,e5,e6,i1,j1,e7,e8,i2,j2,e9,e10,b,e11,m _ _ q⟩
 ·rintro σ H2 ⟨g,c,gw,cw,us,qs',m,x5,x6,rfl,I,hm⟩;have hm':upN ps kn m=none∨∃ j,upN ps kn m=some j∧zam ps rows' j=zam ps rows j:=hm.imp id fun ⟨j,h1,h2,h3⟩=>⟨j,h1,zhq (zaG T' R (zfN T' hk h1)) (zaG T' R' (zfN T' hk h1)) h2 h3⟩;refine nw _ _ ?_;refine ⟨_,rfl,?_⟩;exact q D us m qs' H2 ⟨I.goes,hm⟩ hD I.nqs I.but ⟨I.half.own,I.half.ins,I.half.stand,I.half.full.congr fun i hi=>zlp T' R R' hk hB hm' hi⟩ I.hD I.told
def loN (row:List Int)(x:Int):Nat:=(row.filter fun y=>decide (y < x)).length
def putR (row:List Int)(x:Int):List Int:=row.take (loN row x)++[x]++row.drop (loN row x)
def outR (row:List Int)(x:Int):List Int:=row.take (loN row x)++row.drop (loN row x+1)
theorem zmn {x:Int}:∀{row:List Int},row.Pairwise (· < ·)→(∀ y∈row.take (loN row x),y < x)∧∀ y∈row.drop (loN row x),x≤y
 | [],_=>⟨(fun _ h=>by simp at h),fun _ h=>by simp at h⟩
 | a::r,h=>by
  obtain ⟨h1,h2⟩:=yb7.mp h;by_cases c:a < x
  ·have e:loN (a::r) x=loN r x+1:=by
    unfold loN;rw[ybq (p:=fun y=>decide (y < x)) (yae c),yaI]
   obtain ⟨i1,i2⟩:=zmn (x:=x) h2;rw[e];refine ⟨fun y hy=>?_,fun y hy=>i2 y hy⟩;rcases yak.mp hy with z | z
   ·rw[z];exact c
   ·exact i1 y z
  ·have e:loN (a::r) x=0:=by
    unfold loN;rw[ybz.mpr,ybu];intro y hy z;have z:=yaT z;rcases yak.mp hy with w | w
    ·omega
    ·have:=h1 y w;omega
   rw[e];refine ⟨(fun y hy=>by simp at hy),fun y hy=>?_⟩;rcases yak.mp hy with w | w
   ·omega
   ·have:=h1 y w;omega
theorem zha {row:List Int}{x y:Int}:y∈putR row x↔y∈row∨y=x:=by
 unfold putR;rw[yai,yai,yaj];constructor
 ·rintro ((h | h) | h)
  ·exact .inl (ybv h)
  ·exact .inr h
  ·exact .inl (ybF h)
 ·rintro (h | h)
  ·rw[← yaP (loN row x) row]at h;rcases yai.mp h with h | h
   ·exact .inl (.inl h)
   ·exact .inr h
  ·exact .inl (.inr h)
theorem zo7 {row:List Int}{x:Int}(h:row.Pairwise (· < ·))(n:x∉row):(putR row x).Pairwise (· < ·):=by
 obtain ⟨h1,h2⟩:=zmn (x:=x) h;have h3:∀ y∈row.drop (loN row x),x < y:=fun y hy=>by
  have:=h2 y hy;have:y≠x:=fun z=>n (z ▸ ybF hy);omega
 have hp:=h;rw[← yaP (loN row x) row]at hp;obtain ⟨p1,p2,_⟩:=yaG.mp hp;unfold putR;refine yaG.mpr ⟨yaG.mpr ⟨p1,ycr _ _,fun a ha b hb=>?_⟩,p2,fun a ha b hb=>?_⟩
 ·rw[yaj.mp hb];exact h1 a ha
 ·have:=h3 b hb;rcases yai.mp ha with z | z
  ·have:=h1 a z;omega
  ·rw[yaj.mp z];exact this
theorem zeT (row:List Int)(x:Int):(outR row x).Sublist row:=by
 unfold outR;have:(row.take (loN row x)++row.drop (loN row x+1)).Sublist (row.take (loN row x)++row.drop (loN row x)):=by
  refine List.Sublist.append (List.Sublist.refl _) ?_;rw[← ybE];exact yb5 _ _
 rwa[yaP]at this
theorem zlU {row:List Int}{x y:Int}(h:row.Pairwise (· < ·))(hx:x∈row):y∈outR row x↔y∈row∧y≠x:=by
 obtain ⟨h1,h2⟩:=zmn (x:=x) h;have hd:∃ r,row.drop (loN row x)=x::r:=by
  have hm:x∈row.drop (loN row x):=by
   have hx':=hx;rw[← yaP (loN row x) row]at hx';rcases yai.mp hx' with z | z
   ·exact absurd (h1 x z) (by omega)
   ·exact z
  cases e:row.drop (loN row x) with
  | nil=>rw[e]at hm;cases hm
  | cons a r=>
   have ha:=h2 a (by rw[e];exact yaL);rw[e]at hm;rcases yak.mp hm with z | z
   ·exact ⟨r,by rw[z]⟩
   ·have hs:=h.sublist (yb5 (loN row x) row);rw[e]at hs;have:=(yb7.mp hs).1 x z;omega
 obtain ⟨r,hr⟩:=hd;have hr1:row.drop (loN row x+1)=r:=by
  rw[← ybE,hr];rfl
 have hs:=h.sublist (yb5 (loN row x) row);rw[hr]at hs;have hlt:=(yb7.mp hs).1;unfold outR;rw[yai,hr1];constructor
 ·rintro (z | z)
  ·exact ⟨ybv z,fun e=>absurd (h1 y z) (by omega)⟩
  ·refine ⟨ybF (by rw[hr];exact yaA _ z),fun e=>?_⟩;have:=hlt y z;omega
 ·rintro ⟨z,n⟩;rw[← yaP (loN row x) row,hr]at z;rcases yai.mp z with z | z
  ·exact .inl z
  ·rcases yak.mp z with z | z
   ·exact absurd z n
   ·exact .inr z
section
variable {rows:List (List Int)}{kn:Nat}{x:Int}{r:List Int}
theorem zdi (h:kn < rows.length):zai (rows.set kn r) kn=r:=by
 unfold zai;rw[yaf,ybN,if_pos rfl,if_pos h];rfl
theorem ze5:zeI kn rows (rows.set kn r):=fun j n=>by
 unfold zai;rw[yaf,ybN,if_neg (fun z=>n z.symm),yaf]
theorem zcD {rows:List (List Int)}{k:Nat}{e:En}:e∈ownE rows k↔e.1∈zai rows k∧e.2=(k:Int):=by
 unfold ownE;rw[yaE];constructor
 ·rintro ⟨y,hy,rfl⟩;exact ⟨hy,rfl⟩
 ·rintro ⟨h1,h2⟩;exact ⟨e.1,h1,by rw[← h2]⟩
theorem znH (h:kn < rows.length):zaH (ownE rows kn) (ownE (rows.set kn (putR (zai rows kn) x)) kn)=[]:=by
 refine ybz.mpr fun e he z=>?_;have z:=yaT z;obtain ⟨h1,h2⟩:=zcD.mp he;exact z (zcD.mpr ⟨by rw[zdi h];exact zha.mpr (.inl h1),h2⟩)
theorem znS (h:kn < rows.length):zaH (ownE (rows.set kn (outR (zai rows kn) x)) kn) (ownE rows kn)=[]:=by
 refine ybz.mpr fun e he z=>?_;have z:=yaT z;obtain ⟨h1,h2⟩:=zcD.mp he;rw[zdi h]at h1;exact z (zcD.mpr ⟨(zeT _ _).mem h1,h2⟩)
theorem zjT {l:List En}{e:En}(h:Rise l)(m:∀ f,f∈l↔f=e):l=[e]:=zfT h (ycr _ _) fun f=>by rw[m f,yaj]
theorem znI (h:kn < rows.length)(hup:(zai rows kn).Pairwise (· < ·))(hr:Rise (ownE (rows.set kn (putR (zai rows kn) x)) kn))(n:x∉zai rows kn):zaH (ownE (rows.set kn (putR (zai rows kn) x)) kn) (ownE rows kn)=[(x,(kn:Int))]:=by
 refine zjT (hr.filter _) fun e=>?_;rw[zaL,zcD,zcD,zdi h,zha];constructor
 ·rintro ⟨⟨h1 | h1,h2⟩,h3⟩
  ·exact absurd ⟨h1,h2⟩ h3
  ·exact Prod.ext h1 h2
 ·rintro rfl;exact ⟨⟨.inr rfl,rfl⟩,fun z=>n z.1⟩
theorem znR (h:kn < rows.length)(hup:(zai rows kn).Pairwise (· < ·))(hr:Rise (ownE rows kn))(hx:x∈zai rows kn):zaH (ownE rows kn) (ownE (rows.set kn (outR (zai rows kn) x)) kn)=[(x,(kn:Int))]:=by
 refine zjT (hr.filter _) fun e=>?_;rw[zaL,zcD,zcD,zdi h,zlU hup hx];constructor
 ·rintro ⟨⟨h1,h2⟩,h3⟩;exact Prod.ext (Classical.byContradiction fun z=>h3 ⟨⟨h1,z⟩,h2⟩) h2
 ·rintro rfl;exact ⟨⟨hx,rfl⟩,fun z=>z.1.2 rfl⟩
theorem zg6 (R:zaz rows)(hup:r.Pairwise (· < ·))(hk:∀ y∈r,-(10 ^ 60) < y∧y < 10 ^ 60):zaz (rows.set kn r):=by
 refine ⟨fun row hrow=>?_,fun row hrow=>?_⟩
 ·rcases ybB hrow with z | z
  ·exact R.1 row z
  ·rw[z]
   first | exact hup | exact hk
 ·rcases ybB hrow with z | z
  ·exact R.2 row z
  ·rw[z]
   first | exact hup | exact hk
end
def zgN (x:Key):Prop:=∃ a:Int,x=.inl a∧-(10 ^ 60) < a∧a < 10 ^ 60
def toI:Key→Int
 | .inl a=>a
 | _=>0
theorem zpA {kvs:List (Key×V)}{x:Key}{v:V}(h1:(kvs.map (·.1)).Nodup)(h2:∀ y∈kvs.map (·.1),zgN y)(hx:zgN x):((putK kvs x v).map (·.1)).Nodup∧∀ y∈(putK kvs x v).map (·.1),zgN y:=by
 rw[zlM];split
 ·exact ⟨h1,h2⟩
 ·rename_i c;refine ⟨?_,fun y hy=>?_⟩
  ·rw[ya7];refine ⟨h1,yaO.mpr ⟨(fun z=>nomatch z),ybg⟩,fun a ha b hb z=>?_⟩;rw[yaj.mp hb]at z;subst z;obtain ⟨p,hp,e⟩:=yaE.mp ha;exact c (List.any_eq_true.mpr ⟨p,hp,yae e⟩)
  ·rcases yai.mp hy with z | z
   ·exact h2 y z
   ·rw[yaj.mp z];exact hx
theorem zfj:∀{l:List Key},(∀ y∈l,zgN y)→l.map kV=(l.map toI).map V.int
 | [],_=>rfl
 | x::l,h=>by
  obtain ⟨a,rfl,_⟩:=h x yaL;show V.int a::l.map kV=V.int a::(l.map toI).map V.int;rw[zfj fun y hy=>h y (yaA _ hy)]
theorem zhM:∀{l:List Key},l.Nodup→(∀ y∈l,zgN y)→(l.map toI).Nodup
 | [],_,_=>ybg
 | x::l,hn,h=>by
  rw[yar,yaO];have hc:=yaO.mp hn;refine ⟨fun z=>?_,zhM hc.2 fun y hy=>h y (yaA _ hy)⟩;obtain ⟨y,hy,e⟩:=yaE.mp z;obtain ⟨a,rfl,_⟩:=h x yaL;obtain ⟨b,rfl,_⟩:=h y (yaA _ hy);have:b=a:=e;subst this;exact hc.1 hy
def zqJ (K:Frag):Sp:=fun vs H Q _=>∃(d L:Addr) (m:Int),vs=[.ref d,.int m]∧(0≤m∧m≤40)∧LS K L d H∧
 ∀(a:Addr) (row:List Int) (H':Hp),H a=none→row.Pairwise (· < ·)→(∀ x∈row,-(10 ^ 60) < x∧x < 10 ^ 60)→(row.length:Int)≤m→H' a=some (.tup (row.map V.int))→Keep d H H'→LS K L d H'→Q (.ref a) H'
theorem zpQ (T:Txt K mg)(qci:DF K mg "_law_row" zg4 zfE)(qaa:FC P w K mg base 2 "_law_take" zbH (zfP K))(qby:FC P w K mg base 3 "_law_key" zdH (znz K)):FC P w K mg base 4 "_law_row" zfE (zqJ K):=by
 refine qci.ok qbM (fun vs H Q E h=>?_) (fun f cdv A outer s H vs Q E hr h=>?_)
 ·obtain ⟨d,L,m,rfl,_⟩:=h;rfl
 obtain ⟨d,L,m,rfl,⟨hm0,hm1⟩,hs,q⟩:=h;refine ⟨_,(zal (zar (i:=2) qbM.nd rfl (Or.inl rfl) zjP)
   (zal (zbd PassesOwn.never rfl (zbJ rfl T.qaj (zaa (zax qaa hr (zaa (pv 0) (zaa (zaA zbA (pv 1) zaj) zac))) zac)) (zat (i:=3) qbM.nd rfl (Or.inl rfl)) (zae (zeQ (zeC hr) (pv 2) (zax qby hr (zaa (pv 0) zac)) zdU rfl)))
   (zae (zav (zbn zbk rfl T.qaB boot_tuple (zaa (zap (zdS Int) rfl T.qbm boot_sorted (zaa (zbn (zkU rfl) rfl T.qbI boot_list (zaa (pv 2) zac)) zac)) zac)))))),?_⟩
 intro g hg;have ngd:g≠d:=fun z=>by
  obtain ⟨_,_,_,e,_⟩:=hs.ex;rw[← z,hg]at e;cases e
 refine ⟨_,rfl,_,rfl,_,_,rfl,rfl,d,L,m+1,rfl,⟨by omega,by omega⟩,hs.of_new hg _,fun n H1 n0 n1 k1 s1=>⟨_,rfl,by omega,by omega,?_⟩⟩;refine zbq (n:=n.toNat) (fun i σ H2=>∃(kvs:List (Key×V)) (x3:Option V),σ=[some (.ref d),some (.int m),some (.ref g),x3]∧H2 g=some (.dK kvs)∧kvs.length≤i∧(kvs.map (·.1)).Nodup∧(∀ y∈kvs.map (·.1),zgN y)∧(∀ b o,b≠d→b≠g→H b=some o→H2 b=some o)∧LS K L d H2) ?_ ?_ ?_
 ·exact ⟨[],_,rfl,k1 g _ ngd zab,yaa _,ybg,fun y hy=>(by simp at hy),fun b o b1 b2 e=>k1 b o b1 (by rw[zaf b2];exact e),s1⟩
 ·rintro i σ H2 hi ⟨kvs,x3,rfl,h2,hl,hn,hy,kk,s2⟩;refine ⟨_,rfl,_,rfl,d,L,rfl,s2,fun v H3 v0 v1 k3 s3=>?_⟩;have h3:H3 g=some (.dK kvs):=k3 g _ ngd h2;obtain ⟨p1,p2⟩:=zpA (v:=.bl true) hn hy (x:=.inl v) ⟨v,rfl,v0,v1⟩;refine ⟨g,_,rfl,DPut.k (k:=.inl v) (kvs:=kvs) h3 (zaq (by omega)),?_⟩;refine ⟨putK kvs (.inl v) (.bl true),_,rfl,zab,?_,p1,p2,?_,?_⟩
  ·have:=zc5 kvs (Sum.inl v:Key) (.bl true);omega
  ·intro b o b1 b2 e;rw[zaf b2];exact k3 b o b1 (kk b o b1 b2 e)
  ·exact LS.put hs hg (fun b o b1 b2 e=>k3 b o b1 (kk b o b1 b2 e)) s3
 ·rintro σ H2 ⟨kvs,x3,rfl,h2,hl,hn,hy,kk,s2⟩;refine ⟨_,rfl,g,kvs,rfl,h2,fun l hl1=>?_⟩;have ei:kvs.map (fun kv=>kV kv.1)=((kvs.map (·.1)).map toI).map V.int:=by
   rw[← zfj hy,ybo];rfl
  rw[ei];have e1:=zah hl1 (.lst (((kvs.map (·.1)).map toI).map V.int));refine ⟨l,_,_,rfl,SqL.of zab,zak.ints,fun l2 ws hl2 hw=>?_⟩;rw[hw.toInts];have e2:=zah hl2 (.lst ((zcG ((kvs.map (·.1)).map toI)).map V.int));refine ⟨l2,_,rfl,.inl ⟨SqL.of zab,fun a ha=>?_⟩⟩;have e3:=zah ha (.tup ((zcG ((kvs.map (·.1)).map toI)).map V.int));have e13:=e1.trans (e2.trans e3);have free:H a=none:=by
   have z2:H2 a=none:=e1.free (e2.free ha);cases z:H a with
   | none=>rfl
   | some o=>
    by_cases c1:a=d
    ·obtain ⟨_,_,_,e,_⟩:=s2.ex;rw[← c1,z2]at e;cases e
    ·by_cases c2:a=g
     ·rw[c2,h2]at z2;cases z2
     ·rw[kk a o c1 c2 z]at z2;cases z2
  refine q a _ _ free ?_ (fun x hx=>?_) ?_ zab (fun b o b1 e=>e13 _ _ (kk b o b1 (zad e hg) e)) (s2.same e13)
  ·exact List.Pairwise.imp (fun {a b} (h:Srt.blt a b=true)=>yaT h) (zeN (zhM hn hy))
  ·rw[zeg]at hx;obtain ⟨y,hy2,rfl⟩:=yaE.mp hx;obtain ⟨a,rfl,h1,h2⟩:=hy y hy2;exact ⟨h1,h2⟩
  ·rw[zdh,yab,yab];omega
def zo0 (K:Frag):Sp:=fun vs H Q _=>∃(d L:Addr) (n m:Nat),vs=[.ref d,.int n,.int m]∧n≤40∧m≤40∧LS K L d H∧
 ∀(r:Addr) (as:List Addr) (rows:List (List Int)) (H':Hp),H r=none→zaI H' as rows→rows.length=n→zaz rows→(∀ row∈rows,row.length≤m)→H' r=some (.tup (as.map V.ref))→Keep d H H'→LS K L d H'→Q (.ref r) H'
theorem zaz.snoc {rows:List (List Int)}{row:List Int}(R:zaz rows)(h1:row.Pairwise (· < ·))(h2:∀ x∈row,-(10 ^ 60) < x∧x < 10 ^ 60):zaz (rows++[row]):=by
 refine ⟨fun r hr=>?_,fun r hr=>?_⟩
 ·rcases yai.mp hr with z | z
  ·exact R.up r z
  ·rw[yaj.mp z];exact h1
 ·rcases yai.mp hr with z | z
  ·exact R.key r z
  ·rw[yaj.mp z];exact h2
theorem zn0 (T:Txt K mg)(qbX:DF K mg "_law_rows" zfy zeu)(qaa:FC P w K mg base 2 "_law_take" zbH (zfP K))(qcP:FC P w K mg base 4 "_law_row" zfE (zqJ K)):FC P w K mg base 5 "_law_rows" zeu (zo0 K):=by
 refine qbX.ok qaA (fun vs H Q E h=>?_) (fun f cdv A outer s H vs Q E hr h=>?_)
 ·obtain ⟨d,L,n,m,rfl,_⟩:=h;rfl
 obtain ⟨d,L,n,m,rfl,hn,hm,hs,q⟩:=h;refine ⟨_,(zal (zar (i:=3) qaA.nd rfl (Or.inl rfl) (zbP zac))
   (zal (zbd PassesOwn.never rfl (zbJ rfl T.qaj (zaa (pv 1) zac)) (zat (i:=4) qaA.nd rfl (Or.inl rfl)) (zal (zar (i:=5) qaA.nd rfl (Or.inl rfl) (zax qcP hr (zaa (pv 0) (zaa (pv 2) zac))))
   (zaJ (zaW (zaw zgq (zax qaa hr (zaa (pv 0) (zaa zaj zac))) zaj (zaF _)) (zae (zar (i:=5) qaA.nd rfl (Or.inl rfl) (zbO zac))) zay)
   (zaJ (zaW (PW.pt (zgz (zaw zlY (pv 4) zaj (zaF _)) (zeP (zaw zgq (zax qaa hr (zaa (pv 0) (zaa zaj zac))) zaj (zaF _))))) (zae (zar (i:=5) qaA.nd rfl (Or.inl rfl) (zaO zbe (pv 3) (zaA zc9 (pv 4) zaj) (fun _ _=>rfl)))) zay)
   (zae (zbx (zfn F.plainAttrs_list F.slot_list_append F.type_list_append zbo (pv 3) (zaa (pv 5) zac))))))))
   (zae (zav (zbn zbk rfl T.qaB boot_tuple (zaa (pv 3) zac)))))),?_⟩
 refine ⟨(by show 0≤sizeLine;decide),fun p hp=>?_⟩;have g0:=zah hp (.lst []);have ndT:∀{H':Hp} {a:Addr} {o:List V},LS K L d H'→H' a=some (.tup o)→a≠d:=fun {H' a o} s e z=>by
  obtain ⟨_,_,_,e2,_⟩:=s.ex;rw[← z,e]at e2;cases e2
 have nd:∀{H':Hp} {a:Addr},LS K L d H'→H' a=none→a≠d:=fun {H' a} s e z=>by
  obtain ⟨_,_,_,e2,_⟩:=s.ex;rw[← z,e]at e2;cases e2
 have hpd:p≠d:=nd hs hp;refine ⟨_,rfl,_,rfl,by omega,by omega,?_⟩;rw[ya9];refine zbq (n:=n) (fun i σ H2=>∃(as:List Addr) (rows:List (List Int)) (x4 x5:Option V),σ=[some (.ref d),some (.int n),some (.int m),some (.ref p),x4,x5]∧H2 p=some (.lst (as.map V.ref))∧zaI H2 as rows∧rows.length=i∧zaz rows∧(∀ row∈rows,row.length≤m)∧(∀ b o,b≠d→b≠p→H b=some o→H2 b=some o)∧LS K L d H2) ?_ ?_ ?_
 ·exact ⟨[],[],_,_,rfl,zab,.nil,rfl,⟨(fun r hr=>nomatch hr),(fun r hr=>nomatch hr)⟩,(fun r hr=>nomatch hr),fun b o _ n e=>g0 b o e,hs.same g0⟩
 ·rintro i σ H2 hi ⟨as,rows,x4,x5,rfl,h2,hA,hl,hR,hlen,k2,s2⟩;rw[ybP];have hal:=hA.length;have old:∀{H3:Hp} {b:Addr} {o:HO},(∀ b o,b≠d→H2 b=some o→H3 b=some o)→b≠d→b≠p→H b=some o→H3 b=some o:=fun k n1 n2 e=>k _ _ n1 (k2 _ _ n1 n2 e);refine ⟨_,rfl,_,rfl,d,L,m,rfl,⟨by omega,by omega⟩,s2,fun a row H3 ha hup hky hlr h3 k3 s3=>?_⟩;refine ⟨fun σ' H'=>∃(a:Addr) (row:List Int),σ'=[some (.ref d),some (.int n),some (.int m),some (.ref p),some (.int i),some (.ref a)]∧H' a=some (.tup (row.map V.int))∧row.Pairwise (· < ·)∧(∀ x∈row,-(10 ^ 60) < x∧x < 10 ^ 60)∧row.length≤m∧(∀ b o,b≠d→H2 b=some o→H' b=some o)∧LS K L d H',?_,?_⟩
  ·refine ⟨_,rfl,d,L,4,rfl,by decide,s3,fun v H4 _ _ k4 s4=>⟨rfl,_,rfl,?_⟩⟩;have h4:=k4 _ _ (ndT s3 h3) h3;refine ite2 (fun _=>?_) (fun _=>?_)
   ·refine ⟨(by show 0≤sizeLine;decide),fun u hu=>?_⟩;have su:=zah hu (.tup []);exact ⟨u,[],rfl,zab,.nil,(fun x hx=>nomatch hx),yaF _,fun b o n1 e=>su _ _ (k4 _ _ n1 (k3 _ _ n1 e)),s4.same su⟩
   ·exact ⟨a,row,rfl,h4,hup,hky,by omega,fun b o n1 e=>k4 _ _ n1 (k3 _ _ n1 e),s4⟩
  rintro σ' H4 ⟨a,row,rfl,h4,hup,hky,hlr,k4,s4⟩;refine ⟨fun σ' H'=>∃(a:Addr) (row:List Int),σ'=[some (.ref d),some (.int n),some (.int m),some (.ref p),some (.int i),some (.ref a)]∧H' a=some (.tup (row.map V.int))∧row.Pairwise (· < ·)∧(∀ x∈row,-(10 ^ 60) < x∧x < 10 ^ 60)∧row.length≤m∧(∀ b o,b≠d→H2 b=some o→H' b=some o)∧LS K L d H',?_,?_⟩
  ·refine ⟨_,rfl,_,_,rfl,rfl,_,rfl,?_⟩;refine ite2 (fun c=>?_) (fun c=>?_)
   ·have c':(0:Int) < (i:Int):=yaT c;refine ⟨_,rfl,d,L,4,rfl,by decide,s4,fun v H5 _ _ k5 s5=>⟨rfl,_,rfl,?_⟩⟩;have h5:=k5 _ _ (ndT s4 h4) h4;refine ite2 (fun _=>?_) (fun _=>?_)
    ·have h5p:H5 p=some (.lst (as.map V.ref)):=k5 _ _ hpd (k4 _ _ hpd h2);obtain ⟨b,hb1,hb2⟩:=hA.get (k:=i - 1) (by omega);have hb5:=k5 _ _ (ndT s4 (k4 _ _ (ndT s2 hb2) hb2)) (k4 _ _ (ndT s2 hb2) hb2);have hat:atI (as.map V.ref) ((i:Int) - 1)=some (.ref b):=by
      rw[show (i:Int) - 1=((i - 1:Nat):Int) by omega];exact zcU hb1
     refine ⟨_,rfl,_,rfl,_,_,rfl,rfl,_,_,_,_,rfl,rfl,SqL.of h5p,hat,?_⟩;have hmem:zai rows (i - 1)∈rows:=by
      unfold zai;rw[yaf,yac (show i - 1 < rows.length by omega)];exact yaN _
     exact ⟨b,zai rows (i - 1),rfl,hb5,hR.up _ hmem,hR.key _ hmem,hlen _ hmem,fun b o n1 e=>k5 _ _ n1 (k4 _ _ n1 e),s5⟩
    ·exact ⟨a,row,rfl,h5,hup,hky,hlr,fun b o n1 e=>k5 _ _ n1 (k4 _ _ n1 e),s5⟩
   ·refine iteF ?_;exact ⟨a,row,rfl,h4,hup,hky,hlr,k4,s4⟩
  rintro σ' H5 ⟨a,row,rfl,h5,hup,hky,hlr,k5,s5⟩;have h5p:H5 p=some (.lst (as.map V.ref)):=k5 _ _ hpd h2;have keep:∀ b o,b≠p→H5 b=some o→upd H5 p (.lst (as.map V.ref++[.ref a])) b=some o:=fun b o n e=>by rw[zaf n];exact e
  have ntp:∀{b:Addr} {o:List V},H5 b=some (.tup o)→b≠p:=fun {b o} e z=>by
   rw[z,h5p]at e;cases e
  refine ⟨_,rfl,.inl ⟨rfl,_,SqL.of h5p⟩,_,rfl,_,_,_,rfl,rfl,h5p,zaq (by rw[yab];omega),?_⟩;refine ⟨as++[a],rows++[row],_,_,rfl,?_,?_,by rw[yap,ybf,hl],hR.snoc hup hky,fun r hr=>?_,fun b o n1 n2 e=>keep _ _ n2 (k5 _ _ n1 (k2 _ _ n1 n2 e)),?_⟩
  ·rw[zab,yav];rfl
  ·refine zaI.snoc ?_ (keep _ _ (ntp h5) h5);have hA5:zaI H5 as rows:=zaI.keep (p:=d) (fun a row e=>ndT s2 e) k5 hA;exact zaI.keep (p:=p) (d:=p) (fun a row e=>ntp e) keep hA5
  ·rcases yai.mp hr with z | z
   ·exact hlen r z
   ·rw[yaj.mp z];exact hlr
  ·exact LS.put hs hp (fun b o n1 n2 e=>k5 _ _ n1 (k2 _ _ n1 n2 e)) s5
 ·rintro σ H2 ⟨as,rows,x4,x5,rfl,h2,hA,hl,hR,hlen,k2,s2⟩;refine ⟨_,rfl,p,_,rfl,.inl ⟨SqL.of h2,fun t ht=>?_⟩⟩;have sn:=zah ht (.tup (as.map V.ref));have ht0:H t=none:=by
   cases e:H t with
   | none=>rfl
   | some o=>
    have:=k2 t o (nd s2 ht) (Ne.symm (zad h2 ht)) e;rw[ht]at this;cases this
  exact q t as rows _ ht0 (hA.ext sn) hl hR hlen zab (fun b o n e=>sn _ _ (k2 b o n (zad e hp) e)) (s2.same sn)
theorem zeS {α β:Type}{F G:α→β→Prop}(h:∀ a b,F a b→G a b):∀{l:List α} {m:List β},Paired F l m→Paired G l m
 | _,_,.nil=>.nil
 | _,_,.cons a t=>.cons (h _ _ a) (zeS h t)
theorem zd7 {α β:Type}{F:α→β→Prop}:∀{l:List α} {m:List β} {i:Nat} {b:β},Paired F l m→m[i]?=some b→∃ a,l[i]?=some a∧F a b
 | _,_,i,a,.nil,h=>by simp at h
 | a::_,_::_,0,b,.cons h t,e=>by
  have:=yad (show some _=some b from e);subst this;exact ⟨a,rfl,h⟩
 | _::_,_::_,i+1,a,.cons h t,e=>by
  obtain ⟨q,h1,h2⟩:=zd7 (i:=i) t (by simpa using e);exact ⟨q,by simpa using h1,h2⟩
theorem zfG {rows:List (List Int)}{row:List Int}(h:row∈rows):row.length≤zbm rows:=by
 unfold zbm
 induction rows with
 | nil=>cases h
 | cons r rows ih=>
  rw[yar,yaH];rcases yak.mp h with e | e
  ·rw[e];omega
  ·have:=ih e;omega
def zkY (H:Hp)(q:Addr)(n:Nat):Prop:=∃ xs,(H q=some (.lst xs)∨H q=some (.tup xs))∧xs.length=n
theorem zny (l:List Nat):(l.map fun n:Nat=>(n:Int)).sum=((l.sum:Nat):Int):=by
 induction l with
 | nil=>rfl
 | cons a l ih=>
  rw[yar,yaH,ih,yaH,Int.natCast_add]
def zlw (K:Frag):Sp:=fun vs H Q _=>∃(a:Addr) (qs:List Addr) (ls:List Nat),vs=[.ref a]∧(H a=some (.lst (qs.map V.ref))∨H a=some (.tup (qs.map V.ref)))∧Paired (zkY H) qs ls∧ls.length≤900∧∀ H',Same H H'→Q (.int ((ls.sum:Nat):Int)) H'
theorem zpR (T:Txt K mg)(qav:DF K mg "long_together" zbD za9):FC P w K mg base 1 "long_together" za9 (zlw K):=by
 refine qav.ok qbh (fun vs H Q E h=>?_) (fun f cdv A outer s H vs Q E hr h=>?_)
 ·obtain ⟨a,qs,ls,rfl,_⟩:=h;rfl
 obtain ⟨a,qs,ls,rfl,ha,hP,hz,q⟩:=h;have hl:=Paired.length hP;refine ⟨_,(zae (zav (zap (zm4 rfl) rfl T.qc3 boot_sum (zaa (zcm (N:=["each"]) (own:=1) (cap:=[]) rfl (zlO (pv 0)) ⟨rfl,rfl,rfl,rfl,rfl,rfl⟩ (fun _ _ _ _ _=>(zat (i:=0) (show List.Nodup (["each"]:List Str) by decide +kernel) rfl (Or.inl rfl))) (fun _ _ _ _ _=>zc1) (fun _ _ _ _ _=>(zap (zhA (K:=K)) rfl T.qan boot_len (zaa (pv 0) zac)))) zac)))),?_⟩;have step:∀{D:Addr} (hD:H D=none) {i m:Nat} {x:V} {σ:L2.St} {H2:Hp} {fin:Nat→L2.St→Hp→Prop},(qs.map V.ref)[i]?=some x→i+m=(qs.map V.ref).length→(∀ b o,b≠D→H b=some o→H2 b=some o)→H2 D=some (.lst ((ls.take i).map nV))→∃ xs,(SqL K H2 (match x with | .ref q=>q | _=>0) xs∨SqT K H2 (match x with | .ref q=>q | _=>0) xs)∧(∃ q,x=.ref q)∧ls.take (i+1)=ls.take i++[xs.length]∧i < ls.length:=by
  intro D hD i m x σ H2 fin hx hm k2 h2;rw[yat]at hx;obtain ⟨qq,hq,rfl⟩:=ybD.mp hx;obtain ⟨n,hn,hL⟩:∃ n,ls[i]?=some n∧zkY H qq n:=by
   have:∀{qs:List Addr} {ls:List Nat} {i:Nat},Paired (zkY H) qs ls→qs[i]?=some qq→∃ n,ls[i]?=some n∧zkY H qq n:=by
    intro qs ls i r
    induction r generalizing i with
    | nil=>intro h;simp at h
    | cons a _ ih=>
     intro h;cases i with
     | zero=>
      have e:=yad (show some _=some qq from h);subst e;exact ⟨_,rfl,a⟩
     | succ i=>
      obtain ⟨n,h1,h2⟩:=ih (i:=i) (by simpa using h);exact ⟨n,by simpa using h1,h2⟩
   exact this hP hq
  have hi:=(yam.mp hn).1;obtain ⟨xs,hxs,hxl⟩:=hL;refine ⟨xs,?_,⟨qq,rfl⟩,?_,hi⟩
  ·rcases hxs with hxs | hxs
   ·exact .inl (SqL.of (k2 _ _ (zad hxs hD) hxs))
   ·exact .inr (SqT.of (k2 _ _ (zad hxs hD) hxs))
  ·rw[yaK hi,(yam.mp hn).2,hxl]
 have end_:∀{D:Addr} {H2:Hp},H D=none→H2 D=some (.lst (ls.map nV))→But D H H2→(fun xs H Q=>∃(p:Addr) (ns:List Int),xs=[V.ref p]∧SqL K H p (ns.map V.int)∧Q (.int ns.sum) H) [V.ref D] H2 Q:=fun {D H2} hD h2 k2=>by
  refine ⟨D,ls.map fun n:Nat=>(n:Int),rfl,?_,?_⟩
  ·rw[ybo];exact SqL.of h2
  ·rw[zny];exact q H2 (fun b o e=>k2 b o (zad e hD) e)
 rcases ha with ha | ha
 ·refine ⟨_,rfl,a,rfl,.inl ⟨⟨_,SqL.of ha⟩,fun D hD=>?_⟩⟩;refine zcs (xs:=qs.map V.ref) (fun i σ H2=>∃ x0:Option V,σ=[x0]∧H2 D=some (.lst ((ls.take i).map nV))∧But D H H2) ?_ ?_ ?_ ?_
  ·exact ⟨_,rfl,zab,fun b o n e=>by rw[zaf n];exact e⟩
  ·rintro i σ H2 _ ⟨x0,rfl,_,k2⟩;exact k2.sq (SqL.of ha) hD
  ·rintro i m x σ H2 hx hm ⟨x0,rfl,h2,k2⟩;obtain ⟨xs,hS,⟨qq,rfl⟩,htk,hi⟩:=step hD (σ:=[x0]) (fin:=fun _ _ _=>True) hx hm k2 h2;rw[yab]at hm;refine zdr ?_;refine ⟨_,rfl,qq,xs,rfl,hS,_,h2,zaq (by rw[yab,yan];omega),m - 1,by omega,by rw[yab];omega,_,rfl,?_,fun b o n e=>by rw[zaf n];exact k2 b o n e⟩;rw[zab,htk,yav];rfl
  ·rintro σ H2 ⟨x0,rfl,h2,k2⟩;rw[yab,yao (by omega)]at h2;exact end_ hD h2 k2
 ·refine ⟨_,rfl,a,rfl,.inr ⟨⟨_,SqT.of ha⟩,fun D hD=>?_⟩⟩;refine zeE (xs:=qs.map V.ref) (fun i σ H2=>∃ x0:Option V,σ=[x0]∧H2 D=some (.lst ((ls.take i).map nV))∧But D H H2) ?_ ?_ ?_ ?_
  ·exact ⟨_,rfl,zab,fun b o n e=>by rw[zaf n];exact e⟩
  ·rintro i σ H2 _ ⟨x0,rfl,_,k2⟩;exact SqT.of (k2 _ _ (zad ha hD) ha)
  ·rintro i m x σ H2 hx hm ⟨x0,rfl,h2,k2⟩;obtain ⟨xs,hS,⟨qq,rfl⟩,htk,hi⟩:=step hD (σ:=[x0]) (fin:=fun _ _ _=>True) hx hm k2 h2;rw[yab]at hm;refine zdr ?_;refine ⟨_,rfl,qq,xs,rfl,hS,_,h2,zaq (by rw[yab,yan];omega),m - 1,by omega,by rw[yab];omega,_,rfl,?_,fun b o n e=>by rw[zaf n];exact k2 b o n e⟩;rw[zab,htk,yav];rfl
  ·rintro σ H2 ⟨x0,rfl,h2,k2⟩;rw[yab,yao (by omega)]at h2;exact end_ hD h2 k2
theorem zoM {ps:List Nat}:atI (zbB ps) 0=some .non:=by
 have h:=ze7 (ps:=ps) (k:=0) (by omega);rw[zfX rfl]at h;exact h
def zgX (K:Frag):Sp:=fun vs H Q _=>∃(t:Addr) (ps:List Nat),vs=[.ref t]∧H t=some (.tup (zbB ps))∧zaB ps∧ps.length≤39∧∀ H',Same H H'→Q (.ref t) H'
theorem zl1 (T:Txt K mg)(qbz:DF K mg "tree_of" zei zcN)(qal:FC P w K mg base 2 "is_one_of_first" zaP (ziG K)):FC P w K mg base 3 "tree_of" zcN (zgX K):=by
 refine qbz.ok qbH (fun vs H Q E h=>?_) (fun f cdv A outer s H vs Q E hr h=>?_)
 ·obtain ⟨t,ps,rfl,_⟩:=h;rfl
 obtain ⟨t,ps,rfl,ht,hT,hz,q⟩:=h;refine ⟨_,(zaJ (zaW (zcM (zbV (zap ze4 rfl T.qam boot_isinstance (zaa (pv 0) (zaa (zbO (zaa (zdn (v:=.ty "list") rfl T.qbI boot_list rfl) (zaa (zdn (v:=.ty "tuple") rfl T.qaB boot_tuple rfl) zac))) zac))))) (zae za4) zay)
   (zaJ (zaW (zcM (znJ zpK zpK zaj (zap zan rfl T.qan boot_len (zaa (pv 0) zac)) (zew rfl T.qb5))) (zae za4) zay)
   (zaJ (zaW (zaw zlV (zaO za0 (pv 0) zaj (fun _ _=>rfl)) zfW (zaF _)) (zae za4) zay)
   (zal (zbd PassesOwn.never rfl (zev rfl T.qaj (zaa zaj (zaa (zap zan rfl T.qan boot_len (zaa (pv 0) zac)) zac))) (zat (i:=1) qbH.nd rfl (Or.inl rfl)) (zae (zaW (zcM (zbV (zax qal hr (zaa (pv 1) (zaa (zaO za0 (pv 0) (pv 1) (fun _ _=>rfl)) zac))))) (zae za4) zay)))
   (zae (zav (zbn zbk rfl T.qaB boot_tuple (zaa (pv 0) zac)))))))),?_⟩
 refine ⟨fun σ' H'=>σ'=[some (.ref t),none]∧Same H H',?_,?_⟩
 ·refine ⟨_,rfl,(by show 2≤sizeLine;decide),fun p hp=>?_⟩;have sp:=zah hp (.tup [.ty "list",.ty "tuple"]);refine ⟨t,p,rfl,zab,.inr ⟨_,sp _ _ ht⟩,_,rfl,?_⟩;refine iteF ?_;exact ⟨rfl,sp⟩
 rintro σ' H1 ⟨rfl,s1⟩;have h1:=s1 _ _ ht;refine ⟨fun σ' H'=>σ'=[some (.ref t),none]∧H1=H',?_,?_⟩
 ·refine ⟨_,rfl,_,_,rfl,.inr (SqT.of h1),_,_,rfl,rfl,_,rfl,?_⟩;refine zrD (by rw[zas];omega) ?_;refine ⟨_,_,rfl,rfl,_,rfl,?_⟩;rw[yae (by rw[zas];omega)];refine iteF ?_;exact ⟨rfl,rfl⟩
 rintro σ' H' ⟨rfl,rfl⟩;refine ⟨fun σ' H'=>σ'=[some (.ref t),none]∧H1=H',?_,?_⟩
 ·refine ⟨_,rfl,_,_,_,_,rfl,rfl,SqT.of h1,zoM,rfl,_,rfl,?_⟩;refine iteF ?_;exact ⟨rfl,rfl⟩
 rintro σ' H' ⟨rfl,rfl⟩;refine ⟨_,rfl,_,_,rfl,.inr (SqT.of h1),1,_,rfl,⟨by omega,by omega,by rw[zas];omega,by rw[zas];omega⟩,?_⟩;have en:((((zbB ps).length:Nat):Int) - 1).toNat=ps.length:=by rw[zas];omega
 rw[en];refine zbq (n:=ps.length) (fun i σ H2=>∃ x1:Option V,σ=[some (.ref t),x1]∧H2=H1) ?_ ?_ ?_
 ·exact ⟨_,rfl,rfl⟩
 ·rintro i σ H2 hi ⟨x1,rfl,rfl⟩;have ek:(1:Int)+(i:Int)=((i+1:Nat):Int):=by omega
  rw[ek];obtain ⟨u,hu⟩:=zhd (ps:=ps) (k:=i+1) (by omega) (by omega);have hlt:=(zaM hT hu).1;have hat:=ze7 (ps:=ps) (k:=i+1) (by omega);rw[zex hu]at hat;refine ⟨_,rfl,_,rfl,_,rfl,_,_,_,_,rfl,rfl,SqT.of h1,hat,_,_,rfl,by omega,by omega,_,rfl,?_⟩;refine iteF ?_;exact ⟨_,rfl,rfl⟩
 ·rintro σ H2 ⟨x1,rfl,rfl⟩;refine ⟨_,rfl,t,_,rfl,.inr ⟨SqT.of h1,?_⟩⟩;exact q H2 s1
def SeqAt (H:Hp)(a:Addr)(xs:List V):Prop:=H a=some (.lst xs)∨H a=some (.tup xs)
theorem SeqAt.same {H H':Hp}(e:Same H H'){a:Addr}{xs:List V}(h:SeqAt H a xs):SeqAt H' a xs:=h.elim (fun h=>.inl (e _ _ h)) (fun h=>.inr (e _ _ h))
theorem SeqAt.but {H H':Hp}{D:Addr}(k:But D H H')(hD:H D=none){a:Addr}{xs:List V}(h:SeqAt H a xs):SeqAt H' a xs:=h.elim (fun h=>.inl (k _ _ (zad h hD) h)) (fun h=>.inr (k _ _ (zad h hD) h))
def znf (H:Hp)(a:Addr)(row:List Int):Prop:=∃ r:List Int,SeqAt H a (r.map V.int)∧r.Perm row
theorem zlB {r row:List Int}(hp:r.Perm row)(hup:row.Pairwise (· < ·)):zcG r=row:=
 (zdy (as:=r) (bs:=row) hp.symm (List.Pairwise.imp (fun {a b} (h:a < b)=>yah (by omega)) hup)).symm
def zjv (K:Frag):Sp:=fun vs H Q _=>∃(a:Addr) (r row:List Int),vs=[.ref a]∧SeqAt H a (r.map V.int)∧r.Perm row∧row.Pairwise (· < ·)∧(∀ x∈row,-(10 ^ 60) < x∧x < 10 ^ 60)∧row.length≤900∧
 ∀(b:Addr) (H':Hp),H b=none→Same H H'→H' b=some (.tup (row.map V.int))→Q (.ref b) H'
theorem zl2 (T:Txt K mg)(qbY:DF K mg "row_of" zfu zeq)(qbW:FC P w K mg base 2 "is_key" zdk (ziE K)):FC P w K mg base 3 "row_of" zeq (zjv K):=by
 refine qbY.ok qb4 (fun vs H Q E h=>?_) (fun f cdv A outer s H vs Q E hr h=>?_)
 ·obtain ⟨a,r,row,rfl,_⟩:=h;rfl
 obtain ⟨a,r,row,rfl,ha,hpm,hup,hky,hz,q⟩:=h;refine ⟨_,(zaJ (zaW (zcM (zbV (zap ze4 rfl T.qam boot_isinstance (zaa (pv 0) (zaa (zbO (zaa (zdn (v:=.ty "list") rfl T.qbI boot_list rfl) (zaa (zdn (v:=.ty "tuple") rfl T.qaB boot_tuple rfl) zac))) zac))))) (zae za4) zay)
   (zal (zbd PassesOwn.never rfl (zlO (pv 0)) (zat (i:=1) qb4.nd rfl (Or.inl rfl)) (zae (zaW (zcM (zbV (zax qbW hr (zaa (pv 1) zac)))) (zae za4) zay)))
   (zaJ (zaW (zaw zh1 (zap zkV rfl T.qan boot_len (zaa (zbn (zm6 rfl) rfl T.qc2 boot_set (zaa (pv 0) zac)) zac)) (zap zan rfl T.qan boot_len (zaa (pv 0) zac)) (zaF _)) (zae za4) zay)
   (zae (zav (zbn zbk rfl T.qaB boot_tuple (zaa (zap (zkT Int) rfl T.qbm boot_sorted (zaa (pv 0) zac)) zac))))))),?_⟩
 have hrn:row.Nodup:=List.Pairwise.imp (fun {a b} (q:a < b)=>by omega) hup;have hnd:r.Nodup:=hpm.nodup_iff.mpr hrn;have hrl:r.length=row.length:=hpm.length_eq;have hsort:=zlB hpm hup;rcases ha with ha | ha
 ·
  refine ⟨fun σ' H'=>σ'=[some (.ref a),none]∧Same H H',?_,?_⟩
  ·refine ⟨_,rfl,(by show 2≤sizeLine;decide),fun p hp=>?_⟩;have sp:=zah hp (.tup [.ty "list",.ty "tuple"]);refine ⟨a,p,rfl,zab,.inl ⟨_,sp _ _ ha⟩,_,rfl,?_⟩;refine iteF ?_;exact ⟨rfl,sp⟩
  rintro σ' H1 ⟨rfl,s1⟩;have h1:=s1 _ _ ha;refine ⟨_,rfl,a,rfl,.inl ⟨⟨_,SqL.of h1⟩,?_⟩⟩;refine zcF (xs:=r.map V.int) (fun i σ H2=>∃ x1:Option V,σ=[some (.ref a),x1]∧H2=H1) ?_ ?_ ?_ ?_
  ·exact ⟨_,rfl,rfl⟩
  ·rintro i σ H2 _ ⟨x1,rfl,rfl⟩;exact SqL.of h1
  ·rintro i x σ H2 hx ⟨x1,rfl,rfl⟩;rw[yat]at hx;obtain ⟨y,hy,rfl⟩:=ybD.mp hx;have hb:=hky y (hpm.mem_iff.mp (yaD hy));refine ⟨_,rfl,_,true,rfl,.int y true ?_,_,rfl,?_⟩
   ·rw[yae (by split <;> omega)]
   refine iteF ?_;exact ⟨_,rfl,rfl⟩
  ·rintro σ H2 ⟨x1,rfl,rfl⟩;refine ⟨fun σ' H'=>σ'=[some (.ref a),x1]∧Same H2 H',?_,?_⟩
   ·refine ⟨_,rfl,.inl ⟨a,r,rfl,SqL.of h1,by omega,fun l hl=>?_⟩⟩;have sl:=zah hl (.set (fun k=>(metI r).any (· == k)) (metI r).length);refine ⟨l,_,_,rfl,zab,by rw[zdO hnd];omega,_,rfl,_,_,rfl,.inl (SqL.of (sl _ _ h1)),_,_,rfl,rfl,_,rfl,?_⟩;refine zmz (by rw[zdO hnd,yab];omega) ?_;exact ⟨rfl,sl⟩
   rintro σ' H3 ⟨rfl,s3⟩;have h3:=s3 _ _ h1;refine ⟨_,rfl,.inl ⟨a,_,r,rfl,SqL.of h3,zak.ints,fun l ws hl hw=>?_⟩⟩;rw[hw.toInts,hsort];have sl:=zah hl (.lst (row.map V.int));refine ⟨l,_,rfl,.inl ⟨SqL.of zab,fun b hb=>?_⟩⟩;have sb:=zah hb (.tup (row.map V.int));have s03:Same H H3:=s1.trans s3;exact q b _ (s03.free (sl.free hb)) (s03.trans (sl.trans sb)) zab
 ·
  refine ⟨fun σ' H'=>σ'=[some (.ref a),none]∧Same H H',?_,?_⟩
  ·refine ⟨_,rfl,(by show 2≤sizeLine;decide),fun p hp=>?_⟩;have sp:=zah hp (.tup [.ty "list",.ty "tuple"]);refine ⟨a,p,rfl,zab,.inr ⟨_,sp _ _ ha⟩,_,rfl,?_⟩;refine iteF ?_;exact ⟨rfl,sp⟩
  rintro σ' H1 ⟨rfl,s1⟩;have h1:=s1 _ _ ha;refine ⟨_,rfl,a,rfl,.inr ⟨⟨_,SqT.of h1⟩,?_⟩⟩;refine zhx (xs:=r.map V.int) (fun i σ H2=>∃ x1:Option V,σ=[some (.ref a),x1]∧H2=H1) ?_ ?_ ?_ ?_
  ·exact ⟨_,rfl,rfl⟩
  ·rintro i σ H2 _ ⟨x1,rfl,rfl⟩;exact SqT.of h1
  ·rintro i x σ H2 hx ⟨x1,rfl,rfl⟩;rw[yat]at hx;obtain ⟨y,hy,rfl⟩:=ybD.mp hx;have hb:=hky y (hpm.mem_iff.mp (yaD hy));refine ⟨_,rfl,_,true,rfl,.int y true ?_,_,rfl,?_⟩
   ·rw[yae (by split <;> omega)]
   refine iteF ?_;exact ⟨_,rfl,rfl⟩
  ·rintro σ H2 ⟨x1,rfl,rfl⟩;refine ⟨fun σ' H'=>σ'=[some (.ref a),x1]∧Same H2 H',?_,?_⟩
   ·refine ⟨_,rfl,.inr ⟨a,r,rfl,SqT.of h1,by omega,fun l hl=>?_⟩⟩;have sl:=zah hl (.set (fun k=>(metI r).any (· == k)) (metI r).length);refine ⟨l,_,_,rfl,zab,by rw[zdO hnd];omega,_,rfl,_,_,rfl,.inr (SqT.of (sl _ _ h1)),_,_,rfl,rfl,_,rfl,?_⟩;refine zmz (by rw[zdO hnd,yab];omega) ?_;exact ⟨rfl,sl⟩
   rintro σ' H3 ⟨rfl,s3⟩;have h3:=s3 _ _ h1;refine ⟨_,rfl,.inr ⟨a,_,r,rfl,SqT.of h3,zak.ints,fun l ws hl hw=>?_⟩⟩;rw[hw.toInts,hsort];have sl:=zah hl (.lst (row.map V.int));refine ⟨l,_,rfl,.inl ⟨SqL.of zab,fun b hb=>?_⟩⟩;have sb:=zah hb (.tup (row.map V.int));have s03:Same H H3:=s1.trans s3;exact q b _ (s03.free (sl.free hb)) (s03.trans (sl.trans sb)) zab
theorem zaI.lens {H:Hp}:∀{as:List Addr} {rows:List (List Int)},zaI H as rows→Paired (zkY H) as (rows.map List.length)
 | _,_,.nil=>.nil
 | _,_,.cons h t=>.cons ⟨_,.inr h,by rw[yab]⟩ (zaI.lens t)
def zeM (K:Frag):Sp:=fun vs H Q _=>∃(t r:Addr) (ps:List Nat) (rows:List (List Int)) (as:List Addr),vs=[.ref t,.ref r]∧H t=some (.tup (zbB ps))∧SeqAt H r (as.map V.ref)∧Paired (znf H) as rows∧rows.length=ps.length+1∧zaB ps∧zaz rows∧ps.length≤40∧zbm rows≤300∧
 ∀(st rs:Addr) (bs:List Addr) (H':Hp),H st=none→Same H H'→zby H' st ps rows t rs bs→Q (.ref st) H'
theorem ziO (T:Txt K mg)(qbb:DF K mg "stand_of" zdA zcj)(qcH:FC P w K mg base 3 "row_of" zeq (zjv K))(qaw:FC P w K mg base 1 "long_together" za9 (zlw K)):FC P w K mg base 4 "stand_of" zcj (zeM K):=by
 refine qbb.ok qbo (fun vs H Q E h=>?_) (fun f cdv A outer s H vs Q E hr h=>?_)
 ·obtain ⟨t,r,ps,rows,as,rfl,_⟩:=h;rfl
 obtain ⟨t,r,ps,rows,as,rfl,ht,hr0,hA,hlen,hT,hR,hfew,hkeys,q⟩:=h;have hal:as.length=rows.length:=Paired.length hA;refine ⟨_,(zaJ (zaW (zcM (zbV (zap ze4 rfl T.qam boot_isinstance (zaa (pv 1) (zaa (zbO (zaa (zdn (v:=.ty "list") rfl T.qbI boot_list rfl) (zaa (zdn (v:=.ty "tuple") rfl T.qaB boot_tuple rfl) zac))) zac))))) (zae za4) zay)
   (zaJ (zaW (zaw zq9 (zap zan rfl T.qan boot_len (zaa (pv 1) zac)) (zap zan rfl T.qan boot_len (zaa (pv 0) zac)) (zaF _)) (zae za4) zay)
   (zal (zar (i:=2) qbo.nd rfl (Or.inl rfl) (zbn zbk rfl T.qaB boot_tuple (zaa (zcm (N:=["row"]) (own:=1) (cap:=[]) rfl (zlO (pv 1)) ⟨rfl,rfl,rfl,rfl,rfl,rfl⟩ (fun _ _ _ _ _=>(zat (i:=0) (show List.Nodup (["row"]:List Str) by decide +kernel) rfl (Or.inl rfl))) (fun _ _ _ _ _=>zc1) (fun _ _ _ _ _=>(zax qcH hr (zaa (pv 0) zac)))) zac)))
   (zaJ (zaW (zaw zlY (zax qaw hr (zaa (pv 2) zac)) (zew rfl T.qbq) (zaF _)) (zae za4) zay)
   (zae (zav (zbO (zaa (pv 0) (zaa (pv 2) zac))))))))),?_⟩
 rcases hr0 with hr0 | hr0
 ·
  refine ⟨fun σ' H'=>σ'=[some (.ref t),some (.ref r),none]∧Same H H',?_,?_⟩
  ·refine ⟨_,rfl,(by show 2≤sizeLine;decide),fun p hp=>?_⟩;have sp:=zah hp (.tup [.ty "list",.ty "tuple"]);refine ⟨r,p,rfl,zab,.inl ⟨_,sp _ _ hr0⟩,_,rfl,?_⟩;refine iteF ?_;exact ⟨rfl,sp⟩
  rintro σ' H1 ⟨rfl,s1⟩;have h1t:=s1 _ _ ht;have h1r:=s1 _ _ hr0;have A1:Paired (znf H1) as rows:=zeS (fun _ _ ⟨x,h,p⟩=>⟨x,h.same s1,p⟩) hA;refine ⟨fun σ' H'=>σ'=[some (.ref t),some (.ref r),none]∧H1=H',?_,?_⟩
  ·refine ⟨_,rfl,_,_,rfl,.inl (SqL.of h1r),_,rfl,_,_,rfl,.inr (SqT.of h1t),rfl,_,rfl,?_⟩;refine zh9 (by rw[yab,zas,hal,hlen]) ?_;exact ⟨rfl,rfl⟩
  rintro σ' H' ⟨rfl,rfl⟩;refine ⟨_,rfl,r,rfl,.inl ⟨⟨_,SqL.of h1r⟩,fun D hD=>?_⟩⟩;refine zcs (xs:=as.map V.ref) (fun i σ H2=>∃(bs:List Addr) (x0:Option V),σ=[x0]∧H2 D=some (.lst (bs.map V.ref))∧zaI H2 bs (rows.take i)∧But D H1 H2) ?_ ?_ ?_ ?_
  ·exact ⟨[],_,rfl,zab,.nil,fun b o n e=>by rw[zaf n];exact e⟩
  ·rintro i σ H2 _ ⟨bs,x0,rfl,_,_,k2⟩;exact SqL.of (k2 _ _ (zad h1r hD) h1r)
  ·rintro i m x σ H2 hx hm ⟨bs,x0,rfl,h2,hB,k2⟩;have hbl:=hB.length;rw[yan]at hbl;rw[yab]at hm;have hi:i < rows.length:=by
    have:=(yam.mp hx).1;rw[yab]at this;omega
   obtain ⟨b,hb1,x2,hb2,hxp⟩:∃ b,as[i]?=some b∧znf H1 b (zai rows i):=by
    have hri:rows[i]?=some (zai rows i):=by
     unfold zai;rw[yaf,yac hi];rfl
    exact zd7 A1 hri
   rw[yat,hb1]at hx;have:=yad hx;subst this;have hmem:zai rows i∈rows:=by
    unfold zai;rw[yaf,yac hi];exact yaN hi
   have hrl:=zfG hmem;have htk:rows.take (i+1)=rows.take i++[zai rows i]:=by
    rw[yaK hi];unfold zai;rw[yaf,yac hi];rfl
   have h2b:=hb2.but k2 hD;refine zdr ?_;refine ⟨_,rfl,b,x2,zai rows i,rfl,h2b,hxp,hR.at_up i,hR.at_key i,by omega,fun c H3 hc s3 h3=>?_⟩;have h3D:=s3 _ _ h2;have ncD:∀{x:Addr} {o:List V},H3 x=some (.tup o)→x≠D:=fun {x o} e z=>by
    rw[z,h3D]at e;cases e
   have kD:∀ b o,b≠D→H3 b=some o→upd H3 D (.lst (bs.map V.ref++[.ref c])) b=some o:=fun b o n e=>by rw[zaf n];exact e
   refine ⟨_,h3D,zaq (by rw[yab];omega),m - 1,by omega,by rw[yab];omega,bs++[c],_,rfl,?_,?_,fun b o n e=>kD _ _ n (s3 _ _ (k2 b o n e))⟩
   ·rw[zab,yav];rfl
   ·rw[htk];exact zaI.snoc (zaI.keep (p:=D) (d:=D) (fun a row e=>ncD e) kD (hB.ext s3)) (kD _ _ (ncD h3) h3)
  rintro σ H2 ⟨bs,x0,rfl,h2,hB,k2⟩;rw[yab,yao (by omega)]at hB;have s2:Same H1 H2:=fun b o e=>k2 b o (zad e hD) e;refine ⟨D,_,rfl,.inl ⟨SqL.of h2,fun rs hrs=>?_⟩⟩;have s3:=zah hrs (.tup (bs.map V.ref));have h3:upd H2 rs (.tup (bs.map V.ref)) rs=some (.tup (bs.map V.ref)):=zab;have s13:=s2.trans s3;have B3:=hB.ext s3;generalize upd H2 rs (.tup (bs.map V.ref))=H3 at s3 h3 s13 B3 ⊢;refine ⟨fun σ' H'=>σ'=[some (.ref t),some (.ref r),some (.ref rs)]∧Same H3 H',?_,?_⟩
  ·refine ⟨_,rfl,rs,bs,rows.map List.length,rfl,.inr h3,B3.lens,by rw[yab];omega,fun H4 s4=>?_⟩;have hk:(rows.map List.length).sum=zbm rows:=rfl;rw[hk];refine ⟨_,_,rfl,rfl,_,rfl,?_⟩;refine zmz (by omega) ?_;exact ⟨rfl,s4⟩
  rintro σ' H4 ⟨rfl,s4⟩;have s04:=s1.trans (s13.trans s4);refine ⟨_,rfl,_,rfl,(by show 2≤sizeLine;decide),fun st hst=>?_⟩;have ss:=zah hst (.tup [.ref t,.ref rs]);exact q st rs bs _ (s04.free hst) (s04.trans ss) ⟨zab,ss _ _ (s04 _ _ ht),ss _ _ (s4 _ _ h3),(B3.ext s4).ext ss,hlen,hT,hR,hfew,by omega⟩
 ·
  refine ⟨fun σ' H'=>σ'=[some (.ref t),some (.ref r),none]∧Same H H',?_,?_⟩
  ·refine ⟨_,rfl,(by show 2≤sizeLine;decide),fun p hp=>?_⟩;have sp:=zah hp (.tup [.ty "list",.ty "tuple"]);refine ⟨r,p,rfl,zab,.inr ⟨_,sp _ _ hr0⟩,_,rfl,?_⟩;refine iteF ?_;exact ⟨rfl,sp⟩
  rintro σ' H1 ⟨rfl,s1⟩;have h1t:=s1 _ _ ht;have h1r:=s1 _ _ hr0;have A1:Paired (znf H1) as rows:=zeS (fun _ _ ⟨x,h,p⟩=>⟨x,h.same s1,p⟩) hA;refine ⟨fun σ' H'=>σ'=[some (.ref t),some (.ref r),none]∧H1=H',?_,?_⟩
  ·refine ⟨_,rfl,_,_,rfl,.inr (SqT.of h1r),_,rfl,_,_,rfl,.inr (SqT.of h1t),rfl,_,rfl,?_⟩;refine zh9 (by rw[yab,zas,hal,hlen]) ?_;exact ⟨rfl,rfl⟩
  rintro σ' H' ⟨rfl,rfl⟩;refine ⟨_,rfl,r,rfl,.inr ⟨⟨_,SqT.of h1r⟩,fun D hD=>?_⟩⟩;refine zeE (xs:=as.map V.ref) (fun i σ H2=>∃(bs:List Addr) (x0:Option V),σ=[x0]∧H2 D=some (.lst (bs.map V.ref))∧zaI H2 bs (rows.take i)∧But D H1 H2) ?_ ?_ ?_ ?_
  ·exact ⟨[],_,rfl,zab,.nil,fun b o n e=>by rw[zaf n];exact e⟩
  ·rintro i σ H2 _ ⟨bs,x0,rfl,_,_,k2⟩;exact SqT.of (k2 _ _ (zad h1r hD) h1r)
  ·rintro i m x σ H2 hx hm ⟨bs,x0,rfl,h2,hB,k2⟩;have hbl:=hB.length;rw[yan]at hbl;rw[yab]at hm;have hi:i < rows.length:=by
    have:=(yam.mp hx).1;rw[yab]at this;omega
   obtain ⟨b,hb1,x2,hb2,hxp⟩:∃ b,as[i]?=some b∧znf H1 b (zai rows i):=by
    have hri:rows[i]?=some (zai rows i):=by
     unfold zai;rw[yaf,yac hi];rfl
    exact zd7 A1 hri
   rw[yat,hb1]at hx;have:=yad hx;subst this;have hmem:zai rows i∈rows:=by
    unfold zai;rw[yaf,yac hi];exact yaN hi
   have hrl:=zfG hmem;have htk:rows.take (i+1)=rows.take i++[zai rows i]:=by
    rw[yaK hi];unfold zai;rw[yaf,yac hi];rfl
   have h2b:=hb2.but k2 hD;refine zdr ?_;refine ⟨_,rfl,b,x2,zai rows i,rfl,h2b,hxp,hR.at_up i,hR.at_key i,by omega,fun c H3 hc s3 h3=>?_⟩;have h3D:=s3 _ _ h2;have ncD:∀{x:Addr} {o:List V},H3 x=some (.tup o)→x≠D:=fun {x o} e z=>by
    rw[z,h3D]at e;cases e
   have kD:∀ b o,b≠D→H3 b=some o→upd H3 D (.lst (bs.map V.ref++[.ref c])) b=some o:=fun b o n e=>by rw[zaf n];exact e
   refine ⟨_,h3D,zaq (by rw[yab];omega),m - 1,by omega,by rw[yab];omega,bs++[c],_,rfl,?_,?_,fun b o n e=>kD _ _ n (s3 _ _ (k2 b o n e))⟩
   ·rw[zab,yav];rfl
   ·rw[htk];exact zaI.snoc (zaI.keep (p:=D) (d:=D) (fun a row e=>ncD e) kD (hB.ext s3)) (kD _ _ (ncD h3) h3)
  rintro σ H2 ⟨bs,x0,rfl,h2,hB,k2⟩;rw[yab,yao (by omega)]at hB;have s2:Same H1 H2:=fun b o e=>k2 b o (zad e hD) e;refine ⟨D,_,rfl,.inl ⟨SqL.of h2,fun rs hrs=>?_⟩⟩;have s3:=zah hrs (.tup (bs.map V.ref));have h3:upd H2 rs (.tup (bs.map V.ref)) rs=some (.tup (bs.map V.ref)):=zab;have s13:=s2.trans s3;have B3:=hB.ext s3;generalize upd H2 rs (.tup (bs.map V.ref))=H3 at s3 h3 s13 B3 ⊢;refine ⟨fun σ' H'=>σ'=[some (.ref t),some (.ref r),some (.ref rs)]∧Same H3 H',?_,?_⟩
  ·refine ⟨_,rfl,rs,bs,rows.map List.length,rfl,.inr h3,B3.lens,by rw[yab];omega,fun H4 s4=>?_⟩;have hk:(rows.map List.length).sum=zbm rows:=rfl;rw[hk];refine ⟨_,_,rfl,rfl,_,rfl,?_⟩;refine zmz (by omega) ?_;exact ⟨rfl,s4⟩
  rintro σ' H4 ⟨rfl,s4⟩;have s04:=s1.trans (s13.trans s4);refine ⟨_,rfl,_,rfl,(by show 2≤sizeLine;decide),fun st hst=>?_⟩;have ss:=zah hst (.tup [.ref t,.ref rs]);exact q st rs bs _ (s04.free hst) (s04.trans ss) ⟨zab,ss _ _ (s04 _ _ ht),ss _ _ (s4 _ _ h3),(B3.ext s4).ext ss,hlen,hT,hR,hfew,by omega⟩
theorem zm0 (xs:List V)(a:Nat):cutV xs none (some (a:Int))=xs.take a:=by
 unfold cutV;rw[zcH,show HT.sIx xs.length 0 none=0 from rfl,ycd,Nat.sub_zero];by_cases h:a≤xs.length
 ·rw[ybh h]
 ·rw[ybK (by omega),yao (yaa _),yao (by omega)]
theorem zgc (xs:List V)(a:Nat):cutV xs (some (a:Int)) none=xs.drop a:=by
 unfold cutV;rw[zcH,show HT.sIx xs.length xs.length none=xs.length from rfl];by_cases h:a≤xs.length
 ·rw[ybh h,yao (by rw[yaM];exact yaa _)]
 ·rw[ybK (by omega),yaX (yaa _),yaX (show xs.length≤a by omega),List.take_nil]
theorem zlF {zs:List V}{k:Nat}{x:V}(h:k < zs.length):zs.set k x=zs.take k++[x]++zs.drop (k+1):=by
 rw[List.set_eq_take_append_cons_drop,if_pos h,yaQ];rfl
def zlr (K:Frag):Sp:=fun vs H Q _=>∃(st t rs:Addr) (zs:List V) (k:Nat) (x:V),vs=[.ref st,.int k,x]∧H st=some (.tup [.ref t,.ref rs])∧H rs=some (.tup zs)∧k < zs.length∧zs.length≤60∧
 ∀(st' rs':Addr) (H':Hp),Same H H'→H' st'=some (.tup [.ref t,.ref rs'])→H' rs'=some (.tup (zs.set k x))→Q (.ref st') H'
theorem zpO (T:Txt K mg)(qbc:DF K mg "with_row" zdz zci):FC P w K mg base 1 "with_row" zci (zlr K):=by
 refine qbc.ok qbp (fun vs H Q E h=>?_) (fun f cdv A outer s H vs Q E hr h=>?_)
 ·obtain ⟨st,t,rs,zs,k,x,rfl,_⟩:=h;rfl
 obtain ⟨st,t,rs,zs,k,x,rfl,hst,hrs,hk,hz,q⟩:=h;refine ⟨_,(zal (zar (i:=3) qbp.nd rfl (Or.inl rfl) (zaO za0 (pv 0) zaj (fun _ _=>rfl)))
   (zae (zav (zbO (zaa (zaO za0 (pv 0) zaj (fun _ _=>rfl)) (zaa (zaA zhh (zaA zlZ (zcb zd2 (pv 3) zd4 (zcl (pv 1))) (zbO (zaa (pv 2) zac))) (zcb zd2 (pv 3) (zcl (zaA zbA (pv 1) zaj)) zd4)) zac)))))),?_⟩
 refine ⟨_,rfl,_,_,_,_,rfl,rfl,SqT.of hst,rfl,?_⟩;refine ⟨_,rfl,_,_,_,_,rfl,rfl,SqT.of hst,rfl,?_⟩;refine ⟨_,rfl,_,rfl,_,rfl,rs,zs,rfl,SqT.of hrs,(fun z=>?_),fun _ p hp=>?_⟩
 ·have:=z.2;rw[zcH]at this;omega
 rw[zm0];have g1:=zah hp (.tup (zs.take k));have w1:upd H p (.tup (zs.take k)) p=some (.tup (zs.take k)):=zab;generalize upd H p (.tup (zs.take k))=H1 at g1 w1 ⊢;refine ⟨_,rfl,(by show 1≤sizeLine;decide),fun m hm=>?_⟩;have g2:=zah hm (.tup [x]);have w2:upd H1 m (.tup [x]) m=some (.tup [x]):=zab;have w12:=g2 _ _ w1;generalize upd H1 m (.tup [x])=H2 at g2 w2 w12 ⊢;have hl1:(zs.take k).length=k:=by rw[yan];omega
 have rest:∀(u:Addr) (H3:Hp),Same H2 H3→H3 u=some (.tup (zs.take k++[x]))→∀{Q':VK},(∀(v:Addr) (H':Hp),Same H3 H'→H' v=some (.tup (zs.set k x))→Q' (.ref v) H')→∀(p2:Addr) (H4:Hp),Same H3 H4→H4 p2=some (.tup (zs.drop (k+1)))→zpx K (.ref u) (.ref p2) H4 Q':=fun u H3 _ hu Q' q' p2 H4 s4 hp2=>by
  refine ⟨u,p2,_,_,rfl,rfl,SqT.of (s4 _ _ hu),SqT.of hp2,by simp,?_,fun z=>?_,fun z v hv=>?_⟩
  ·refine ya8 (zaq ?_);rw[yap,hl1,yaM,ybf];omega
  ·refine q' u H4 s4 ?_;rw[zlF hk,z,yaJ];exact s4 _ _ hu
  ·refine q' v _ (s4.trans (zah hv _)) ?_;rw[zab,zlF hk]
 have fin:∀(u:Addr) (H3:Hp),Same H2 H3→H3 u=some (.tup (zs.take k++[x]))→∀(v:Addr) (H':Hp),Same H3 H'→H' v=some (.tup (zs.set k x))→∀ p,H' p=none→Q (.ref p) (upd H' p (.tup [.ref t,.ref v])):=fun u H3 s3 _ v H' s' hv p hp=>by
  have gp:=zah hp (.tup [.ref t,.ref v]);exact q p v _ (g1.trans (g2.trans (s3.trans (s'.trans gp)))) zab (gp _ _ hv)
 have e1k:(k:Int)+1=((k+1:Nat):Int):=by omega
 refine ⟨p,m,_,_,rfl,rfl,SqT.of w12,SqT.of w2,by simp,ya8 (zaq (by rw[hl1];show k+1≤1000;omega)),fun z=>?_,fun z u hu=>?_⟩
 ·have e0:zs.take k++[x]=[x]:=by rw[z];rfl
  refine ⟨_,rfl,_,rfl,_,_,rfl,rfl,_,rfl,rs,zs,rfl,SqT.of (g2 _ _ (g1 _ _ hrs)),(fun z=>?_),fun _ p2 hp2=>?_⟩
  ·have:=z.1;rw[e1k,zcH]at this;omega
  rw[e1k,zgc];exact rest m H2 (fun _ _ e=>e) (by rw[e0];exact w2) (fun v H' s' hv=>⟨(by show 2≤sizeLine;decide),fin m H2 (fun _ _ e=>e) (by rw[e0];exact w2) v H' s' hv⟩) p2 _ (zah hp2 _) zab
 ·have gu:=zah hu (.tup (zs.take k++[x]));have wu:upd H2 u (.tup (zs.take k++[x])) u=some (.tup (zs.take k++[x])):=zab;generalize upd H2 u (.tup (zs.take k++[x]))=H3 at gu wu ⊢;refine ⟨_,rfl,_,rfl,_,_,rfl,rfl,_,rfl,rs,zs,rfl,SqT.of (gu _ _ (g2 _ _ (g1 _ _ hrs))),(fun z=>?_),fun _ p2 hp2=>?_⟩
  ·have:=z.1;rw[e1k,zcH]at this;omega
  rw[e1k,zgc];exact rest u H3 gu wu (fun v H' s' hv=>⟨(by show 2≤sizeLine;decide),fin u H3 gu wu v H' s' hv⟩) p2 _ (zah hp2 _) zab
def zqM (P:Program)(w:World)(K:Frag)(mg:Str→Option Value)(base:Heap):Sp:=fun vs H Q _=>∃(n:Nat) (f:Addr) (ps:List Str) (sp:Sp) (b:Nat→Bool) (R:Hp→Prop),vs=[.int n,.ref f]∧FV P w K mg base 1 f ps sp∧R H∧
 (∀(i:Nat) (H1:Hp) (Q1:VK),i < n→R H1→(∀ H2,R H2→Q1 (.bl (b i)) H2)→sp [.int i] H1 Q1 E0)∧(∀ i j,i≤j→j < n→b j=true→b i=true)∧
 ∀(m:Nat) (H':Hp),m≤n→(∀ i,i < m→b i=true)→(∀ i,m≤i→i < n→b i=false)→R H'→Q (.int m) H'
def zqz:L2.St→Hp→Nat:=fun σ _=>match σ with
 | [_,_,some (.int lo),some (.int hi),_]=>(hi - lo).toNat
 | _=>0
theorem zri (T:Txt K mg)(qaq:DF K mg "how_many_below" zbs zbi):FC P w K mg base 2 "how_many_below" zbi (zqM P w K mg base):=by
 refine qaq.ok qae (fun vs H Q E h=>?_) (fun f cdv A outer s H vs Q E hr h=>?_)
 ·obtain ⟨n,f,ps,sp,b,R,rfl,_⟩:=h;rfl
 obtain ⟨n,f,ps,sp,b,R,rfl,hF,hR,hask,hmono,q⟩:=h;refine ⟨_,(zal (zar (i:=2) qae.nd rfl (Or.inl rfl) zaj)
   (zal (zar (i:=3) qae.nd rfl (Or.inl rfl) (pv 0))
   (zal (zjJ PassesOwn.never (zaw zh1 (pv 2) (pv 3) (zaF _)) (zal (zar (i:=4) qae.nd rfl (Or.inl rfl) (zaA ziN (zaA zbA (pv 2) (pv 3)) zaj))
   (zae (zaW (zbV (znP (kr:=1) hr (pv 1) (zaa (pv 4) zac))) (zae (zar (i:=2) qae.nd rfl (Or.inl rfl) (zaA zbA (pv 4) zaj))) (zae (zar (i:=3) qae.nd rfl (Or.inl rfl) (pv 4)))))))
   (zae (zav (pv 2)))))),?_⟩
 refine ⟨_,rfl,?_⟩;refine zhF (fun σ H2=>∃(lo hi:Nat) (x4:Option V),σ=[some (.int n),some (.ref f),some (.int lo),some (.int hi),x4]∧lo≤hi∧hi≤n∧(∀ i,i < lo→b i=true)∧(∀ i,hi≤i→i < n→b i=false)∧R H2) (fun σ H2=>∃(lo:Nat) (x4:Option V),σ=[some (.int n),some (.ref f),some (.int lo),some (.int lo),x4]∧lo≤n∧(∀ i,i < lo→b i=true)∧(∀ i,lo≤i→i < n→b i=false)∧R H2) zqz ?_ ?_ ?_ ?_
 ·exact ⟨0,n,_,rfl,yaF _,yaa _,fun i h=>absurd h (yby _),fun i h1 h2=>absurd h2 (Nat.not_lt.mpr h1),hR⟩
 ·rintro σ H2 ⟨lo,hi,x4,rfl,h1,h2,hb1,hb2,hR2⟩;refine ⟨_,rfl,_,rfl,_,_,rfl,rfl,_,rfl,?_⟩;refine ite2 (fun c=>?_) (fun c=>?_)
  ·have c1:(lo:Int) < (hi:Int):=yaT c;have em:((lo:Int)+(hi:Int)) / 2=(((lo+hi) / 2:Nat):Int):=by omega
   have m1:lo≤(lo+hi) / 2:=by omega
   have m2:(lo+hi) / 2 < hi:=by omega
   refine ⟨_,rfl,_,rfl,_,_,rfl,rfl,_,_,rfl,rfl,⟨by decide,by decide⟩,?_⟩;refine ⟨_,rfl,f,1,ps,sp,rfl,hF,yaa _,_,rfl,?_⟩;show sp [V.int (((lo:Int)+(hi:Int)) / 2)] H2 _ E0;rw[em];refine hask ((lo+hi) / 2) H2 _ (by omega) hR2 fun H3 hR3=>⟨_,rfl,?_⟩;cases hbm:b ((lo+hi) / 2) with
   | true=>
    refine iteT ?_;refine ⟨_,rfl,_,_,rfl,rfl,⟨(lo+hi) / 2+1,hi,some (V.int (((lo:Int)+(hi:Int)) / 2)),?_,by omega,h2,fun i hi'=>hmono i ((lo+hi) / 2) (by omega) (by omega) hbm,hb2,hR3⟩,?_⟩
    ·show [some (V.int n),some (V.ref f),some (V.int (((lo:Int)+(hi:Int)) / 2+1)),some (V.int hi),some (V.int (((lo:Int)+(hi:Int)) / 2))]=_;rw[em,Int.natCast_add];rfl
    ·show ((hi:Int) - (((lo:Int)+(hi:Int)) / 2+1)).toNat < ((hi:Int) - (lo:Int)).toNat;omega
   | false=>
    refine iteF ?_;refine ⟨_,rfl,⟨lo,(lo+hi) / 2,some (V.int (((lo:Int)+(hi:Int)) / 2)),?_,m1,by omega,hb1,fun i hi' hin=>?_,hR3⟩,?_⟩
    ·show [some (V.int n),some (V.ref f),some (V.int lo),some (V.int (((lo:Int)+(hi:Int)) / 2)),some (V.int (((lo:Int)+(hi:Int)) / 2))]=_;rw[em]
    ·cases hbi:b i with
     | false=>rfl
     | true=>
      have:=hmono ((lo+hi) / 2) i hi' hin hbi;rw[hbm]at this;cases this
    ·show ((((lo:Int)+(hi:Int)) / 2) - (lo:Int)).toNat < ((hi:Int) - (lo:Int)).toNat;omega
  ·have c1:¬ (lo:Int) < (hi:Int):=of_decide_eq_false (yb1.mpr c);have e:hi=lo:=by omega
   subst e;exact ⟨hi,_,rfl,h2,hb1,hb2,hR2⟩
 ·intro σ H Q Q' m h;obtain ⟨y1,e3,y2,e4,i2,j2,f2,g2,b2,e5,q⟩:=h;exact ⟨y1,e3,y2,e4,i2,j2,f2,g2,b2,e5,m _ _ q⟩
 rintro σ H2 ⟨lo,x4,rfl,h2,hb1,hb2,hR2⟩;refine ⟨_,rfl,?_⟩;exact q lo H2 h2 hb1 hb2 hR2
def zeF (row:List Int)(key:Int):Nat:=(row.filter fun x=>decide (x < key)).length
theorem zoL {row:List Int}{key:Int}{m:Nat}(hm:m≤row.length)(h1:∀ i,i < m→decide (row.getD i 0 < key)=true)(h2:∀ i,m≤i→i < row.length→decide (row.getD i 0 < key)=false):zeF row key=m:=by
 unfold zeF
 conv=>lhs;rw[← yaP m row]
 rw[ybp,yap];have e1:(row.take m).filter (fun x=>decide (x < key))=row.take m:=by
  rw[ycm];intro x hx;obtain ⟨i,hi,rfl⟩:=yaz hx;rw[yan]at hi;have:=h1 i (by omega);rw[yaf,yac (by omega)]at this;rw[ybn];exact this
 have e2:(row.drop m).filter (fun x=>decide (x < key))=[]:=by
  rw[ybz];intro x hx;obtain ⟨i,hi,rfl⟩:=yaz hx;rw[yaM]at hi;have:=h2 (m+i) (by omega) (by omega);rw[yaf,yac (by omega)]at this;rw[List.getElem_drop];intro z;rw[show decide (row[m+i] < key)=false from this]at z;cases z
 rw[e1,e2,yan,ybu];omega
abbrev lamQ:Str:=(envOfC ("place" : Str) (zag zeO) 0 0 .none).qual ++ "<lambda>"
abbrev zcq:Pos:=⟨45,36,45,60⟩
def ziC (K:Frag)(mp:Addr):Sp:=fun vs H Q _=>∃(r:Addr) (row:List Int) (key:Int),vs=[.ref r,.int key]∧H r=some (.tup (row.map V.int))∧row.Pairwise (· < ·)∧za1 H mp zcq lamQ∧
 ∀ H':Hp,Gro mp H H'→za1 H' mp zcq lamQ→Q (.int (zeF row key:Nat)) H'
theorem znV (T:Txt K mg){mc mp:Addr}(qbZ:DFT K mg "place" zeO zer mc mp)(hBM:BMAt mg base)(qbj:∀ base,FC P w K mg base 2 "how_many_below" zbi (zqM P w K mg base)):FC P w K mg base 3 "place" zer (ziC K mp):=by
 refine qbZ.ok qcE (fun vs H Q E h=>?_) (fun f A outer s H vs Q E hr h=>?_)
 ·obtain ⟨r,row,key,rfl,_⟩:=h;rfl
 obtain ⟨r,row,key,rfl,h0,hup,hT,q⟩:=h;refine ⟨_,(zae (zav (zkq (kf:=0) qbj hr (zap zan rfl T.qan boot_len (zaa (pv 0) zac)) (zru (osc:=zag zeO) (N:=["row","key"]) (ps:=["at"]) (caps:=["key","row"]) (cap:=[1,0]) ⟨rfl,rfl,rfl,by decide +kernel,by decide +kernel,by decide +kernel,by decide +kernel⟩ (by decide +kernel) (by decide +kernel) rfl rfl rfl rfl (fun _ _ _ _ us hl=>match us,hl with | [_],_=>rfl) (fun _=>rfl)) rfl qbZ.hd hBM (fun _ _ _ _ _ _ _ _ _=>(zd6 zh1 (zaO (zmx (K:=K)) (pv 2) (pv 0) (fun _ _=>rfl)) (pv 1) (zaF _)))))),?_⟩
 refine ⟨_,rfl,_,_,rfl,.inr (SqT.of h0),hT,[.int key,.ref r],rfl,?_,fun base f c' H2 hg hT2 hC hV=>?_⟩
 ·intro j i v h1 h2;rcases j with _ | _ | j
  ·cases h1;cases h2;rfl
  ·cases h1;cases h2;rfl
  ·cases h1
 have nmp:r≠mp:=fun z=>by
  obtain ⟨tab,e,_⟩:=hT.ex;rw[← z,h0]at e;cases e
 have h2r:=hg _ _ nmp h0;rw[yab];refine ⟨row.length,f,_,_,fun i=>decide (row.getD i 0 < key),fun H'=>H'=H2,rfl,hV,rfl,fun i H1 Q1 hi hR hQ=>?_,fun i j hij hj hb=>?_,fun m H' hm hb1 hb2 hR=>?_⟩
 ·subst hR;refine ⟨rfl,hC,?_⟩;have hat:atI (row.map V.int) ((i:Nat):Int)=some (.int (row.getD i 0)):=ze8 (by rw[yat,yac hi,yaf,yac hi];rfl);refine ⟨_,rfl,_,rfl,_,_,_,_,rfl,rfl,SqT.of h2r,hat,_,rfl,_,_,rfl,rfl,?_⟩;exact hQ _ rfl
 ·refine yae ?_;have hb:=yaT hb;by_cases e:i=j
  ·subst e;exact hb
  ·have:=yaV.mp hup i j (by omega) hj (by omega);rw[yaf,yac (by omega)]at hb ⊢;exact Int.lt_trans this hb
 ·subst hR;have e:=zoL hm hb1 hb2;have q2:=q _ hg hT2;rw[e]at q2;exact q2
theorem zfF {r:List Int}:∀{rows:List (List Int)} {kn:Nat},kn < rows.length→zbm (rows.set kn r)+(zai rows kn).length=zbm rows+r.length
 | [],_,h=>absurd h (yby _)
 | a::rows,0,_=>by
  unfold zbm;rw[List.set_cons_zero,yar,yaH,yar,yaH];show r.length+_+a.length=_;omega
 | a::rows,kn+1,h=>by
  have ih:=zfF (r:=r) (rows:=rows) (kn:=kn) (Nat.lt_of_succ_lt_succ h);unfold zbm at ih ⊢;rw[List.set_cons_succ,yar,yaH,yar,yaH];have e:zai (a::rows) (kn+1)=zai rows kn:=rfl;rw[e];omega
theorem zhv (n:Int)(xs:List Int):inV (.int n) (xs.map V.int)=decide (n∈xs):=by
 unfold inV
 induction xs with
 | nil=>rfl
 | cons x xs ih=>
  rw[yar,yba,ih];show (x == n || decide (n∈xs))=decide (n∈x::xs);by_cases h:x=n
  ·subst h;simp
  ·have h2:¬ n=x:=fun z=>h z.symm;simp[h,h2]
theorem zhW {H:Hp}:∀{as:List Addr} {rows:List (List Int)},zaI H as rows→Paired (zkY H) as (rows.map List.length)
 | _,_,.nil=>.nil
 | _,_,.cons h t=>.cons ⟨_,.inr h,by rw[yab]⟩ (zhW t)
section
variable {K:Frag}{H:Hp}{a b:Addr}{xs ys:List V}{n:Nat}{Q:VK}
theorem zlE (h:H a=some (.tup xs))(q:∀ v H',Same H H'→H' v=some (.tup (xs.take n))→Q (.ref v) H'):rSlX K (.ref a) none (some (n:Int)) H Q:=
 ⟨a,xs,rfl,SqT.of h,fun z=>q a H (fun _ _ e=>e) (by
  have:=z.2;rw[zcH]at this;rw[yao (by omega)];exact h),fun _ p hp=>q p _ (zah hp _) (by rw[zab,zm0])⟩
theorem zjB (h:H a=some (.tup xs))(q:∀ v H',Same H H'→H' v=some (.tup (xs.drop n))→Q (.ref v) H'):rSlX K (.ref a) (some (n:Int)) none H Q:=
 ⟨a,xs,rfl,SqT.of h,fun z=>q a H (fun _ _ e=>e) (by
  have:=z.1;rw[zcH]at this;have e:xs.drop n=xs:=by
   rcases Nat.eq_zero_or_pos n with y | y
   ·rw[y];rfl
   ·have:xs=[]:=ycB.mp (by omega);rw[this];exact List.drop_nil
  rw[e];exact h),fun _ p hp=>q p _ (zah hp _) (by rw[zab,zgc])⟩
theorem zoG (ha:H a=some (.tup xs))(hb:H b=some (.tup ys))(hy:ys≠[])(hl:xs.length+ys.length≤sizeLine)(q:∀ v H',Same H H'→H' v=some (.tup (xs++ys))→Q (.ref v) H'):zqV K (.ref a) (.ref b) H Q:=
 ⟨a,b,xs,ys,rfl,rfl,SqT.of ha,SqT.of hb,hy,hl,fun z=>q b H (fun _ _ e=>e) (by rw[z];exact hb),fun _ p hp=>q p _ (zah hp _) zab⟩
theorem zoH (ha:H a=some (.tup xs))(hb:H b=some (.tup ys))(hx:xs≠[])(hl:xs.length+ys.length≤sizeLine)(q:∀ v H',Same H H'→H' v=some (.tup (xs++ys))→Q (.ref v) H'):zpx K (.ref a) (.ref b) H Q:=
 ⟨a,b,xs,ys,rfl,rfl,SqT.of ha,SqT.of hb,hx,hl,fun z=>q a H (fun _ _ e=>e) (by rw[z,yaJ];exact ha),fun _ p hp=>q p _ (zah hp _) zab⟩
end
theorem zfS {H:Hp}{v:Addr}{r:List Int}(hv:H v=some (.tup (r.map V.int))):∀{as:List Addr} {rows:List (List Int)} (kn:Nat),zaI H as rows→zaI H (as.set kn v) (rows.set kn r)
 | _,_,_,.nil=>.nil
 | _,_,0,.cons _ t=>.cons hv t
 | _,_,kn+1,.cons h t=>.cons h (zfS hv kn t)
theorem zlL {row:List Int}{x:Int}:(putR row x).length=row.length+1:=by
 unfold putR;rw[yap,yap,yan,yaM];have:loN row x≤row.length:=ya2 _ _;show _+1+_=_;omega
theorem ziy {H H':Hp}{Pt b:Addr}{pos:Pos}{q:Str}(x:za1 H Pt pos q)(k:But b H H')(h1:∀ tab,H b≠some (.tbl tab))(h2:∀ f,H b≠some (.ext f)):za1 H' Pt pos q:=by
 obtain ⟨tab,e1,e2,e3⟩:=x.ex;refine ⟨tab,k _ _ (fun z=>h1 tab (z ▸ e1)) e1,e2,?_⟩;rcases e3 with e3 | ⟨c,e3,e4⟩
 ·exact .inl e3
 ·exact .inr ⟨c,e3,k _ _ (fun z=>h2 _ (z ▸ (show H c=_ from e4))) e4⟩
theorem zhZ {r:List (List Int)}(Q:zaz r)(k:Nat):Rise (ownE r k):=by
 unfold ownE;exact List.Pairwise.map _ (R:=fun a b:Int=>a < b) (fun a b (h:a < b)=>zcI.mpr (.inl h)) (Q.at_up k)
def Kd (sh p mp:Addr)(H H':Hp):Prop:=∀ b o,b≠sh→b≠p→b≠mp→H b=some o→H' b=some o
def zjz (K:Frag)(CS mp:Addr)(f:List Int→Int→List Int)(ok:List (List Int)→Nat→Int→Prop):Sp:=fun vs H Q _=>∃(sh dx st p:Addr) (kn:Nat) (x:Int) (qs:List Addr) (ps:List Nat) (rows:List (List Int)) (t rs:Addr) (as:List Addr),vs=[.ref sh,.int kn,.int x]∧zaC K CS H sh dx st p qs ps rows t rs as∧kn < ps.length+1∧zfb x∧ok rows kn x∧za1 H mp zcq lamQ∧
 ∀(D:Addr) (us:List V) (m:Nat) (qs':List Addr) (st' rs':Addr) (as':List Addr) (H':Hp),zqu ps rows (rows.set kn (f (zai rows kn) x)) kn m→H D=none→(∀ q∈qs',q∈qs∨H q=none)→Kd sh p mp H H'→zaC K CS H' sh dx st' p qs' ps (rows.set kn (f (zai rows kn) x)) t rs' as'→za1 H' mp zcq lamQ→H' D=some (.lst us)→
  zbN K H' D (fun b=>H b=none∧b∉qs') (zb5 ps rows (rows.set kn (f (zai rows kn) x)) kn m) us→Q (.ref D) H'
def zpV (rows:List (List Int))(kn:Nat)(x:Int):Prop:=x∉zai rows kn∧zbm rows < 300
def zpW (rows:List (List Int))(kn:Nat)(x:Int):Prop:=x∈zai rows kn
theorem zif {K:Frag}{mp CS:Addr}{H H2 H8:Hp}{sh dx st p st' rs' v7 t rs:Addr}{qs as:List Addr}{ps:List Nat}{rows:List (List Int)}{kn:Nat}{r:List Int}(S:zaC K CS H sh dx st p qs ps rows t rs as)(S2:zaC K CS H2 sh dx st p qs ps rows t rs as)(hT2:za1 H2 mp zcq lamQ)
  (g:∀ b o,b≠mp→H b=some o→H2 b=some o) (s28:Same H2 H8) (h7:H8 v7=some (.tup (r.map V.int))) (h8:H8 st'=some (.tup [.ref t,.ref rs'])) (r8:H8 rs'=some (.tup ((as.map V.ref).set kn (.ref v7)))) (R':zaz (rows.set kn r)) (hk:zbm (rows.set kn r)≤400) :
  zct K CS (upd H8 sh (.ins CS dx (putF "kept" (.ref st') [("kept",.ref st),("fulls",.ref p)]))) sh dx st' p qs ps rows (rows.set kn r) t rs' (as.set kn v7) kn 0∧za1 (upd H8 sh (.ins CS dx (putF "kept" (.ref st') [("kept",.ref st),("fulls",.ref p)]))) mp zcq lamQ∧(∀ b o,b≠sh→b≠mp→H b=some o→upd H8 sh (.ins CS dx (putF "kept" (.ref st') [("kept",.ref st),("fulls",.ref p)])) b=some o)∧
  (∀{b},upd H8 sh (.ins CS dx (putF "kept" (.ref st') [("kept",.ref st),("fulls",.ref p)])) b=none→H b=none)∧∀{b},upd H8 sh (.ins CS dx (putF "kept" (.ref st') [("kept",.ref st),("fulls",.ref p)])) b=none→b∉qs:=by
 have i8:=s28 _ _ S2.ins;have i9:upd H8 sh (.ins CS dx (putF "kept" (.ref st') [("kept",.ref st),("fulls",.ref p)])) sh=some (.ins CS dx [("kept",.ref st'),("fulls",.ref p)]):=zab;have k9:But sh H8 (upd H8 sh (.ins CS dx (putF "kept" (.ref st') [("kept",.ref st),("fulls",.ref p)]))):=fun b o n e=>by rw[zaf n];exact e
 generalize upd H8 sh (.ins CS dx (putF "kept" (.ref st') [("kept",.ref st),("fulls",.ref p)]))=H9 at i9 k9 ⊢;have tp9:Tp H8 H9:=k9.tp fun us' z=>by rw[i8]at z;cases z
 have l9:∀ b us,H8 b=some (.lst us)→H9 b=some (.lst us):=fun b us e=>k9 b _ (fun z=>by rw[z,i8]at e;cases e) e
 have o9:=k9 _ _ (fun z=>by have:=S.own;rw[z,S.ins]at this;cases this) (s28 _ _ S2.own)
 have S9:zct K CS H9 sh dx st' p qs ps rows (rows.set kn r) t rs' (as.set kn v7) kn 0:=by
  refine ⟨o9,i9,⟨tp9 _ _ h8,tp9 _ _ (s28 _ _ S2.stand.tr),?_,zfS (tp9 _ _ h7) kn (ziI (fun b us e=>tp9 _ _ (s28 _ _ e)) S2.stand.at_),by rw[ybU];exact S.stand.len,S.stand.T,R',S.stand.few,hk⟩,(S2.full.ext s28.ext).tp tp9 l9⟩;rw[List.map_set];exact tp9 _ _ r8
 have T9:=ziy (hT2.ext s28.ext) k9 (fun tab z=>by rw[i8]at z;cases z) (fun f z=>by rw[i8]at z;cases z)
 refine ⟨S9,T9,fun b o n1 n2 e=>k9 b o n1 (s28 _ _ (g b o n2 e)),fun {b} e=>?_,fun {b} e z=>?_⟩
 ·cases eb:H b with
  | none=>rfl
  | some o=>
   by_cases z1:b=sh
   ·rw[z1,S9.ins]at e;cases e
   ·by_cases z2:b=mp
    ·obtain ⟨tab,e1,_⟩:=T9.ex;rw[z2,e1]at e;cases e
    ·rw[k9 b o z1 (s28 _ _ (g b o z2 eb))]at e;cases e
 ·obtain ⟨i,hi,ei⟩:=yaz z;obtain ⟨ws,w1,_⟩:=S9.full.get i b (by rw[yac hi,ei]);rw[e]at w1;cases w1
theorem zrc (T:Txt K mg){mp:Addr}{CS:Addr}(O:OwnC K mg CS)(qaX:DM K CS "put" "Shelf.put" zcZ zcB)(qax:FM P w K mg base CS 4 "row_for" zba (zgY K CS))(qaw:FC P w K mg base 1 "long_together" za9 (zlw K))(qcj:FC P w K mg base 3 "place" zer (ziC K mp))(qbd:FC P w K mg base 1 "with_row" zci (zlr K))(qar:FM P w K mg base CS 7 "carry_up" zaY (ziH K CS)):FM P w K mg base CS 8 "put" zcB (zjz K CS mp putR zpV):=by
 refine qaX.ok qaH (fun vs H Q E h=>?_) (fun f cdv A outer s H vs Q E hr h=>?_)
 ·obtain ⟨sh,dx,st,p,kn,x,qs,ps,rows,t,rs,as,rfl,_⟩:=h;rfl
 obtain ⟨sh,dx,st,p,kn,x,qs,ps,rows,t,rs,as,rfl,S,hk,hx,⟨hnx,hroom⟩,hT,q⟩:=h;refine ⟨_,(zal (zar (i:=3) qaH.nd rfl (Or.inl rfl) (ziK qax O.cl hr (pv 0) (zaa (pv 1) (zaa (pv 2) zac))))
   (zaJ (zaW (zaw zh2 (pv 2) (pv 3) (by with_unfolding_all rfl)) (zae za4) zay)
   (zaJ (zaW (zaw zpL (zax qaw hr (zaa (zaO za0 (zcO (pv 0) rfl) zaj (fun _ _=>rfl)) zac)) (zew rfl T.qbq) (zaF _)) (zae za4) zay)
   (zal (zar (i:=4) qaH.nd rfl (Or.inl rfl) (zax qcj hr (zaa (pv 3) (zaa (pv 2) zac))))
   (zal (zjL (pv 0) (zax qbd hr (zaa (zcO (pv 0) rfl) (zaa (pv 1) (zaa (zaA zhh (zaA zlZ (zcb zd2 (pv 3) zd4 (zcl (pv 4))) (zbO (zaa (pv 2) zac))) (zcb zd2 (pv 3) (zcl (pv 4)) zd4)) zac)))) rfl)
   (zae (zav (ziK qar O.cl hr (pv 0) (zaa (pv 1) (zaa (zbP zac) (zaa (zbP (zaa (zbO (zaa (pv 2) (zaa (pv 1) zac))) zac)) zac))))))))))),?_⟩
 refine ⟨_,rfl,sh,dx,_,rfl,S.ins,rfl,_,rfl,_,rfl,sh,dx,st,p,kn,x,qs,ps,rows,t,rs,as,rfl,S,hk,hx,fun a ha hrow=>?_⟩;have hfl:((zai rows kn).map V.int).all zeZ=true:=ya1.mpr fun y hy=>by
  obtain ⟨z,_,rfl⟩:=yaE.mp hy;rfl
 refine ⟨fun σ' H'=>σ'=[some (.ref sh),some (.int kn),some (.int x),some (.ref a),none]∧H=H',?_,?_⟩
 ·refine ⟨_,rfl,_,rfl,a,_,rfl,.inr (SqT.of hrow),rfl,hfl,_,rfl,?_⟩;show if inV (.int x) ((zai rows kn).map V.int)=true then _ else _
  rw[zhv,yah hnx];exact iteF ⟨rfl,rfl⟩
 rintro _ _ ⟨rfl,rfl⟩;have hfew:=S.stand.few;refine ⟨fun σ' H1=>σ'=[some (.ref sh),some (.int kn),some (.int x),some (.ref a),none]∧Same H H1,?_,?_⟩
 ·refine ⟨_,rfl,sh,CS,dx,_,_,rfl,S.ins,O.cl,O.n_kept,rfl,_,_,_,_,rfl,rfl,SqT.of S.stand.st,rfl,rs,as,_,rfl,.inr S.stand.rs,zhW S.stand.at_,by rw[yab,S.stand.len];omega,fun H1 s1=>?_⟩;refine ⟨_,_,rfl,rfl,_,rfl,?_⟩;exact zmz (show ¬ (300:Int)≤((zbm rows:Nat):Int) by omega) ⟨rfl,s1⟩
 rintro _ H1 ⟨rfl,s1⟩;have hrow1:=s1 _ _ hrow;refine ⟨_,rfl,_,rfl,a,zai rows kn,x,rfl,hrow1,S.stand.R.at_up kn,hT.ext s1.ext,fun H2 g2 hT2=>?_⟩;obtain ⟨tab,hmp⟩:∃ tab,H1 mp=some (.tbl tab):=by
  obtain ⟨tab,e,_⟩:=(hT.ext s1.ext).ex;exact ⟨tab,e⟩
 have keep2:∀{b:Addr} {o:HO},H b=some o→(∀ tab,o≠.tbl tab)→H2 b=some o:=fun {b o} e n=>g2 b o (fun z=>by
  rw[z]at e;have:=s1 _ _ e;rw[hmp]at this;exact n _ (yad this).symm) (s1 _ _ e)
 have tp2:Tp H H2:=fun b us e=>keep2 e (fun _ z=>nomatch z);have S2:zaC K CS H2 sh dx st p qs ps rows t rs as:=⟨keep2 S.own (fun _ z=>nomatch z),keep2 S.ins (fun _ z=>nomatch z),zb6 tp2 S.stand,S.full.tp tp2 fun b us e=>keep2 e (fun _ z=>nomatch z)⟩;have row2:=tp2 _ _ hrow;refine ⟨_,rfl,sh,CS,dx,_,_,rfl,S2.ins,O.cl,O.n_kept,rfl,_,rfl,?_⟩;refine ⟨_,rfl,_,rfl,_,rfl,zlE row2 fun v3 H3 s3 h3=>?_⟩;refine ⟨_,rfl,(by show 1≤sizeLine;decide),fun v4 hv4=>?_⟩;have s4:=zah hv4 (.tup [.int x]);have h4:upd H3 v4 (.tup [.int x]) v4=some (.tup [.int x]):=zab;have h34:=s4 _ _ h3;have row4:=s4 _ _ (s3 _ _ row2);generalize upd H3 v4 (.tup [.int x])=H4 at s4 h4 h34 row4 ⊢;have hrl:(zai rows kn).length≤400:=by
  have:=S.stand.keys;refine yaw (zfG ?_) this;unfold zai;rw[yaf,yac (show kn < rows.length by rw[S.stand.len];exact hk)];exact yaN _
 refine zoG h34 h4 (fun z=>nomatch z) (ya8 (zaq (by rw[yan,yab];show _+1≤1000;omega))) fun v5 H5 s5 h5=>?_;refine ⟨_,rfl,_,rfl,_,rfl,?_⟩;unfold ziz;dsimp only;refine zjB (s5 _ _ row4) fun v6 H6 s6 h6=>?_;refine zoH (s6 _ _ h5) h6 (by simp) (ya8 (zaq (by rw[yap,yan,yaM,yab];show _+1+_≤1000;omega))) fun v7 H7 s7 h7=>?_;have s27:Same H2 H7:=s3.trans (s4.trans (s5.trans (s6.trans s7)));have er:((zai rows kn).map V.int).take (zeF (zai rows kn) x)++[V.int x]++((zai rows kn).map V.int).drop (zeF (zai rows kn) x)=(putR (zai rows kn) x).map V.int:=by
  unfold putR;rw[yav,yav,ycs,List.map_drop];rfl
 rw[er]at h7;have hal:=S.stand.at_.length;refine ⟨st,t,rs,as.map V.ref,kn,.ref v7,rfl,s27 _ _ S2.stand.st,s27 _ _ S2.stand.rs,by rw[yab,hal,S.stand.len];exact hk,by rw[yab,hal,S.stand.len];omega,fun st' rs' H8 s8 h8 r8=>?_⟩;have s28:Same H2 H8:=s27.trans s8;have hkr:kn < rows.length:=by rw[S.stand.len];exact hk
 have R':zaz (rows.set kn (putR (zai rows kn) x)):=zg6 S.stand.R (zo7 (S.stand.R.at_up kn) hnx) fun y hy=>by
  rcases zha.mp hy with z | z
  ·exact S.stand.R.at_key kn y z
  ·rw[z];exact hx
 have hks:=zfF (r:=putR (zai rows kn) x) hkr;rw[zlL]at hks;refine ⟨_,rfl,sh,CS,dx,_,rfl,s28 _ _ S2.ins,O.cl,O.n_kept,(by show 2 < 1000;decide),?_⟩;obtain ⟨S9,T9,kd9,al,nq9⟩:=zif (r:=putR (zai rows kn) x) S S2 hT2 (fun b o n e=>g2 b o n (s1 _ _ e)) s28 (s8 _ _ h7) h8 r8 R' (by omega);generalize upd H8 sh (.ins CS dx (putF "kept" (.ref st') [("kept",.ref st),("fulls",.ref p)]))=H9 at S9 T9 kd9 al nq9 ⊢;refine ⟨_,rfl,sh,dx,_,rfl,S9.ins,rfl,_,rfl,(by show 0≤sizeLine;decide),fun g hg=>?_⟩;have s10:=zah hg (.lst []);have g10:upd H9 g (.lst []) g=some (.lst []):=zab;generalize upd H9 g (.lst [])=H10 at s10 g10 ⊢;refine ⟨_,rfl,_,rfl,(by show 2≤sizeLine;decide),fun u hu=>?_⟩;have s11:=zah hu (.tup [.int x,.int kn]);have u11:upd H10 u (.tup [.int x,.int kn]) u=some (.tup [.int x,.int kn]):=zab;generalize upd H10 u (.tup [.int x,.int kn])=H11 at s11 u11 ⊢;refine ⟨(by show 1≤sizeLine;decide),fun c hc=>?_⟩;have s12:=zah hc (.lst [.ref u]);have c12:upd H11 c (.lst [.ref u]) c=some (.lst [.ref u]):=zab;generalize upd H11 c (.lst [.ref u])=H12 at s12 c12 ⊢;have s92:Same H9 H12:=s10.trans (s11.trans s12);have S12:zct K CS H12 sh dx st' p qs ps rows (rows.set kn (putR (zai rows kn) x)) t rs' (as.set kn v7) kn 0:=⟨s92 _ _ S9.own,s92 _ _ S9.ins,S9.stand.same s92,S9.full.ext s92.ext⟩;have L:=zib S.stand.T S.stand.R R' hk (ze5 (rows:=rows) (r:=putR (zai rows kn) x));refine ⟨sh,dx,st',p,g,c,[],[.ref u],kn,qs,ps,rows,rows.set kn (putR (zai rows kn) x),t,rs',as.set kn v7,(fun b=>H b=none),rfl,S12,hk,ze5,S.stand.R,S.stand.len,S.stand.keys,s12 _ _ (s11 _ _ g10),?_,c12,?_,al hg,al (s10.free (s11.free hc)),(nq9 hg),(nq9 (s10.free (s11.free hc))),(fun z=>by have z:H p=none:=z;rw[S.full.at_]at z;cases z),(fun b z=>al (s92.free z)),fun D us m qs' H' st hD hq bb sh' hDl told=>?_⟩
 ·rw[← L.gone,znH hkr];exact .nil
 ·rw[← L.come,znI hkr (S.stand.R.at_up kn) (zhZ R' kn) hnx];exact .cons ⟨u,.int x,.int kn,rfl,s12 _ _ u11,rfl,rfl⟩ .nil
 ·refine q D us m qs' st' rs' (as.set kn v7) H' st (al (s92.free hD)) (fun y hy=>(hq y hy).imp id fun z=>al (s92.free z)) (fun b o n1 n2 n3 e=>bb b o n2 (s92 _ _ (kd9 b o n1 n3 e))) sh' ?_ hDl told;have:=S12.full.at_;exact ziy (T9.ext s92.ext) bb (fun tab z=>by rw[this]at z;cases z) (fun f z=>by rw[this]at z;cases z)
section
variable {K:Frag}{H:Hp}{a b:Addr}{xs ys:List V}{Q:VK}
theorem zoI (ha:H a=some (.tup xs))(hb:H b=some (.tup ys))(hl:xs.length+ys.length≤sizeLine)(q:∀ v H',Same H H'→H' v=some (.tup (xs++ys))→Q (.ref v) H'):zqW K (.ref a) (.ref b) H Q:=
 ⟨a,b,xs,ys,rfl,rfl,SqT.of ha,SqT.of hb,hl,fun z=>q b H (fun _ _ e=>e) (by rw[z];exact hb),fun _=>⟨fun z=>q a H (fun _ _ e=>e) (by rw[z,yaJ];exact ha),fun _ p hp=>q p _ (zah hp _) zab⟩⟩
end
theorem zre (T:Txt K mg){mp:Addr}{CS:Addr}(O:OwnC K mg CS)(qaY:DM K CS "out" "Shelf.out" zc0 zcC)(qax:FM P w K mg base CS 4 "row_for" zba (zgY K CS))(qcj:FC P w K mg base 3 "place" zer (ziC K mp))(qbd:FC P w K mg base 1 "with_row" zci (zlr K))(qar:FM P w K mg base CS 7 "carry_up" zaY (ziH K CS)):FM P w K mg base CS 8 "out" zcC (zjz K CS mp outR zpW):=by
 refine qaY.ok qaI (fun vs H Q E h=>?_) (fun f cdv A outer s H vs Q E hr h=>?_)
 ·obtain ⟨sh,dx,st,p,kn,x,qs,ps,rows,t,rs,as,rfl,_⟩:=h;rfl
 obtain ⟨sh,dx,st,p,kn,x,qs,ps,rows,t,rs,as,rfl,S,hk,hx,hin,hT,q⟩:=h;refine ⟨_,(zal (zar (i:=3) qaI.nd rfl (Or.inl rfl) (ziK qax O.cl hr (pv 0) (zaa (pv 1) (zaa (pv 2) zac))))
   (zaJ (zaW (zaw zbZ (pv 2) (pv 3) (by with_unfolding_all rfl)) (zae za4) zay)
   (zal (zar (i:=4) qaI.nd rfl (Or.inl rfl) (zax qcj hr (zaa (pv 3) (zaa (pv 2) zac))))
   (zal (zjL (pv 0) (zax qbd hr (zaa (zcO (pv 0) rfl) (zaa (pv 1) (zaa (zaA zpN (zcb zd2 (pv 3) zd4 (zcl (pv 4))) (zcb zd2 (pv 3) (zcl (zaA zbA (pv 4) zaj)) zd4)) zac)))) rfl)
   (zae (zav (ziK qar O.cl hr (pv 0) (zaa (pv 1) (zaa (zbP (zaa (zbO (zaa (pv 2) (zaa (pv 1) zac))) zac)) (zaa (zbP zac) zac)))))))))),?_⟩
 refine ⟨_,rfl,sh,dx,_,rfl,S.ins,rfl,_,rfl,_,rfl,sh,dx,st,p,kn,x,qs,ps,rows,t,rs,as,rfl,S,hk,hx,fun a ha hrow=>?_⟩;have hfl:((zai rows kn).map V.int).all zeZ=true:=ya1.mpr fun y hy=>by
  obtain ⟨z,_,rfl⟩:=yaE.mp hy;rfl
 refine ⟨fun σ' H'=>σ'=[some (.ref sh),some (.int kn),some (.int x),some (.ref a),none]∧H=H',?_,?_⟩
 ·refine ⟨_,rfl,_,rfl,a,_,rfl,.inr (SqT.of hrow),rfl,hfl,_,rfl,?_⟩;show if (!inV (.int x) ((zai rows kn).map V.int))=true then _ else _
  rw[zhv,yae (show x∈zai rows kn from hin)];exact iteF ⟨rfl,rfl⟩
 rintro _ _ ⟨rfl,rfl⟩;have hfew:=S.stand.few;have s1:Same H H:=fun _ _ e=>e;have hrow1:=s1 _ _ hrow;refine ⟨_,rfl,_,rfl,a,zai rows kn,x,rfl,hrow1,S.stand.R.at_up kn,hT.ext s1.ext,fun H2 g2 hT2=>?_⟩;obtain ⟨tab,hmp⟩:∃ tab,H mp=some (.tbl tab):=by
  obtain ⟨tab,e,_⟩:=(hT.ext s1.ext).ex;exact ⟨tab,e⟩
 have keep2:∀{b:Addr} {o:HO},H b=some o→(∀ tab,o≠.tbl tab)→H2 b=some o:=fun {b o} e n=>g2 b o (fun z=>by
  rw[z]at e;have:=s1 _ _ e;rw[hmp]at this;exact n _ (yad this).symm) (s1 _ _ e)
 have tp2:Tp H H2:=fun b us e=>keep2 e (fun _ z=>nomatch z);have S2:zaC K CS H2 sh dx st p qs ps rows t rs as:=⟨keep2 S.own (fun _ z=>nomatch z),keep2 S.ins (fun _ z=>nomatch z),zb6 tp2 S.stand,S.full.tp tp2 fun b us e=>keep2 e (fun _ z=>nomatch z)⟩;have row2:=tp2 _ _ hrow;refine ⟨_,rfl,sh,CS,dx,_,_,rfl,S2.ins,O.cl,O.n_kept,rfl,_,rfl,?_⟩;refine ⟨_,rfl,_,rfl,_,rfl,zlE row2 fun v3 H3 s3 h3=>?_⟩;have hrl:(zai rows kn).length≤400:=by
  have:=S.stand.keys;refine yaw (zfG ?_) this;unfold zai;rw[yaf,yac (show kn < rows.length by rw[S.stand.len];exact hk)];exact yaN _
 refine ⟨_,rfl,_,rfl,_,_,rfl,rfl,_,rfl,?_⟩;unfold ziz;dsimp only;rw[show ((zeF (zai rows kn) x:Nat):Int)+1=((zeF (zai rows kn) x+1:Nat):Int) from rfl];refine zjB (s3 _ _ row2) fun v6 H6 s6 h6=>?_;refine zoI (s6 _ _ h3) h6 (ya8 (zaq (by rw[yan,yaM,yab];omega))) fun v7 H7 s7 h7=>?_;have s27:Same H2 H7:=s3.trans (s6.trans s7);have er:((zai rows kn).map V.int).take (zeF (zai rows kn) x)++((zai rows kn).map V.int).drop (zeF (zai rows kn) x+1)=(outR (zai rows kn) x).map V.int:=by
  unfold outR;rw[yav,ycs,List.map_drop];rfl
 rw[er]at h7;have hal:=S.stand.at_.length;refine ⟨st,t,rs,as.map V.ref,kn,.ref v7,rfl,s27 _ _ S2.stand.st,s27 _ _ S2.stand.rs,by rw[yab,hal,S.stand.len];exact hk,by rw[yab,hal,S.stand.len];omega,fun st' rs' H8 s8 h8 r8=>?_⟩;have s28:Same H2 H8:=s27.trans s8;have hkr:kn < rows.length:=by rw[S.stand.len];exact hk
 have R':zaz (rows.set kn (outR (zai rows kn) x)):=zg6 S.stand.R ((S.stand.R.at_up kn).sublist (zeT _ _)) fun y hy=>S.stand.R.at_key kn y ((zeT _ _).mem hy);have hks:=zfF (r:=outR (zai rows kn) x) hkr;have hol:=(zeT (zai rows kn) x).length_le;have hkk:=S.stand.keys;refine ⟨_,rfl,sh,CS,dx,_,rfl,s28 _ _ S2.ins,O.cl,O.n_kept,(by show 2 < 1000;decide),?_⟩;obtain ⟨S9,T9,kd9,al,nq9⟩:=zif (r:=outR (zai rows kn) x) S S2 hT2 (fun b o n e=>g2 b o n (s1 _ _ e)) s28 (s8 _ _ h7) h8 r8 R' (by omega);generalize upd H8 sh (.ins CS dx (putF "kept" (.ref st') [("kept",.ref st),("fulls",.ref p)]))=H9 at S9 T9 kd9 al nq9 ⊢;refine ⟨_,rfl,sh,dx,_,rfl,S9.ins,rfl,_,rfl,_,rfl,_,rfl,(by show 2≤sizeLine;decide),fun u hu=>?_⟩;have s10:=zah hu (.tup [.int x,.int kn]);have u10:upd H9 u (.tup [.int x,.int kn]) u=some (.tup [.int x,.int kn]):=zab;generalize upd H9 u (.tup [.int x,.int kn])=H10 at s10 u10 ⊢;refine ⟨(by show 1≤sizeLine;decide),fun g hg=>?_⟩;have s11:=zah hg (.lst [.ref u]);have g11:upd H10 g (.lst [.ref u]) g=some (.lst [.ref u]):=zab;generalize upd H10 g (.lst [.ref u])=H11 at s11 g11 ⊢;refine ⟨(by show 0≤sizeLine;decide),fun c hc=>?_⟩;have s12:=zah hc (.lst []);have c12:upd H11 c (.lst []) c=some (.lst []):=zab;generalize upd H11 c (.lst [])=H12 at s12 c12 ⊢;have s92:Same H9 H12:=s10.trans (s11.trans s12);have S12:zct K CS H12 sh dx st' p qs ps rows (rows.set kn (outR (zai rows kn) x)) t rs' (as.set kn v7) kn 0:=⟨s92 _ _ S9.own,s92 _ _ S9.ins,S9.stand.same s92,S9.full.ext s92.ext⟩;have L:=zib S.stand.T S.stand.R R' hk (ze5 (rows:=rows) (r:=outR (zai rows kn) x));refine ⟨sh,dx,st',p,g,c,[.ref u],[],kn,qs,ps,rows,rows.set kn (outR (zai rows kn) x),t,rs',as.set kn v7,(fun b=>H b=none),rfl,S12,hk,ze5,S.stand.R,S.stand.len,S.stand.keys,s12 _ _ g11,?_,c12,?_,al (s10.free hg),al (s10.free (s11.free hc)),(nq9 (s10.free hg)),(nq9 (s10.free (s11.free hc))),(fun z=>by have z:H p=none:=z;rw[S.full.at_]at z;cases z),(fun b z=>al (s92.free z)),fun D us m qs' H' st hD hq bb sh' hDl told=>?_⟩
 ·rw[← L.gone,znR hkr (S.stand.R.at_up kn) (zhZ S.stand.R kn) hin];exact .cons ⟨u,.int x,.int kn,rfl,s12 _ _ (s11 _ _ u10),rfl,rfl⟩ .nil
 ·rw[← L.come,znS hkr];exact .nil
 ·refine q D us m qs' st' rs' (as.set kn v7) H' st (al (s92.free hD)) (fun y hy=>(hq y hy).imp id fun z=>al (s92.free z)) (fun b o n1 n2 n3 e=>bb b o n2 (s92 _ _ (kd9 b o n1 n3 e))) sh' ?_ hDl told;have:=S12.full.at_;exact ziy (T9.ext s92.ext) bb (fun tab z=>by rw[this]at z;cases z) (fun f z=>by rw[this]at z;cases z)
def dl (Av:List Addr)(H:Hp):Hp:=fun b=>if b∈Av then none else H b
def KpV (Av:List Addr)(H H':Hp):Prop:=∀ b o,b∉Av→H b=some o→H' b=some o
section
variable {Av:List Addr}{H H':Hp}
theorem zse {b:Addr}(h:b∉Av):dl Av H b=H b:=if_neg h
theorem za7:Same (dl Av H) H:=fun b o e=>by
 unfold dl at e;split at e
 ·cases e
 ·exact e
theorem zie (k:KpV Av H H'):Same (dl Av H) (dl Av H'):=fun b o e=>by
 unfold dl at e ⊢;split at e
 ·cases e
 ·rename_i n;rw[if_neg n];exact k b o n e
theorem zdd {b:Addr}{o:HO}(e:H b=some o)(h:b∉Av):dl Av H b=some o:=by rw[zse h];exact e
def zfp (Av:List Addr)(H:Hp):Prop:=∀ a∈Av,∀ us,H a≠some (.tup us)
theorem zfp.out (n:zfp Av H){b:Addr}{us:List V}(e:H b=some (.tup us)):b∉Av:=fun z=>n b z us e
theorem zfp.dl (n:zfp Av H){b:Addr}{us:List V}(e:H b=some (.tup us)):dl Av H b=some (.tup us):=zdd e (n.out e)
theorem zfp.tp (n:zfp Av H):Tp H (My.dl Av H):=fun _ _ e=>n.dl e
theorem KpV.of (s:Same H H'):KpV Av H H':=fun c o _ e=>s c o e
theorem KpV.tp (k:KpV Av H H')(n:zfp Av H):Tp H H':=fun b us e=>k b _ (n.out e) e
end
def zi8 (b:Bool)(row:List Int)(x:Int):List Int:=if b then putR row x else outR row x
def zaK (rows:List (List Int))(kn:Nat)(x:Int)(b:Bool):List (List Int):=rows.set kn (zi8 b (zai rows kn) x)
structure zd0 (H:Hp)(r:Addr)(as:List Addr)(rows:List (List Int)):Prop where
 at_:H r=some (.tup (as.map V.ref))
 rows:zaI H as rows
theorem zd0.tp {H H':Hp}{r:Addr}{as:List Addr}{rows:List (List Int)}(h:zd0 H r as rows)(e:Tp H H'):zd0 H' r as rows:=⟨e _ _ h.at_,ziI e h.rows⟩
theorem zd0.get {H:Hp}{r:Addr}{as:List Addr}{rows:List (List Int)}(h:zd0 H r as rows){k:Nat}(hk:k < rows.length):∃ a,atI (as.map V.ref) (k:Int)=some (.ref a)∧H a=some (.tup ((zai rows k).map V.int)):=by
 obtain ⟨a,h1,h2⟩:=h.rows.get hk;exact ⟨a,zcU h1,h2⟩
theorem zml {L d:Addr}{H':Hp}{p:Addr}{o:List V}(s:LS K L d H')(hp:H' p=some (.tup o)):p≠d:=fun z=>by
 obtain ⟨_,_,_,e,_⟩:=s.ex;rw[← z,hp]at e;cases e
theorem zro {L d:Addr}{H':Hp}{p:Addr}(s:LS K L d H')(hp:H' p=none):p≠d:=fun z=>by
 obtain ⟨_,_,_,e,_⟩:=s.ex;rw[← z,hp]at e;cases e
theorem zeV {L d:Addr}{H H':Hp}(s:LS K L d H)(k:Keep d H H'):Tp H H':=fun b us e=>k b _ (zml s e) e
theorem zoT {l:List Int}(h:l.Pairwise (· < ·)):l.Pairwise fun a b=>Srt.blt b a=false:=List.Pairwise.imp (fun {a b} (h:a < b)=>yah (by omega)) h
theorem zgR {l:List Int}(h:l.Pairwise (· < ·)):l.Nodup:=List.Pairwise.imp (fun {a b} (q:a < b)=>by omega) h
theorem zrR {l m:List Int}(h1:l.Pairwise (· < ·))(h2:m.Pairwise (· < ·))(e:∀ x,x∈l↔x∈m):l=m:=by
 have p:=(ycn (zgR h1) (zgR h2)).mpr e;rw[zdy p (zoT h1),zlC (zoT h2)]
def optL (ps:List Nat):List (Option Int):=none::ps.map fun (p:Nat)=>some (Int.ofNat p)
theorem znq {K:Frag}{H:Hp}(ps:List Nat):zak K H (optL ps) (zbB ps):=by
 refine .cons rfl ?_
 induction ps with
 | nil=>exact .nil
 | cons p ps ih=>exact .cons rfl ih
theorem zjE {K:Frag}{H:Hp}:∀{as:List Addr} {rows:List (List Int)},zaI H as rows→zak K H (rows.map Tup.mk) (as.map V.ref)
 | _,_,.nil=>.nil
 | _,_,.cons h t=>.cons ⟨_,_,rfl,SqT.of h,zak.ints⟩ (zjE t)
abbrev StD:Type:=Tup (Option Int)×Tup (Tup Int)
def zhP (ps:List Nat)(rows:List (List Int)):StD:=(⟨optL ps⟩,⟨rows.map Tup.mk⟩)
theorem zef {K:Frag}{H:Hp}{st t rs:Addr}{ps:List Nat}{rows:List (List Int)}{as:List Addr}(S:zby H st ps rows t rs as):Rep.has K H (zhP ps rows) (.ref st):=
 ⟨st,_,_,rfl,S.st,⟨_,_,rfl,SqT.of S.tr,znq ps⟩,⟨_,_,rfl,SqT.of S.rs,zjE S.at_⟩⟩
def zda (ps:List Nat)(rows:List (List Int)):List (List En):=(List.range (ps.length+1)).map (zam ps rows)
structure zjl (Av:List Addr)(H:Hp):Prop where
 some:∀ a∈Av,H a≠none
 tup:zfp Av H
theorem zjl.fresh {Av:List Addr}{H:Hp}(A:zjl Av H){b:Addr}(h:H b=none):b∉Av:=fun z=>A.some b z h
theorem zjl.same {Av:List Addr}{H H':Hp}(A:zjl Av H)(s:Same H H'):zjl Av H':=by
 refine ⟨fun a ha z=>?_,fun a ha us z=>?_⟩
 ·cases e:H a with
  | none=>exact A.some a ha e
  | some o=>
   rw[s _ _ e]at z;cases z
 ·cases e:H a with
  | none=>exact A.some a ha e
  | some o=>
   rw[s _ _ e]at z;exact A.tup a ha us (e.trans z)
abbrev ToT:Type:=Tri Int (List En) (List En)
section
variable {rows:List (List Int)}{kn:Nat}{x:Int}{b:Bool}
theorem zoy {row:List Int}(h:row.Pairwise (· < ·))(hb:b=!decide (x∈row)):(zi8 b row x).Pairwise (· < ·):=by
 cases b with
 | true=>exact zo7 h fun z=>by rw[yae z]at hb;cases hb
 | false=>exact h.sublist (zeT _ _)
theorem zig {row:List Int}(h:row.Pairwise (· < ·))(hb:b=!decide (x∈row)){y:Int}:y∈zi8 b row x↔(y=x∧b=true)∨(y≠x∧y∈row):=by
 cases b with
 | true=>
  have hx:x∉row:=fun z=>by rw[yae z]at hb;cases hb
  show y∈putR row x↔_;rw[zha];constructor
  ·rintro (z | z)
   ·exact .inr ⟨fun e=>hx (e ▸ z),z⟩
   ·exact .inl ⟨z,rfl⟩
  ·rintro (⟨z,_⟩ | ⟨_,z⟩)
   ·exact .inr z
   ·exact .inl z
 | false=>
  have hx:x∈row:=Classical.byContradiction fun z=>by rw[yah z]at hb;cases hb
  show y∈outR row x↔_;rw[zlU h hx];constructor
  ·rintro ⟨z1,z2⟩;exact .inr ⟨z2,z1⟩
  ·rintro (⟨_,z⟩ | ⟨z1,z2⟩)
   ·cases z
   ·exact ⟨z2,z1⟩
theorem zcr:(zaK rows kn x b).length=rows.length:=ybU
theorem zoz (hk:kn < rows.length):zai (zaK rows kn x b) kn=zi8 b (zai rows kn) x:=zdi hk
theorem zcg (hk:kn < rows.length):zbm (zaK rows kn x b)≤zbm rows+1:=by
 have:=zfF (r:=zi8 b (zai rows kn) x) hk;unfold zaK;cases b with
 | true=>
  have e:(zi8 true (zai rows kn) x).length=(zai rows kn).length+1:=zlL;omega
 | false=>
  have e:(zi8 false (zai rows kn) x).length≤(zai rows kn).length:=(zeT _ _).length_le;omega
end
structure znh (K:Frag)(CS mp:Addr)(H H':Hp)(sh dx p D:Addr)(us:List V)(m:Nat)(qs qs':List Addr)(st' t rs':Addr)(as':List Addr)(ps:List Nat)(rows rows':List (List Int))(kn:Nat):Prop where
 stops:zqu ps rows rows' kn m
 new:H D=none
 qn:∀ q∈qs',q∈qs∨H q=none
 kd:Kd sh p mp H H'
 shelf:zaC K CS H' sh dx st' p qs' ps rows' t rs' as'
 tab:za1 H' mp zcq lamQ
 at_:H' D=some (.lst us)
 told:zbN K H' D (fun b=>H b=none∧b∉qs') (zb5 ps rows rows' kn m) us
section
variable {K:Frag}{CS mp:Addr}{H H':Hp}{sh dx p D:Addr}{us:List V}{m:Nat}{qs qs':List Addr}{st' t rs':Addr}{as':List Addr}{ps:List Nat}{rows rows':List (List Int)}{kn:Nat}{Av:List Addr}
theorem znh.kp (X:znh K CS mp H H' sh dx p D us m qs qs' st' t rs' as' ps rows rows' kn)(h1:sh∈Av)(h2:p∈Av)(h3:mp∈Av):KpV Av H H':=fun b o n e=>X.kd b o (fun z=>n (z ▸ h1)) (fun z=>n (z ▸ h2)) (fun z=>n (z ▸ h3)) e
theorem zaC.same (S:zaC K CS H sh dx st' p qs ps rows t rs' as')(s:Same H H'):zaC K CS H' sh dx st' p qs ps rows t rs' as':=⟨s _ _ S.own,s _ _ S.ins,S.stand.same s,S.full.ext s.ext⟩
theorem zaC.ext (S:zaC K CS H sh dx st' p qs ps rows t rs' as')(e:Ext H H'):zaC K CS H' sh dx st' p qs ps rows t rs' as':=⟨e _ _ S.own (fun _ z=>nomatch z),e _ _ S.ins (fun _ z=>nomatch z),zb6 (fun b us h=>e _ _ h (fun _ z=>nomatch z)) S.stand,S.full.ext e⟩
theorem zaC.dl (S:zaC K CS H sh dx st' p qs ps rows t rs' as')(A:zfp Av H)(h1:sh∉Av)(h2:dx∉Av)(h3:p∉Av)(h4:∀ q∈qs,q∉Av):zaC K CS (dl Av H) sh dx st' p qs ps rows t rs' as':=by
 refine ⟨zdd S.own h2,zdd S.ins h1,zb6 A.tp S.stand,zdd S.full.at_ h3,S.full.len,S.full.nd,S.full.np,fun j q hq=>?_⟩;obtain ⟨ws,g1,g2⟩:=S.full.get j q hq;exact ⟨ws,zdd g1 (h4 q (yaD hq)),zaQ A.tp g2⟩
end
def Kp0 (H H':Hp):Prop:=∀ b o,(∀ tab,o≠.tbl tab)→H b=some o→H' b=some o
theorem zrp {L d:Addr}{H H':Hp}(s:LS K L d H)(g:Kp0 H H'):LS K L d H':=by
 obtain ⟨ns,a,l,e,q⟩:=s.ex;refine ⟨ns,a,l,g _ _ (fun _ z=>nomatch z) e,?_⟩;rcases q with (q | ⟨o,q⟩) | q
 ·exact .inl (.inl (g _ _ (fun _ z=>nomatch z) q))
 ·exact .inl (.inr ⟨o,g _ _ (fun _ z=>nomatch z) q⟩)
 ·exact .inr q
theorem zmk {L d:Addr}{Bv:List Addr}{H H':Hp}(s:LS K L d (dl Bv H))(k:Keep d H H')(s':LS K L d H'):LS K L d (dl Bv H'):=by
 obtain ⟨ns,a,l,e,q⟩:=s.ex;obtain ⟨ns',a',l',e',_⟩:=s'.ex;have nd:d∉Bv:=fun z=>by
  unfold dl at e;rw[if_pos z]at e;cases e
 have k':Keep d (dl Bv H) (dl Bv H'):=fun b o n h=>by
  unfold dl at h ⊢;split at h
  ·cases h
  ·rename_i nb;rw[if_neg nb];exact k b o n h
 exact ⟨ns,a',l',zdd e' nd,zfs e k' q⟩
theorem zeU {K:Frag}{CS:Addr}{H:Hp}{sh dx st:Addr}{ps:List Nat}{rows:List (List Int)}{t rs:Addr}{as:List Addr}{Q:VK}{E:XK}(S:zby H st ps rows t rs as)(hsh:H sh=none)(hdx:H dx=none)(hne:dx≠sh)
  (q:∀(p:Addr) (qs:List Addr) (H':Hp),H p=none→(∀ q∈qs,H q=none)→Same H H'→zaC K CS H' sh dx st p qs ps rows t rs as→Q .non H'):zjx K CS [.ref sh,.ref st] (upd (upd H dx (.own sh)) sh (.ins CS dx [])) Q E:=by
 have s1:=zah hdx (.own sh);have hsh1:upd H dx (.own sh) sh=none:=by rw[zaf (Ne.symm hne)];exact hsh
 have s2:=zah hsh1 (.ins CS dx []);have s12:=s1.trans s2;refine ⟨sh,dx,st,ps,rows,t,rs,as,rfl,s2 _ _ zab,zab,S.same s12,fun p qs H' hp hq hb S'=>?_⟩;exact q p qs H' (s12.free hp) (fun x hx=>s12.free (hq x hx)) (fun b o e=>hb b o (zad e hsh) (s12 _ _ e)) S'
theorem zpr {K:Frag}{H:Hp}{D:Addr}{Fr:Addr→Prop}{es:List ToT}{us:List V}{i:Nat}{v:V}(h:zbN K H D Fr es us)(e:us[i]?=some v):∃(e:ToT) (u g c:Addr) (gw cw:List V),es[i]?=some e∧v=.ref u∧H u=some (.tup [.int e.a,.ref g,.ref c])∧H g=some (.lst gw)∧zak K H e.b gw∧H c=some (.lst cw)∧zak K H e.c cw∧g≠D∧c≠D∧Fr g∧Fr c:=by
 induction h generalizing i with
 | nil=>simp at e
 | cons a _ ih=>
  cases i with
  | zero=>
   cases e
   obtain ⟨u,g,c,gw,cw,h⟩:=a.ex;exact ⟨_,u,g,c,gw,cw,rfl,h⟩
  | succ i=>exact ih e
theorem zoN {Av:List Addr}{H:Hp}(all:∀ b∈Av,∃ o,H b=some o∧∀ us,o≠.tup us):zjl Av H:=by
 refine ⟨fun b hb z=>?_,fun b hb us z=>?_⟩
 ·obtain ⟨o,e,_⟩:=all b hb;rw[e]at z;cases z
 ·obtain ⟨o,e,n⟩:=all b hb;rw[e]at z;exact n us (yad z)
structure SNow (K:Frag)(CS mp a:Addr)(H:Hp)(d sh p:Addr)(qs:List Addr)(ps:List Nat)(rows:List (List Int)):Prop where
 shelf:∃ dx st t rs as,zaC K CS H sh dx st p qs ps rows t rs as
 tab:za1 H mp zcq lamQ
 ls:LS K a d (dl [sh,p,mp] H)
section
variable {K:Frag}{CS mp a d sh p:Addr}{H H':Hp}{qs:List Addr}{ps:List Nat}{rows:List (List Int)}
theorem SNow.lsH (h:SNow K CS mp a H d sh p qs ps rows):LS K a d H:=h.ls.same za7
theorem SNow.same (h:SNow K CS mp a H d sh p qs ps rows)(s:Same H H'):SNow K CS mp a H' d sh p qs ps rows:=by
 obtain ⟨dx,st,t,rs,as,S⟩:=h.shelf;exact ⟨⟨dx,st,t,rs,as,S.same s⟩,h.tab.ext s.ext,h.ls.same (zie (KpV.of s))⟩
theorem SNow.take (h:SNow K CS mp a H d sh p qs ps rows)(k:Keep d H H')(s:LS K a d H'):SNow K CS mp a H' d sh p qs ps rows:=by
 obtain ⟨dx,st,t,rs,as,S⟩:=h.shelf;have e:=h.lsH.ext k;exact ⟨⟨dx,st,t,rs,as,S.ext e⟩,h.tab.ext e,zmk h.ls k s⟩
theorem SNow.new {H0:Hp}{dx st t rs:Addr}{as:List Addr}(s0:LS K a d H0)(hT:za1 H0 mp zcq lamQ)(s:Same H0 H)(hsh:H0 sh=none)(hp:H0 p=none)(S:zaC K CS H sh dx st p qs ps rows t rs as):SNow K CS mp a H d sh p qs ps rows:=by
 refine ⟨⟨dx,st,t,rs,as,S⟩,hT.ext s.ext,zrp s0 fun b o n e=>zdd (s _ _ e) fun z=>?_⟩;simp only[yak,yaS,or_false]at z;rcases z with rfl | rfl | rfl
 ·rw[hsh]at e;cases e
 ·rw[hp]at e;cases e
 ·obtain ⟨tab,e2,_⟩:=hT.ex;rw[e2]at e;exact n _ (yad e).symm
end
theorem zsc {K:Frag}{H:Hp}{p:Addr}{qs:List Addr}{n:Nat}{f:Nat→List En}{Av:List Addr}(F:FA K H p qs n f)(A:zfp Av H)(h1:p∉Av)(h2:∀ q∈qs,q∉Av):FA K (dl Av H) p qs n f:=
 ⟨zdd F.at_ h1,F.len,F.nd,F.np,fun j q hq=>by
  obtain ⟨ws,g1,g2⟩:=F.get j q hq;exact ⟨ws,zdd g1 (h2 q (yaD hq)),zaQ A.tp g2⟩⟩
theorem zmt {m:Nat}:∀{rows:List (List Int)},(∀ row∈rows,row.length≤m)→zbm rows≤rows.length * m
 | [],_=>yaF _
 | r::rows,h=>by
  have h1:=h r yaL;have h2:=zmt (m:=m) (rows:=rows) fun x hx=>h x (yaA _ hx);unfold zbm at h2 ⊢;rw[yar,yaH,yaI,Nat.succ_mul];omega
def zrk (b:Bool)(rows:List (List Int))(kn:Nat)(x:Int):Prop:=(b=true→zpV rows kn x)∧(b=false→zpW rows kn x)
theorem zl8 {b:Bool}{rows:List (List Int)}{kn:Nat}{x:Int}(hb:b=!decide (x∈zai rows kn))(hk:zbm rows < 300):zrk b rows kn x:=
 ⟨fun z=>⟨fun y=>(by rw[z,yae y]at hb;cases hb),hk⟩,fun z=>show x∈zai rows kn from Classical.byContradiction fun y=>by rw[z,yah y]at hb;cases hb⟩
theorem FA.snoc {K:Frag}{H:Hp}{p:Addr}{qs:List Addr}{n:Nat}{f:Nat→List En}{E:Addr}{ws:List V}(h:FA K H p qs n f)(hE:H E=none)(hw:zak K H (f n) ws):FA K (upd (upd H E (.lst ws)) p (.lst (qs.map V.ref++[.ref E]))) p (qs++[E]) (n+1) f:=by
 have s1:=zah hE (.lst ws);have e1:upd H E (.lst ws) E=some (.lst ws):=zab;have nEp:E≠p:=fun z=>by rw[z,h.at_]at hE;cases hE
 have p1:=s1 _ _ h.at_;have nq:E∉qs:=fun z=>by
  obtain ⟨i,hi,ei⟩:=yaz z;obtain ⟨ws,w1,_⟩:=h.get i E (by rw[yac hi,ei]);rw[hE]at w1;cases w1
 have hl:=h.len;refine ⟨by rw[zab,yav];rfl,by rw[yap,ybf,hl],?_,?_,fun j q hj=>?_⟩
 ·rw[ya7];exact ⟨h.nd,yaO.mpr ⟨(fun z=>nomatch z),ybg⟩,fun a ha b hb e=>nq ((e.trans (yaj.mp hb)) ▸ ha)⟩
 ·intro z;rcases yai.mp z with y | y
  ·exact h.np y
  ·exact nEp (yaj.mp y).symm
 ·rcases ybH j qs.length with c | c
  ·rw[ybl c]at hj;obtain ⟨us,g1,g2⟩:=h.get j q hj;have hne:q≠p:=fun z=>h.np (z ▸ yaD hj);exact ⟨us,by rw[zaf hne];exact s1 _ _ g1,zbj p1 (g2.mono s1.ext)⟩
  ·rw[ybe c]at hj;have hj0:j - qs.length=0:=by
    have:=(yam.mp hj).1;rw[ybf]at this;omega
   rw[hj0]at hj;cases hj
   have:j=n:=by omega
   subst this;exact ⟨ws,by rw[zaf nEp];exact e1,zbj p1 (hw.mono s1.ext)⟩
theorem zaC.kp0 {K:Frag}{CS:Addr}{H H':Hp}{sh dx st p:Addr}{qs:List Addr}{ps:List Nat}{rows:List (List Int)}{t rs:Addr}{as:List Addr}(S:zaC K CS H sh dx st p qs ps rows t rs as)(k:Kp0 H H'):zaC K CS H' sh dx st p qs ps rows t rs as:=by
 have tp:Tp H H':=fun b us e=>k _ _ (fun _ z=>nomatch z) e;refine ⟨k _ _ (fun _ z=>nomatch z) S.own,k _ _ (fun _ z=>nomatch z) S.ins,zb6 tp S.stand,S.full.tp tp fun b us e=>k _ _ (fun _ z=>nomatch z) e⟩
theorem zjr {H:Hp}{mp:Addr}{pos:Pos}{q:Str}{Av:List Addr}(x:za1 H mp pos q)(h:∀ b∈Av,∃ o,H b=some o∧(∀ tab,o≠.tbl tab)∧(∀ f,o≠.ext f)):za1 (dl Av H) mp pos q:=by
 obtain ⟨tab,e,r1,r2⟩:=x.ex;refine ⟨tab,zdd e fun z=>?_,r1,?_⟩
 ·obtain ⟨o,e2,n,_⟩:=h _ z;rw[e]at e2;exact n _ (yad e2).symm
 rcases r2 with z | ⟨c,z1,z2⟩
 ·exact .inl z
 ·refine .inr ⟨c,z1,?_⟩;refine zdd z2 fun z=>?_;obtain ⟨o,e2,_,n⟩:=h _ z;unfold zgn at z2;rw[z2]at e2;exact n _ (yad e2).symm
structure zgm (K:Frag)(CS mp:Addr)(H H':Hp)(sh dx p:Addr)(qs qs':List Addr)(st' t rs':Addr)(as':List Addr)(ps:List Nat)(rows':List (List Int)):Prop where
 qn:∀ q∈qs',q∈qs∨H q=none
 kd:Kd sh p mp H H'
 shelf:zaC K CS H' sh dx st' p qs' ps rows' t rs' as'
 tab:za1 H' mp zcq lamQ
section
variable {K:Frag}{CS mp a d sh p sh' p':Addr}{H H':Hp}{qs qs1 qs1':List Addr}{ps:List Nat}{rows rows1 rows':List (List Int)}{Av:List Addr}{dx D st' t rs':Addr}{zs:List V}{m kn:Nat}{as':List Addr}
theorem SNow.deedV (h:SNow K CS mp a (dl Av H) d sh p qs ps rows)(A:∀ b∈Av,∃ o,H b=some o∧(∀ us,o≠.tup us)∧(∀ tab,o≠.tbl tab)∧(∀ f,o≠.ext f)∧∀ s,o≠.own s)(X:zgm K CS mp H H' sh dx p qs qs1' st' t rs' as' ps rows'):SNow K CS mp a (dl Av H') d sh p qs1' ps rows':=by
 obtain ⟨dx0,st0,t0,rs0,as0,S⟩:=h.shelf;obtain ⟨tab,et,_⟩:=h.tab.ex;have dlS:∀{b:Addr} {o:HO},dl Av H b=some o→b∉Av:=fun {b o} e z=>by
  unfold dl at e;rw[if_pos z]at e;cases e
 have n1:=dlS S.ins;have n2:=dlS S.full.at_;have n3:=dlS et;have kp:∀ b o,b∈Av→H b=some o→H' b=some o:=fun b o hb e=>X.kd b o (fun z=>n1 (z ▸ hb)) (fun z=>n2 (z ▸ hb)) (fun z=>n3 (z ▸ hb)) e;have A':∀ b∈Av,∃ o,H' b=some o∧(∀ us,o≠.tup us)∧(∀ tab,o≠.tbl tab)∧(∀ f,o≠.ext f)∧∀ s,o≠.own s:=fun b hb=>by
  obtain ⟨o,e,r⟩:=A b hb;exact ⟨o,kp b o hb e,r⟩
 have no:zfp Av H':=fun b hb us z=>by
  obtain ⟨o,e,r,_⟩:=A' b hb;rw[e]at z;exact r _ (yad z)
 refine ⟨⟨dx,st',t,rs',as',X.shelf.dl no n1 (fun z=>?_) n2 fun q hq z=>?_⟩,zjr X.tab fun b hb=>?_,?_⟩
 ·obtain ⟨o,e,_,_,_,r⟩:=A' _ z;rw[X.shelf.own]at e;exact r _ (yad e).symm
 ·rcases X.qn q hq with y | y
  ·obtain ⟨j,hj,ej⟩:=yaz y;obtain ⟨ws,g,_⟩:=S.full.get j q (by rw[yac hj,ej]);exact dlS g z
  ·obtain ⟨o,e,_⟩:=A _ z;rw[e]at y;cases y
 ·obtain ⟨o,e,_,r1,r2,_⟩:=A' b hb;exact ⟨o,e,r1,r2⟩
 ·refine h.ls.same (zie fun b o n e=>?_);exact zdd (X.kd b o (fun z=>n (by simp[z])) (fun z=>n (by simp[z])) (fun z=>n (by simp[z])) (za7 _ _ e)) (dlS e)
theorem SNow.deedO (h:SNow K CS mp a (dl [sh',p'] H) d sh p qs ps rows)(X:zgm K CS mp H H' sh' dx p' qs1 qs1' st' t rs' as' ps rows'):SNow K CS mp a (dl [sh',p'] H') d sh p qs ps rows:=by
 obtain ⟨dx0,st0,t0,rs0,as0,S⟩:=h.shelf;obtain ⟨tab,et,_⟩:=h.tab.ex;have k0:∀ b o,b≠mp→dl [sh',p'] H b=some o→dl [sh',p'] H' b=some o:=fun b o n e=>by
  by_cases z:b∈[sh',p']
  ·unfold dl at e;rw[if_pos z]at e;cases e
  ·refine zdd (X.kd b o (fun y=>z (by simp[y])) (fun y=>z (by simp[y])) n (za7 _ _ e)) z
 refine ⟨⟨dx0,st0,t0,rs0,as0,S.kp0 fun b o n e=>k0 b o (fun z=>?_) e⟩,zjr X.tab fun b hb=>?_,h.ls.same (zie fun b o n e=>k0 b o (fun z=>n (by simp[z])) e)⟩
 ·rw[z,et]at e;exact n _ (yad e).symm
 ·simp only[yak,yaS,or_false]at hb;rcases hb with rfl | rfl
  ·exact ⟨_,X.shelf.ins,(fun _ z=>nomatch z),(fun _ z=>nomatch z)⟩
  ·exact ⟨_,X.shelf.full.at_,(fun _ z=>nomatch z),(fun _ z=>nomatch z)⟩
theorem SNow.takeV (h:SNow K CS mp a (dl Av H) d sh p qs ps rows)(k:Keep d H H')(s:LS K a d H'):SNow K CS mp a (dl Av H') d sh p qs ps rows:=by
 have k':Keep d (dl Av H) (dl Av H'):=fun b o n e=>by
  have nb:b∉Av:=fun z=>by unfold dl at e;rw[if_pos z]at e;cases e
  exact zdd (k b o n (za7 _ _ e)) nb
 exact h.take k' (zmk h.lsH k s)
end
structure TNow (K:Frag)(CS mp a:Addr)(H:Hp)(d sh1 p1 sh2 p2:Addr)(qs1 qs2:List Addr)(ps:List Nat)(rows1 rows2:List (List Int)):Prop where
 one:SNow K CS mp a (dl [sh2,p2] H) d sh1 p1 qs1 ps rows1
 two:SNow K CS mp a (dl [sh1,p1] H) d sh2 p2 qs2 ps rows2
section
variable {K:Frag}{CS mp a d sh1 p1 sh2 p2:Addr}{H H':Hp}{qs1 qs2 qs':List Addr}{ps:List Nat}{rows1 rows2 rows':List (List Int)}{dx D st' t rs':Addr}{zs:List V}{m kn:Nat}{as':List Addr}
theorem SNow.kinds {sh p:Addr}{qs:List Addr}{rows:List (List Int)}(h:SNow K CS mp a H d sh p qs ps rows):∀ b∈[sh,p],∃ o,H b=some o∧(∀ us,o≠.tup us)∧(∀ tab,o≠.tbl tab)∧(∀ f,o≠.ext f)∧∀ s,o≠.own s:=fun b hb=>by
 obtain ⟨dx,st,t,rs,as,S⟩:=h.shelf;simp only[yak,yaS,or_false]at hb;rcases hb with rfl | rfl
 ·exact ⟨_,S.ins,(fun _ z=>nomatch z),(fun _ z=>nomatch z),(fun _ z=>nomatch z),(fun _ z=>nomatch z)⟩
 ·exact ⟨_,S.full.at_,(fun _ z=>nomatch z),(fun _ z=>nomatch z),(fun _ z=>nomatch z),(fun _ z=>nomatch z)⟩
theorem TNow.real1 (h:TNow K CS mp a H d sh1 p1 sh2 p2 qs1 qs2 ps rows1 rows2):SNow K CS mp a H d sh1 p1 qs1 ps rows1:=h.one.same za7
theorem TNow.real2 (h:TNow K CS mp a H d sh1 p1 sh2 p2 qs1 qs2 ps rows1 rows2):SNow K CS mp a H d sh2 p2 qs2 ps rows2:=h.two.same za7
theorem TNow.same (h:TNow K CS mp a H d sh1 p1 sh2 p2 qs1 qs2 ps rows1 rows2)(s:Same H H'):TNow K CS mp a H' d sh1 p1 sh2 p2 qs1 qs2 ps rows1 rows2:=⟨h.one.same (zie (KpV.of s)),h.two.same (zie (KpV.of s))⟩
theorem TNow.take (h:TNow K CS mp a H d sh1 p1 sh2 p2 qs1 qs2 ps rows1 rows2)(k:Keep d H H')(s:LS K a d H'):TNow K CS mp a H' d sh1 p1 sh2 p2 qs1 qs2 ps rows1 rows2:=⟨h.one.takeV k s,h.two.takeV k s⟩
theorem TNow.swap (h:TNow K CS mp a H d sh1 p1 sh2 p2 qs1 qs2 ps rows1 rows2):TNow K CS mp a H d sh2 p2 sh1 p1 qs2 qs1 ps rows2 rows1:=⟨h.two,h.one⟩
theorem TNow.done (h:TNow K CS mp a H d sh1 p1 sh2 p2 qs1 qs2 ps rows1 rows2)(X:zgm K CS mp H H' sh1 dx p1 qs1 qs' st' t rs' as' ps rows'):TNow K CS mp a H' d sh1 p1 sh2 p2 qs' qs2 ps rows' rows2:=
 ⟨h.one.deedV h.real2.kinds X,h.two.deedO X⟩
end
theorem zfO {ps:List Nat}{rows rows':List (List Int)}{k:Nat}:∀{m j:Nat},upN ps k m=some j→(zb5 ps rows rows' k m).length=m:=fun {m}=>by
 induction m with
 | zero=>exact fun _=>rfl
 | succ m ih=>
  intro j h;obtain ⟨i,h1,_⟩:=zeb h;show (zb5 ps rows rows' k m++((upN ps k m).map (zgV ps rows rows')).toList).length=_;rw[yap,ih h1,h1];rfl
theorem znr {ps:List Nat}{rows rows':List (List Int)}{k:Nat}{e:ToT}:∀{m i:Nat},(zb5 ps rows rows' k m)[i]?=some e→∃ j,upN ps k i=some j∧e=zgV ps rows rows' j:=fun {m}=>by
 induction m with
 | zero=>exact fun {i} h=>by simp[zb5]at h
 | succ m ih=>
  intro i h;have h:(zb5 ps rows rows' k m++((upN ps k m).map (zgV ps rows rows')).toList)[i]?=some e:=h;rcases ybH i (zb5 ps rows rows' k m).length with c | c
  ·rw[ybl c]at h;exact ih h
  ·rw[ybe c]at h;cases hj:upN ps k m with
   | none=>
    rw[hj]at h;simp at h
   | some j=>
    have hl:=zfO (rows:=rows) (rows':=rows') hj;rw[hj,hl]at h;have hi:i - m=0:=by
     have:=(yam.mp h).1;have e1:((some j).map (zgV ps rows rows')).toList.length=1:=rfl;omega
    have:i=m:=by omega
    subst this;rw[hi]at h;exact ⟨j,hj,(yad h).symm⟩
theorem zqQ {l:List En}{a:En}:a∈l→∃ k,l[k]?=some a∧(∀ j,j < k→l[j]?≠some a)∧(l.Nodup→l.eraseIdx k=l.filter fun e=>decide (e≠a)):=by
 induction l with
 | nil=>exact fun h=>nomatch h
 | cons b l ih=>
  intro h;by_cases c:b=a
  ·subst c;refine ⟨0,rfl,fun j hj=>absurd hj (yby _),fun nd=>?_⟩;rw[yaO]at nd;rw[List.eraseIdx_zero,List.tail_cons,ybO (by simp)];refine (ycm.mpr fun e he=>?_).symm;have:e≠b:=fun z=>nd.1 (z ▸ he);simpa using this
  ·obtain ⟨k,h1,h2,h3⟩:=ih ((yak.mp h).resolve_left fun z=>c z.symm);refine ⟨k+1,by rw[ybI];exact h1,fun j hj=>?_,fun nd=>?_⟩
   ·cases j with
    | zero=>exact fun z=>c (yad z)
    | succ j=>
     rw[ybI];exact h2 j (by omega)
   ·rw[yaO]at nd;rw[List.eraseIdx_cons_succ,h3 nd.2,ybq (by simpa using c)]
theorem zmE {K:Frag}{H:Hp}{es:List En}{ws:List V}(h:zak K H es ws)(k:Nat):zak K H (es.eraseIdx k) (ws.eraseIdx k):=by
 induction h generalizing k with
 | nil=>exact .nil
 | cons a r ih=>
  cases k with
  | zero=>exact r
  | succ k=>exact .cons a (ih k)
theorem FA.upd' {K:Frag}{H:Hp}{p:Addr}{qs:List Addr}{n:Nat}{f:Nat→List En}(h:FA K H p qs n f){k:Nat}{q:Addr}{ws us:List V}{l:List En}(hk:qs[k]?=some q)(hq:H q=some (.lst us))(hw:zak K H l ws):FA K (upd H q (.lst ws)) p qs n (fun j=>if j=k then l else f j):=by
 have hqp:p≠q:=fun z=>h.np (z ▸ yaD hk);refine ⟨by rw[zaf hqp];exact h.at_,h.len,h.nd,h.np,fun j q2 hj=>?_⟩;show ∃ ws,_∧zak K _ (if j=k then l else f j) ws
 by_cases c:j=k
 ·subst c;rw[hk]at hj;have:=yad hj;subst this;rw[if_pos rfl];exact ⟨_,zab,zbj hq hw⟩
 ·rw[if_neg c];obtain ⟨us,h1,h2⟩:=h.get j q2 hj;have hne:q2≠q:=fun z=>by
   subst z;obtain ⟨i1,e1⟩:=yam.mp hj;obtain ⟨i2,e2⟩:=yam.mp hk;have old:=yaV.mp h.nd;rcases Nat.lt_or_gt_of_ne c with z | z
   ·exact old j k i1 i2 z (e1.trans e2.symm)
   ·exact old k j i2 i1 z (e2.trans e1.symm)
  exact ⟨us,by rw[zaf hne];exact h1,zbj hq h2⟩
def cutE (f g:List En):List En:=f.filter fun e=>decide (e∉g)
theorem zql {f g:List En}{a:En}:(cutE f g).filter (fun e=>decide (e≠a))=cutE f (g++[a]):=by
 unfold cutE;rw[List.filter_filter];refine List.filter_congr fun e _=>?_;rw[ybS,ybs,decide_eq_true_iff,decide_eq_true_iff,decide_eq_true_iff,yai,yaj,not_or];exact And.comm
theorem zqm {f f':List En}(h1:Rise f)(h2:Rise f'):zcG (cutE f (zaH f f')++zaH f' f)=f':=by
 have n1:=zbh h1;have n2:=zbh h2;have mc:∀ e,e∈cutE f (zaH f f')↔e∈f∧e∈f':=fun e=>by
  unfold cutE;rw[ya5,decide_eq_true_iff,zaL,not_and,Classical.not_not];exact ⟨fun zq0=>(by obtain ⟨a,b⟩:=zq0;exact ⟨a,b a⟩),fun zq1=>(by obtain ⟨a,b⟩:=zq1;exact ⟨a,fun _=>b⟩)⟩
 have nd:(cutE f (zaH f f')++zaH f' f).Nodup:=by
  rw[ya7];refine ⟨n1.filter _,zcS n2,fun a ha b hb z=>?_⟩;subst z;exact (zaL.mp hb).2 ((mc a).mp ha).1
 refine (zdy ((ycn n2 nd).mpr fun e=>?_) (List.Pairwise.imp (fun {a b} h=>zil h) h2)).symm;rw[yai,mc,zaL];by_cases c:e∈f
 ·simp[c]
 ·simp[c]
theorem zns {ps:List Nat}{rows rows':List (List Int)}{k m:Nat}(h:upN ps k m=none∨∃ j,upN ps k m=some j∧zam ps rows' j=zam ps rows j):upN ps k (zb5 ps rows rows' k m).length=none∨∃ j,upN ps k (zb5 ps rows rows' k m).length=some j∧zam ps rows' j=zam ps rows j:=by
 rcases h with h | ⟨j,h1,h2⟩
 ·refine .inl ?_
  induction m with
  | zero=>exact h
  | succ m ih=>
   cases e:upN ps k m with
   | none=>
    have e1:zb5 ps rows rows' k (m+1)=zb5 ps rows rows' k m:=by
     show zb5 ps rows rows' k m++((upN ps k m).map (zgV ps rows rows')).toList=_;rw[e];exact yaJ _
    rw[e1];exact ih e
   | some j=>
    have e1:(zb5 ps rows rows' k (m+1)).length=m+1:=by
     show (zb5 ps rows rows' k m++((upN ps k m).map (zgV ps rows rows')).toList).length=_;rw[yap,zfO e,e];rfl
    rw[e1];exact h
 ·rw[zfO h1];exact .inr ⟨j,h1,h2⟩
theorem zoB (f:List En):cutE f []=f:=ycm.mpr fun e _=>yae yaS
def zfQ (K:Frag)(CS:Addr):Sp:=fun vs H Q _=>∃(sh dx st p t:Addr) (qs:List Addr) (ps:List Nat) (rows:List (List Int)) (t1 rs:Addr) (as:List Addr),vs=[.ref sh,.ref t]∧zaC K CS H sh dx st p qs ps rows t1 rs as∧H t=some (.tup (zbB ps))∧
 ∀(pa:Addr) (qa:List Addr) (H':Hp),H pa=none→(∀ q∈qa,H q=none)→Same H H'→FA K H' pa qa (ps.length+1) (zam ps rows)→Q (.ref pa) H'
theorem zku (T:Txt K mg){CS:Addr}(O:OwnC K mg CS)(qaN:DF K mg "_law_fulls_of" zcz zbI)(qb7:FM P w K mg base CS 4 "full" zca (zly K CS)):FC P w K mg base 5 "_law_fulls_of" zbI (zfQ K CS):=by
 refine qaN.ok qbN (fun vs H Q E h=>?_) (fun f cdv A outer s H vs Q E hr h=>?_)
 ·obtain ⟨sh,dx,st,p,t,qs,ps,rows,t1,rs,as,rfl,_⟩:=h;rfl
 obtain ⟨sh,dx,st,p,t,qs,ps,rows,t1,rs,as,rfl,S,ht,q⟩:=h;refine ⟨_,(zae (zav (zcm (N:=["_law_knot","_law_shelf"]) (own:=1) (cap:=[0]) rfl (zbJ rfl T.qaj (zaa (zap zan rfl T.qan boot_len (zaa (pv 1) zac)) zac)) ⟨rfl,rfl,rfl,rfl,rfl,rfl⟩ (fun _ _ _ _ _=>(zat (i:=0) (show List.Nodup (["_law_knot","_law_shelf"]:List Str) by decide +kernel) rfl (Or.inl rfl))) (fun _ _ _ _ _=>zc1) (fun _ _ _ _ _=>(ziK qb7 O.cl hr (pv 1) (zaa (pv 0) zac)))))),?_⟩;have el:=zas ps;have hfew:=S.stand.few;refine ⟨_,rfl,_,_,rfl,.inr (SqT.of ht),_,rfl,by rw[el];omega,by rw[el];omega,fun pa hpa=>?_⟩;rw[el,ya9];refine ze2 (n:=ps.length+1) (fun i σ H2=>∃(x0:Option V) (qa:List Addr),σ=[x0,some (.ref sh)]∧FA K H2 pa qa i (zam ps rows)∧(∀ q∈qa,H q=none)∧But pa H H2) ?_ ?_ ?_
 ·exact ⟨_,[],rfl,⟨zab,rfl,ybg,(fun z=>nomatch z),fun j q e=>by simp at e⟩,(fun q z=>nomatch z),fun b o n e=>by rw[zaf n];exact e⟩
 ·rintro i2 m σ H2 hm hi2 ⟨x0,qa,rfl,F2,hqa,k2⟩;rw[ybP];have s2:Same H H2:=fun b o e=>k2 b o (zad e hpa) e;have S2:=S.same s2;have hql:=F2.len;refine zdr ?_;refine ⟨_,rfl,sh,dx,_,rfl,S2.ins,rfl,_,rfl,sh,dx,st,p,i2,qs,ps,rows,t1,rs,as,rfl,S2,hi2,fun B0 ws hB0 hw=>?_⟩;have nB:B0≠pa:=fun z=>by rw[z,F2.at_]at hB0;cases hB0
  refine ⟨_,by rw[zaf (Ne.symm nB)];exact F2.at_,zaq (by rw[yab];omega),m - 1,by omega,by omega,_,_,rfl,F2.snoc hB0 hw,fun q hq=>?_,fun b o n e=>by rw[zaf n];exact zah hB0 _ _ _ (k2 b o n e)⟩;rcases yai.mp hq with y | y
  ·exact hqa q y
  ·rw[yaj.mp y];exact s2.free hB0
 rintro σ H3 ⟨x0,qa,rfl,F3,hqa,k3⟩;exact q pa qa H3 hpa hqa (fun b o e=>k3 b o (zad e hpa) e) F3
structure KpQ (pa:Addr)(qa:List Addr)(H H':Hp):Prop where
 kp:∀ b o,b≠pa→b∉qa→H b=some o→H' b=some o
 sm:∀ b,H' b=none→H b=none
theorem KpQ.same {pa:Addr}{qa:List Addr}{H H1 H2:Hp}(k:KpQ pa qa H H1)(s:Same H1 H2):KpQ pa qa H H2:=⟨fun b o n1 n2 e=>s _ _ (k.kp b o n1 n2 e),fun b e=>k.sm b (s.free e)⟩
theorem KpQ.put {pa:Addr}{qa:List Addr}{H H1:Hp}{q:Addr}{o:HO}(k:KpQ pa qa H H1)(hq:q=pa∨q∈qa∨H q=none):KpQ pa qa H (upd H1 q o):=by
 refine ⟨fun b o' n1 n2 e=>?_,fun b e=>?_⟩
 ·rw[zaf (fun z=>?_)]
  ·exact k.kp b o' n1 n2 e
  ·subst z;rcases hq with y | y | y
   ·exact n1 y
   ·exact n2 y
   ·rw[y]at e;cases e
 ·by_cases z:b=q
  ·subst z;rw[zab]at e;cases e
  ·rw[zaf z]at e;exact k.sm b e
def zdg (K:Frag)(CS mp:Addr):Sp:=fun vs H Q _=>∃(sh dx st p t:Addr) (kn:Nat) (x:Int) (b:Bool) (qs:List Addr) (ps:List Nat) (rows:List (List Int)) (t1 rs:Addr) (as:List Addr),vs=[.ref sh,.ref t,.int kn,.int x,.bl b]∧zaC K CS H sh dx st p qs ps rows t1 rs as∧H t=some (.tup (zbB ps))∧ps.length≤20∧kn < ps.length+1∧zfb x∧b=!decide (x∈zai rows kn)∧zbm rows < 200∧za1 H mp zcq lamQ∧
 ∀(qs':List Addr) (st' rs':Addr) (as':List Addr) (H':Hp),zgm K CS mp H H' sh dx p qs qs' st' t1 rs' as' ps (zaK rows kn x b)→Q (.bl true) H'
theorem zpT (T:Txt K mg){mp:Addr}{CS:Addr}(O:OwnC K mg CS)(qb0:DF K mg "_law_done" zfz zdj)(qad:FC P w K mg base 5 "_law_fulls_of" zbI (zfQ K CS))(qck:FM P w K mg base CS 8 "put" zcB (zjz K CS mp putR zpV))(qcl:FM P w K mg base CS 8 "out" zcC (zjz K CS mp outR zpW)):FC P w K mg base 9 "_law_done" zdj (zdg K CS mp):=by
 refine qb0.ok qag (fun vs H Q E h=>?_) (fun f cdv A outer s H vs Q E hr h=>?_)
 ·obtain ⟨sh,dx,st,p,t,kn,x,b,qs,ps,rows,t1,rs,as,rfl,_⟩:=h;rfl
 obtain ⟨sh,dx,st,p,t,kn,x,b,qs,ps,rows,t1,rs,as,rfl,S,ht,hps,hkn,hx,hb,hkeys,hT,q⟩:=h;refine ⟨_,(zau (zar (i:=5) qag.nd rfl (Or.inl rfl) (zax qad hr (zaa (pv 0) (zaa (pv 1) zac))))
   (zbF (zaW (zbV (pv 4)) (zae (zar (i:=6) qag.nd rfl (Or.inl rfl) (ziK qck O.cl hr (pv 0) (zaa (pv 2) (zaa (pv 3) zac))))) (zae (zar (i:=6) qag.nd rfl (Or.inl rfl) (ziK qcl O.cl hr (pv 0) (zaa (pv 2) (zaa (pv 3) zac))))))
   (zau (zar (i:=7) qag.nd rfl (Or.inl rfl) (pv 2))
   (zau (zbd PassesOwn.never rfl (zb2 (pv 6)) (zgB rfl (za5 (zat (i:=8) qag.nd rfl (Or.inl rfl)) (za5 (zat (i:=9) qag.nd rfl (Or.inl rfl)) (za5 (zat (i:=10) qag.nd rfl (Or.inl rfl)) zeR)))) (zbF (zaW (zaw zq9 (pv 8) (pv 7) (zaF _)) (zae (zav zdU)) zay)
   (zau (zbd PassesOwn.never rfl (zb2 (pv 9)) (zat (i:=11) qag.nd rfl (Or.inl rfl)) (zbF (zaW (zaw (zlX (Int×Int) (huD hr)) (pv 11) (zaO zbe (pv 5) (pv 8) (fun _ _=>rfl)) (by with_unfolding_all rfl)) (zae (zav zdU)) zay)
   (zae (zbx (zfn F.plainAttrs_list F.slot_list_remove F.type_list_remove (zky (Int×Int) (huD hr)) (zaO zbe (pv 5) (pv 8) (fun _ _=>rfl)) (zaa (pv 11) zac))))))
   (zau (zbd PassesOwn.never rfl (zb2 (pv 10)) (zat (i:=11) qag.nd rfl (Or.inl rfl)) (zbF (zaW (PW.pt (zlK (zaw (zo9 (Int×Int) (huD hr)) (pv 11) (zaO zbe (pv 5) (pv 8) (fun _ _=>rfl)) (by with_unfolding_all rfl)) (zjH (zaw (zo9 (Int×Int) (huD hr)) (pv 11) (pv 9) (by with_unfolding_all rfl))))) (zae (zav zdU)) zay)
   (zae (zbx (zfn F.plainAttrs_list F.slot_list_append F.type_list_append zbo (zaO zbe (pv 5) (pv 8) (fun _ _=>rfl)) (zaa (pv 11) zac))))))
   (zau (zjM (zap (zdS (Int×Int)) rfl T.qbm boot_sorted (zaa (zaO zbe (pv 5) (pv 8) (fun _ _=>rfl)) zac)) (zjN (pv 5) (pv 8) zfr))
   (zae (zar (i:=7) qag.nd rfl (Or.inl rfl) (zaO za0 (pv 1) (pv 8) (fun _ _=>rfl)))))))))
   (zae (zav (zd6 (zjS (List (List (Int×Int))) (huD hr)) (zax qad hr (zaa (pv 0) (zaa (pv 1) zac))) (pv 5) (zaF _)))))))),?_⟩
 have hlen:=S.stand.len;have T0:=S.stand.T;have R0:=S.stand.R;have hkr:kn < rows.length:=by omega
 have hok:=zl8 (rows:=rows) (kn:=kn) (x:=x) hb (by omega);intro N1 n1;refine ⟨_,rfl,_,rfl,sh,dx,st,p,t,qs,ps,rows,t1,rs,as,rfl,S,ht,fun pa qa H1 hpa hqa s1 F1=>n1 _ _ ?_⟩;have S1:=S.same s1;refine ⟨fun σ' HE=>∃ D us m qs' st' rs' as'',σ'=[some (.ref sh),some (.ref t),some (.int kn),some (.int x),some (.bl b),some (.ref pa),some (.ref D),none,none,none,none,none]∧znh K CS mp H1 HE sh dx p D us m qs qs' st' t1 rs' as'' ps rows (zaK rows kn x b) kn,?_,?_⟩
 ·intro N2 n2;refine ⟨_,rfl,_,rfl,?_⟩;cases b with
  | true=>
   refine iteT ?_;refine ⟨_,rfl,sh,dx,_,rfl,S1.ins,rfl,_,rfl,_,rfl,sh,dx,st,p,kn,x,qs,ps,rows,t1,rs,as,rfl,S1,hkn,hx,hok.1 rfl,hT.ext s1.ext,fun D us m qs' st' rs' as' H' h1 h2 h3 h4 h5 h6 h7 h8=>?_⟩;exact n2 _ _ ⟨D,us,m,qs',st',rs',as',rfl,⟨h1,h2,h3,h4,h5,h6,h7,h8⟩⟩
  | false=>
   refine iteF ?_;refine ⟨_,rfl,sh,dx,_,rfl,S1.ins,rfl,_,rfl,_,rfl,sh,dx,st,p,kn,x,qs,ps,rows,t1,rs,as,rfl,S1,hkn,hx,hok.2 rfl,hT.ext s1.ext,fun D us m qs' st' rs' as' H' h1 h2 h3 h4 h5 h6 h7 h8=>?_⟩;exact n2 _ _ ⟨D,us,m,qs',st',rs',as',rfl,⟨h1,h2,h3,h4,h5,h6,h7,h8⟩⟩
 rintro _ HE ⟨D,us,m,qs',st',rs',as',rfl,X⟩;have X0:=X;obtain ⟨tb,hmp,_⟩:=hT.ex;have Ap:zjl [sh,p,mp] H:=zoN fun b hb=>by
  simp only[yak,yaS,or_false]at hb;rcases hb with rfl | rfl | rfl
  ·exact ⟨_,S.ins,fun _ z=>by cases z⟩
  ·exact ⟨_,S.full.at_,fun _ z=>by cases z⟩
  ·exact ⟨_,hmp,fun _ z=>by cases z⟩
 have A1:=Ap.same s1;have kE:KpV [sh,p,mp] H1 HE:=X.kp (by simp) (by simp) (by simp);have FE:FA K HE pa qa (ps.length+1) (zam ps rows):=((zsc F1 A1.tup (Ap.fresh hpa) fun q hq=>Ap.fresh (hqa q hq)).ext (zie kE).ext).ext za7.ext;have tpE:Tp H1 HE:=kE.tp A1.tup;have tE:=tpE _ _ (s1 _ _ ht);have hlen':(zaK rows kn x b).length=ps.length+1:=by rw[zcr];exact hlen
 have R':zaz (zaK rows kn x b):=X.shelf.stand.R;have hkd:=zcg (x:=x) (b:=b) hkr;have hBut:zeI kn rows (zaK rows kn x b):=ze5;have hri:∀ j,j < ps.length+1→Rise (zam ps rows j):=fun j hj=>zaG T0 R0 hj;have hri':∀ j,j < ps.length+1→Rise (zam ps (zaK rows kn x b) j):=fun j hj=>zaG T0 R' hj;have hfz:∀ j,j < ps.length+1→(zam ps rows j).length≤400:=fun j hj=>by
  have:=zeX T0 hlen hj;omega
 have hfz':∀ j,j < ps.length+1→(zam ps (zaK rows kn x b) j).length≤402:=fun j hj=>by
  have:=zeX T0 hlen' hj;omega
 have frD:∀{c:Addr},H1 c=none→c≠pa∧c∉qa:=fun {c} e=>by
  refine ⟨fun z=>?_,fun z=>?_⟩
  ·rw[z,F1.at_]at e;cases e
  ·obtain ⟨j,hj,ej⟩:=yaz z;obtain ⟨ws,g,_⟩:=F1.get j c (by rw[yac hj,ej]);rw[e]at g;cases g
 have hst:=X.stops;have told:=X.told;have hD:=X.at_;have nD:=frD X.new;have fin:∀(qf:List Addr) (HF:Hp),KpQ pa qa HE HF→FA K HF pa qf (ps.length+1) (zam ps (zaK rows kn x b))→zgm K CS mp H HF sh dx p qs qs' st' t1 rs' as' ps (zaK rows kn x b):=fun qf HF kF FF=>by
  have np:∀ b∈pa::qa,∃ o,H1 b=some o∧(∀ us,o≠.tup us)∧(∀ tab,o≠.tbl tab)∧(∀ f,o≠.ext f)∧∀ s,o≠.own s:=fun b hb=>by
   rcases yak.mp hb with z | z
   ·rw[z];exact ⟨_,F1.at_,(fun _ z=>nomatch z),(fun _ z=>nomatch z),(fun _ z=>nomatch z),(fun _ z=>nomatch z)⟩
   ·obtain ⟨j,hj,ej⟩:=yaz z;obtain ⟨ws,g,_⟩:=F1.get j b (by rw[yac hj,ej]);exact ⟨_,g,(fun _ z=>nomatch z),(fun _ z=>nomatch z),(fun _ z=>nomatch z),(fun _ z=>nomatch z)⟩
  have nf:∀{c:Addr} {o:HO},H c=some o→c∉pa::qa:=fun {c o} e z=>by
   rcases yak.mp z with y | y
   ·rw[y,hpa]at e;cases e
   ·rw[hqa c y]at e;cases e
  have npE:∀ b∈pa::qa,∃ o,HE b=some o∧(∀ us,o≠.tup us)∧(∀ tab,o≠.tbl tab)∧(∀ f,o≠.ext f)∧∀ s,o≠.own s:=fun b hb=>by
   obtain ⟨o,e,r⟩:=np b hb;refine ⟨o,kE b o (fun z=>?_) e,r⟩;have:H b=none:=by
    rcases yak.mp hb with y | y
    ·rw[y];exact hpa
    ·exact hqa b y
   exact Ap.some b z this
  have no:zfp (pa::qa) HE:=fun b hb us z=>by
   obtain ⟨o,e,r,_⟩:=npE b hb;rw[e]at z;exact r _ (yad z)
  have sF:Same (dl (pa::qa) HE) HF:=fun b o e=>by
   have nb:b∉pa::qa:=fun z=>by unfold dl at e;rw[if_pos z]at e;cases e
   exact kF.kp b o (fun z=>nb (by simp[z])) (fun z=>nb (yaA _ z)) (za7 _ _ e)
  refine ⟨fun q hq=>(X.qn q hq).imp id fun z=>s1.free z,fun b o n1 n2 n3 e=>?_,(X.shelf.dl no (nf S.ins) (fun z=>?_) (nf S.full.at_) fun q hq z=>?_).same sF,(zjr X.tab fun b hb=>?_).ext sF.ext⟩
  ·have nb:=nf e;exact kF.kp b o (fun z=>nb (by simp[z])) (fun z=>nb (yaA _ z)) (X.kd b o n1 n2 n3 (s1 _ _ e))
  ·obtain ⟨o,e,_,_,_,r⟩:=npE _ z;rw[X.shelf.own]at e;exact r _ (yad e).symm
  ·rcases X.qn q hq with y | y
   ·obtain ⟨j,hj,ej⟩:=yaz y;obtain ⟨ws,g,_⟩:=S.full.get j q (by rw[yac hj,ej]);exact nf g z
   ·obtain ⟨o,e,_⟩:=np _ z;rw[e]at y;cases y
  ·obtain ⟨o,e,_,r1,r2,_⟩:=npE b hb;exact ⟨o,e,r1,r2⟩
 intro N3 n3;refine ⟨_,rfl,n3 _ _ ?_⟩;intro N4 n4;refine ⟨_,rfl,D,rfl,⟨_,SqL.of hD⟩,?_⟩;refine zcF (xs:=us) (fun i σ H'=>∃(qf:List Addr) (x8 x9 x10 x11:Option V),σ=[some (.ref sh),some (.ref t),some (.int kn),some (.int x),some (.bl b),some (.ref pa),some (.ref D),some (upV (upN ps kn i)),x8,x9,x10,x11]∧FA K H' pa qf (ps.length+1) (stL ps rows (zaK rows kn x b) kn i)∧(∀ q∈qf,q∈qa∨HE q=none)∧KpQ pa qa HE H') ?_ ?_ ?_ ?_
 ·exact ⟨qa,_,_,_,_,rfl,FE,fun q hq=>.inl hq,⟨fun b o _ _ e=>e,fun b e=>e⟩⟩
 ·rintro i σ H' _ ⟨qf,x8,x9,x10,x11,rfl,_,_,k'⟩;exact SqL.of (k'.kp _ _ nD.1 nD.2 hD)
 ·rintro i v σ H2 hv ⟨qf,x8,x9,x10,x11,rfl,F2,hq2,k2⟩;obtain ⟨e,u,g,c,gw,cw,he,rfl,hu,hg,hgw,hc,hcw,_,_,⟨fg,_⟩,⟨fc,_⟩⟩:=zpr told hv;obtain ⟨j,hj,rfl⟩:=znr he;have hjn:=zfN T0 hkn hj;have ngu:=frD fg;have ncu:=frD fc;have tp2:Tp HE H2:=fun b us e=>by
   by_cases z1:b=pa
   ·rw[z1,FE.at_]at e;cases e
   ·by_cases z2:b∈qa
    ·obtain ⟨j,hj,ej⟩:=yaz z2;obtain ⟨ws,g,_⟩:=FE.get j b (by rw[yac hj,ej]);rw[g]at e;cases e
    ·exact k2.kp b _ z1 z2 e
  refine ⟨u,_,rfl,SqT.of (tp2 _ _ hu),rfl,_,_,rfl,_,_,rfl,_,_,rfl,rfl,?_⟩;refine zmC fun N B R hN hB hR=>?_;have hgw':zak K HE (zaH (zam ps rows j) (zam ps (zaK rows kn x b) j)) gw:=hgw;have hcw':zak K HE (zaH (zam ps (zaK rows kn x b) j) (zam ps rows j)) cw:=hcw;clear hgw hcw he;generalize hgo:zaH (zam ps rows j) (zam ps (zaK rows kn x b) j)=go at hgw';generalize hco:zaH (zam ps (zaK rows kn x b) j) (zam ps rows j)=co at hcw';have gom:∀ e,e∈go↔e∈zam ps rows j∧e∉zam ps (zaK rows kn x b) j:=fun e=>by rw[← hgo];exact zaL
  have com:∀ e,e∈co↔e∈zam ps (zaK rows kn x b) j∧e∉zam ps rows j:=fun e=>by rw[← hco];exact zaL
  have gnd:go.Nodup:=by rw[← hgo];exact zcS (zbh (hri j hjn))
  have cnd:co.Nodup:=by rw[← hco];exact zcS (zbh (hri' j hjn))
  have fnd:=zbh (hri j hjn);have hz1:=hfz j hjn;have hz2:=hfz' j hjn;have gz:go.length≤400:=by rw[← hgo];exact yaw (ya2 _ _) hz1
  have cz:co.length≤402:=by rw[← hco];exact yaw (ya2 _ _) hz2
  have gl:=hgw'.length;have cl:=hcw'.length;rw[hj];refine ⟨fun σ' H'=>σ'=[some (.ref sh),some (.ref t),some (.int kn),some (.int x),some (.bl b),some (.ref pa),some (.ref D),some (.int j),some (.int j),some (.ref g),some (.ref c),x11]∧H2=H',?_,?_⟩
  ·intro N5 n5;refine ⟨_,rfl,_,rfl,rfl,_,rfl,?_⟩;exact zh9 rfl (n5 _ _ ⟨rfl,rfl⟩)
  rintro _ _ ⟨rfl,rfl⟩;intro N6 n6;have g2:=k2.kp _ _ ngu.1 ngu.2 hg;refine ⟨_,rfl,g,rfl,⟨_,SqL.of g2⟩,?_⟩;refine zcF (xs:=gw) (fun i2 σ H'=>∃(x11:Option V),σ=[some (.ref sh),some (.ref t),some (.int kn),some (.int x),some (.bl b),some (.ref pa),some (.ref D),some (.int j),some (.int j),some (.ref g),some (.ref c),x11]∧FA K H' pa qf (ps.length+1) (fun y=>if y=j then cutE (zam ps rows j) (go.take i2) else stL ps rows (zaK rows kn x b) kn i y)∧KpQ pa qa HE H'∧Tp HE H') ?_ ?_ ?_ ?_
  ·refine ⟨_,rfl,F2.congr fun y _=>?_,k2,tp2⟩;by_cases z:y=j
   ·rw[if_pos z,z,zlq T0 hj,ybG,zoB]
   ·rw[if_neg z]
  ·rintro i2 σ H' _ ⟨x11,rfl,_,k',_⟩;exact SqL.of (k'.kp _ _ ngu.1 ngu.2 hg)
  ·rintro i2 v σ H3 hv ⟨x11,rfl,F3,k3,tp3⟩;refine zp5 fun N' B' R' hN' hB' hR''=>?_;obtain ⟨e2,he2,has2⟩:=(zaQ tp3 hgw').get hv;obtain ⟨hi2,rfl⟩:=yam.mp he2;obtain ⟨qk,ws,hqk,hq3,hw3⟩:=F3.at hjn;rw[if_pos rfl]at hw3;have hqq:=hq2 qk (yaD hqk);have hin:go[i2]∈cutE (zam ps rows j) (go.take i2):=by
    unfold cutE;refine ya5.mpr ⟨((gom _).mp (yaN hi2)).1,yae fun z=>?_⟩;obtain ⟨i3,h3,e3⟩:=yaz z;rw[yan]at h3;rw[ybn]at e3;exact yaV.mp gnd i3 i2 (by omega) hi2 (by omega) e3
   have hcz:(cutE (zam ps rows j) (go.take i2)).length≤400:=yaw (ya2 _ _) hz1;obtain ⟨k,rk1,rk2,rk3⟩:=zqQ hin;have rk3:=rk3 (fnd.filter _);refine ⟨fun σ' H'=>σ'=[some (.ref sh),some (.ref t),some (.int kn),some (.int x),some (.bl b),some (.ref pa),some (.ref D),some (.int j),some (.int j),some (.ref g),some (.ref c),some v]∧H3=H',?_,?_⟩
   ·intro N7 n7;refine ⟨_,rfl,_,rfl,_,rfl,_,_,_,_,rfl,rfl,SqL.of F3.at_,zcU hqk,qk,ws,go[i2],_,rfl,.inl (SqL.of hq3),has2,hw3,fun bb hbb=>⟨_,rfl,?_⟩⟩;rw[hbb.mpr hin];exact iteF (n7 _ _ ⟨rfl,rfl⟩)
   rintro _ _ ⟨rfl,rfl⟩;refine ⟨_,rfl,_,rfl,_,_,_,_,rfl,rfl,SqL.of F3.at_,zcU hqk,.inl ⟨rfl,_,SqL.of hq3⟩,_,rfl,qk,ws,_,go[i2],v,k,rfl,rfl,hq3,hw3,has2,by omega,rk1,rk2,?_⟩;have hw4:=zmE hw3 k;rw[rk3,zql,← yaK hi2]at hw4;refine hN' _ _ ⟨_,rfl,(F3.upd' hqk hq3 hw4).congr fun y _=>?_,k3.put (.inr hqq),fun b us e=>?_⟩
   ·by_cases z:y=j
    ·simp only[if_pos z]
    ·simp only[if_neg z]
   ·have:=tp3 _ _ e;rw[zaf (fun z=>by rw[z,hq3]at this;cases this)]
    exact this
  rintro σ H3 ⟨x11,rfl,F3,k3,tp3⟩;refine n6 _ _ ?_;rw[← gl,yao (yaa _)]at F3;intro N8 n8;have c3:=k3.kp _ _ ncu.1 ncu.2 hc;refine ⟨_,rfl,c,rfl,⟨_,SqL.of c3⟩,?_⟩;refine zcF (xs:=cw) (fun i2 σ H'=>∃(x11:Option V),σ=[some (.ref sh),some (.ref t),some (.int kn),some (.int x),some (.bl b),some (.ref pa),some (.ref D),some (.int j),some (.int j),some (.ref g),some (.ref c),x11]∧FA K H' pa qf (ps.length+1) (fun y=>if y=j then cutE (zam ps rows j) go++co.take i2 else stL ps rows (zaK rows kn x b) kn i y)∧KpQ pa qa HE H'∧Tp HE H') ?_ ?_ ?_ ?_
  ·refine ⟨_,rfl,F3.congr fun y _=>?_,k3,tp3⟩;by_cases z:y=j
   ·rw[if_pos z,if_pos z,ybG,yaJ]
   ·rw[if_neg z,if_neg z]
  ·rintro i2 σ H' _ ⟨x11,rfl,_,k',_⟩;exact SqL.of (k'.kp _ _ ncu.1 ncu.2 hc)
  ·clear F3 k3 tp3 c3;rintro i2 v σ H3 hv ⟨x11,rfl,F3,k3,tp3⟩;refine zp5 fun N' B' R' hN' hB' hR''=>?_;obtain ⟨e2,he2,has2⟩:=(zaQ tp3 hcw').get hv;obtain ⟨hi2,rfl⟩:=yam.mp he2;obtain ⟨qk,ws,hqk,hq3,hw3⟩:=F3.at hjn;rw[if_pos rfl]at hw3;have hqq:=hq2 qk (yaD hqk);have hnf:=((com _).mp (yaN hi2)).2;have hin:co[i2]∉cutE (zam ps rows j) go++co.take i2:=fun z=>by
    rcases yai.mp z with z | z
    ·exact hnf (ya5.mp z).1
    ·obtain ⟨i3,h3,e3⟩:=yaz z;rw[yan]at h3;rw[ybn]at e3;exact yaV.mp cnd i3 i2 (by omega) hi2 (by omega) e3
   have hcz:(cutE (zam ps rows j) go++co.take i2).length≤802:=by
    have:=ya2 (fun e=>decide (e∉go)) (zam ps rows j);rw[yap,yan];unfold cutE;omega
   have hwl:=hw3.length;have g3:=k3.kp _ _ ngu.1 ngu.2 hg;refine ⟨fun σ' H'=>σ'=[some (.ref sh),some (.ref t),some (.int kn),some (.int x),some (.bl b),some (.ref pa),some (.ref D),some (.int j),some (.int j),some (.ref g),some (.ref c),some v]∧H3=H',?_,?_⟩
   ·intro N7 n7;refine ⟨_,rfl,_,rfl,_,rfl,_,_,_,_,rfl,rfl,SqL.of F3.at_,zcU hqk,qk,ws,co[i2],_,rfl,.inl (SqL.of hq3),has2,hw3,fun bb hbb=>⟨_,rfl,?_⟩⟩;rw[yb1.mpr fun z=>hin (hbb.mp z)];refine iteF ?_;refine ⟨_,rfl,_,rfl,g,gw,co[i2],go,rfl,.inl (SqL.of g3),has2,zaQ tp3 hgw',fun bb hbb=>⟨_,rfl,?_⟩⟩;rw[yb1.mpr fun z=>hnf ((gom _).mp (hbb.mp z)).1];exact iteF (n7 _ _ ⟨rfl,rfl⟩)
   rintro _ _ ⟨rfl,rfl⟩;refine ⟨_,rfl,_,rfl,_,_,_,_,rfl,rfl,SqL.of F3.at_,zcU hqk,.inl ⟨rfl,_,SqL.of hq3⟩,_,rfl,_,_,_,rfl,rfl,hq3,zaq (by omega),?_⟩;have hw4:=hw3.append (.one has2);rw[yaQ,← yaK hi2]at hw4;refine hN' _ _ ⟨_,rfl,(F3.upd' hqk hq3 hw4).congr fun y _=>?_,k3.put (.inr hqq),fun b us e=>?_⟩
   ·by_cases z:y=j
    ·simp only[if_pos z]
    ·simp only[if_neg z]
   ·have:=tp3 _ _ e;rw[zaf (fun z=>by rw[z,hq3]at this;cases this)]
    exact this
  clear F3 k3 tp3 c3;rintro σ H3 ⟨x11,rfl,F3,k3,tp3⟩;refine n8 _ _ ?_;rw[← cl,yao (yaa _)]at F3;obtain ⟨qk,ws,hqk,hq3,hw3⟩:=F3.at hjn;rw[if_pos rfl]at hw3;intro N9 n9;refine ⟨_,rfl,_,rfl,_,_,_,_,rfl,rfl,SqL.of F3.at_,zcU hqk,qk,ws,_,rfl,SqL.of hq3,hw3,fun l ls hl hls=>?_⟩;have e4:zcG (cutE (zam ps rows j) go++co)=zam ps (zaK rows kn x b) j:=by
   rw[← hgo,← hco];exact zqm (hri j hjn) (hri' j hjn)
  rw[e4]at hls;have s4:=zah hl (.lst ls);have l4:upd H3 l (.lst ls) l=some (.lst ls):=zab;generalize upd H3 l (.lst ls)=H4 at s4 l4 ⊢;have F4:=F3.ext s4.ext;have nlp:l≠pa:=fun z=>by rw[z,F3.at_]at hl;cases hl
  have nlq:l∉qf:=fun z=>by
   obtain ⟨j,hj,ej⟩:=yaz z;obtain ⟨ws,g,_⟩:=F3.get j l (by rw[yac hj,ej]);rw[g]at hl;cases hl
  have hql:=F3.len;refine ⟨_,rfl,_,rfl,pa,_,_,j,rfl,rfl,F4.at_,zht (by rw[yab];omega),n9 _ _ ?_⟩;have F5:=F4.set (k:=j) l4 (hls.mono s4.ext) nlq nlp;have k5:KpQ pa qa HE (upd H4 pa (.lst ((qf.map V.ref).set j (.ref l)))):=(k3.same s4).put (.inl rfl);have t5:upd H4 pa (.lst ((qf.map V.ref).set j (.ref l))) t=some (.tup (zbB ps)):=by
   rw[zaf (fun z=>by have:=tp3 _ _ tE;rw[z,F3.at_]at this;cases this)]
   exact s4 _ _ (tp3 _ _ tE)
  generalize upd H4 pa (.lst ((qf.map V.ref).set j (.ref l)))=H5 at F5 k5 t5 ⊢;refine ⟨_,rfl,_,rfl,_,_,_,_,rfl,rfl,SqT.of t5,ze7 hjn,?_⟩;have hl0:HE l=none:=k3.sm l hl;refine hN _ _ ⟨qf.set j l,some (.int j),some (.ref g),some (.ref c),x11,?_,F5.congr fun y _=>?_,fun q hq=>?_,k5⟩
  ·rw[ziL,← zgT hj];rfl
  ·show _=if upN ps kn i=some y then _ else _
   by_cases z:y=j
   ·rw[if_pos z,if_pos (by rw[hj,z]),z]
   ·rw[if_neg z,if_neg z,if_neg (fun w=>z (by rw[hj]at w;exact (yad w).symm))]
  ·rcases ybB hq with z | z
   ·exact hq2 q z
   ·rw[z];exact .inr hl0
 ·rintro σ H2 ⟨qf,x8,x9,x10,x11,rfl,F2,hq2,k2⟩;refine n4 _ _ ?_;have hul:us.length=(zb5 ps rows (zaK rows kn x b) kn m).length:=told.length.symm;have F3:FA K H2 pa qf (ps.length+1) (zam ps (zaK rows kn x b)):=F2.congr fun y hy=>by
   rw[hul];refine zlp T0 R0 R' hkn hBut (zns ?_) hy;rcases hst.2 with z | ⟨j,z1,z2,z3⟩
   ·exact .inl z
   ·have:=zfN T0 hkn z1;exact .inr ⟨j,z1,zhq (hri j this) (hri' j this) z2 z3⟩
  have Z:=fin qf H2 k2 F3;have t2:H2 t=some (.tup (zbB ps)):=k2.kp _ _ (fun z=>by rw[z,FE.at_]at tE;cases tE) (fun z=>by
   obtain ⟨j,hj,ej⟩:=yaz z;obtain ⟨ws,g,_⟩:=FE.get j t (by rw[yac hj,ej]);rw[g]at tE;cases tE) tE
  refine ⟨_,rfl,_,rfl,sh,dx,st',p,t,qs',ps,zaK rows kn x b,t1,rs',as',rfl,Z.shelf,t2,fun pb qb H3 hpb hqb s3 F4=>⟨_,rfl,?_⟩⟩;refine ⟨zda ps (zaK rows kn x b),zda ps (zaK rows kn x b),⟨pb,_,rfl,SqL.of F4.at_,F4.has⟩,⟨pa,_,rfl,SqL.of (s3 _ _ F3.at_),F3.has.mono s3.ext⟩,?_⟩;rw[yae (Eq.refl (zda ps (zaK rows kn x b)))];exact q qs' st' rs' as' H3 (fin qf H3 (k2.same s3) (F3.ext s3.ext))
theorem zbL {rows:List (List Int)}{kn k:Nat}{x y:Int}{b:Bool}(hk:kn < rows.length)(h:(zai rows kn).Pairwise (· < ·))(hb:b=!decide (x∈zai rows kn)):y∈zai (zaK rows kn x b) k↔(k=kn∧y=x∧b=true)∨(¬(k=kn∧y=x)∧y∈zai rows k):=by
 by_cases c:k=kn
 ·subst c;rw[zoz hk,zig h hb];simp
 ·rw[show zai (zaK rows kn x b) k=zai rows k from ze5 k c];simp[c]
theorem zg7 {rows rows':List (List Int)}(hl:rows.length=rows'.length)(R:zaz rows)(R':zaz rows')(h:∀ k y,y∈zai rows k↔y∈zai rows' k):rows=rows':=by
 refine List.ext_getElem hl fun i h1 h2=>?_;have e1:zai rows i=rows[i]:=by unfold zai;rw[yaf,yac h1];rfl
 have e2:zai rows' i=rows'[i]:=by unfold zai;rw[yaf,yac h2];rfl
 rw[← e1,← e2];exact zrR (R.at_up i) (R'.at_up i) (h i)
theorem zhz {rows:List (List Int)}{kn:Nat}{x:Int}{b:Bool}(R:zaz rows)(hb:b=!decide (x∈zai rows kn))(hx:zfb x):zaz (zaK rows kn x b):=zg6 R (zoy (R.at_up kn) hb) fun y hy=>by
 rcases (zig (R.at_up kn) hb).mp hy with ⟨z,_⟩ | ⟨_,z⟩
 ·rw[z];exact hx
 ·exact R.at_key kn y z
theorem zkN {rows:List (List Int)}{kn:Nat}{k o:Int}(R:zaz rows)(hkn:kn < rows.length)(hk:zfb k)(ho:zfb o)(n1:o∉zai rows kn)(n2:k∉zai rows kn)(n3:k≠o) :
  (true=!decide (o∈zai rows kn))∧(true=!decide (k∈zai (zaK rows kn o true) kn))∧(false=!decide (o∈zai (zaK (zaK rows kn o true) kn k true) kn))∧zaK (zaK (zaK rows kn o true) kn k true) kn o false=zaK rows kn k true:=by
 have b1:true=!decide (o∈zai rows kn):=by rw[yah n1];rfl
 have R1:=zhz R b1 ho;have l1:(zaK rows kn o true).length=rows.length:=zcr;have b2:true=!decide (k∈zai (zaK rows kn o true) kn):=by
  rw[yah fun z=>?_]
  ·rfl
  ·rw[zbL hkn (R.at_up kn) b1]at z;rcases z with ⟨_,z,_⟩ | ⟨_,z⟩
   ·exact n3 z
   ·exact n2 z
 have R2:=zhz R1 b2 hk;have l2:(zaK (zaK rows kn o true) kn k true).length=rows.length:=by rw[zcr,zcr]
 have b3:false=!decide (o∈zai (zaK (zaK rows kn o true) kn k true) kn):=by
  rw[yae]
  ·rfl
  ·rw[zbL (by omega) (R1.at_up kn) b2];refine .inr ⟨fun z=>n3 z.2.symm,?_⟩;rw[zbL hkn (R.at_up kn) b1];exact .inl ⟨rfl,rfl,rfl⟩
 have b4:true=!decide (k∈zai rows kn):=by rw[yah n2];rfl
 refine ⟨b1,b2,b3,zg7 (by rw[zcr,l2,zcr]) (zhz R2 b3 ho) (zhz R b4 hk) fun j y=>?_⟩;rw[zbL (by omega) (R2.at_up kn) b3,zbL (by omega) (R1.at_up kn) b2,zbL hkn (R.at_up kn) b1,zbL hkn (R.at_up kn) b4];by_cases c:j=kn
 ·subst c;by_cases c1:y=o
  ·subst c1;simp[n1,Ne.symm n3]
  ·by_cases c2:y=k
   ·subst c2;simp[c1]
   ·simp[c1,c2]
 ·simp[c]
theorem zj3 (l:List Int):(l.map V.int).all zeZ=true:=ya1.mpr fun y hy=>by
 obtain ⟨z,_,rfl⟩:=yaE.mp hy;rfl
def zjy (K:Frag)(CS mp:Addr):Sp:=fun vs H Q _=>∃(d L t r:Addr) (ps:List Nat) (rows:List (List Int)) (asr:List Addr),vs=[.ref d,.ref t,.ref r]∧H t=some (.tup (zbB ps))∧ps.length≤8∧zaB ps∧zd0 H r asr rows∧rows.length=ps.length+1∧zaz rows∧(∀ k,(zai rows k).length≤10)∧LS K L d H∧za1 H mp zcq lamQ∧
 ∀(sh p:Addr) (qs:List Addr) (H':Hp),H sh=none→H p=none→SNow K CS mp L H' d sh p qs ps rows→(∀ b o,b≠d→b≠mp→H b=some o→H' b=some o)→Q (.ref sh) H'
theorem zi6 {K:Frag}{CS mp:Addr}{H:Hp}{sh dx st p t:Addr}{kn:Nat}{x:Int}{b:Bool}{qs:List Addr}{ps:List Nat}{rows:List (List Int)}{t1 rs:Addr}{as:List Addr}{Q:VK}{E:XK}(S:zaC K CS H sh dx st p qs ps rows t1 rs as)(ht:H t=some (.tup (zbB ps)))(hps:ps.length≤20)(hkn:kn < ps.length+1)(hx:zfb x)(hb:b=!decide (x∈zai rows kn))(hk:zbm rows < 200)(hT:za1 H mp zcq lamQ)(q:∀(qs':List Addr) (st' rs':Addr) (as':List Addr) (H':Hp),zgm K CS mp H H' sh dx p qs qs' st' t1 rs' as' ps (zaK rows kn x b)→Q (.bl true) H'):zdg K CS mp [.ref sh,.ref t,.int kn,.int x,.bl b] H Q E:=⟨sh,dx,st,p,t,kn,x,b,qs,ps,rows,t1,rs,as,rfl,S,ht,hps,hkn,hx,hb,hk,hT,q⟩
seal zdg
theorem zqR {n k:Nat}:zai (List.replicate n ([]:List Int)) k=[]:=by
 unfold zai;rw[yaf,yct];split <;> rfl
theorem zjF {n:Nat}:zbm (List.replicate n ([]:List Int))=0:=by
 unfold zbm;rw[List.map_replicate]
 induction n with
 | zero=>rfl
 | succ n ih=>rw[List.replicate_succ,yaH,ih];rfl
theorem zl7 (T:Txt K mg){mp:Addr}{CS:Addr}(O:OwnC K mg CS)(qbe:DF K mg "_law_filled" zdC zc3)(qaa:FC P w K mg base 2 "_law_take" zbH (zfP K))(qby:FC P w K mg base 3 "_law_key" zdH (znz K))(qbA:FC P w K mg base 3 "tree_of" zcN (zgX K))(qbf:FC P w K mg base 4 "stand_of" zcj (zeM K))(qb1:FI P w K mg base CS 9 zaZ (zjx K CS))(qaP:FC P w K mg base 9 "_law_done" zdj (zdg K CS mp)):FC P w K mg base 11 "_law_filled" zc3 (zjy K CS mp):=by
 refine qbe.ok qaf (fun vs H Q E h=>?_) (fun f cdv A outer s H vs Q E hr h=>?_)
 ·obtain ⟨d,L,t,r,ps,rows,asr,rfl,_⟩:=h;rfl
 obtain ⟨d,L,t,r,ps,rows,asr,rfl,ht,hps,hT,hR,hlen,R,hz,hs,hTb,q⟩:=h;refine ⟨_,(zau (zar (i:=3) qaf.nd rfl (Or.inl rfl) (zpH qb1 hr O.mgC (zaa (zax qbf hr (zaa (zax qbA hr (zaa (pv 1) zac)) (zaa (zcm (N:=["_law_knot"]) (own:=1) (cap:=[]) rfl (zgA (pv 1)) ⟨rfl,rfl,rfl,rfl,rfl,rfl⟩ (fun _ _ _ _ _=>(zat (i:=0) (show List.Nodup (["_law_knot"]:List Str) by decide +kernel) rfl (Or.inl rfl))) (fun _ _ _ _ _=>zc1) (fun _ _ _ _ _=>(zbP zac))) zac))) zac)))
   (zau (zar (i:=4) qaf.nd rfl (Or.inl rfl) (zbP zac))
   (zau (zbd PassesOwn.never rfl (zbJ rfl T.qaj (zaa (zap zan rfl T.qan boot_len (zaa (pv 1) zac)) zac)) (zat (i:=5) qaf.nd rfl (Or.inl rfl)) (zae (zbd PassesOwn.never rfl (zgA (zaO za0 (pv 2) (pv 5) (fun _ _=>rfl))) (zat (i:=6) qaf.nd rfl (Or.inl rfl)) (zae (zbx (zfn F.plainAttrs_list F.slot_list_insert F.type_list_insert zma (pv 4) (zaa (zax qaa hr (zaa (pv 0) (zaa (zaA zbA (zap zan rfl T.qan boot_len (zaa (pv 4) zac)) zaj) zac))) (zaa (zbO (zaa (pv 5) (zaa (pv 6) zac))) zac))))))))
   (zau (zbd PassesOwn.never rfl (zb2 (pv 4)) (zgB rfl (za5 (zat (i:=5) qaf.nd rfl (Or.inl rfl)) (za5 (zat (i:=6) qaf.nd rfl (Or.inl rfl)) zeR))) (zau (zar (i:=7) qaf.nd rfl (Or.inl rfl) (zax qby hr (zaa (pv 0) zac)))
   (zau (zar (i:=8) qaf.nd rfl (Or.inl rfl) (zjQ (zd6 zbZ (pv 7) (zaO za0 (pv 2) (pv 5) (fun _ _=>rfl)) (by with_unfolding_all rfl)) (zjO (zd6 zgq (zax qaa hr (zaa (pv 0) (zaa zaj zac))) zaj (zaF _)))))
   (zbF (zaW (PW.pt (zgz (zbV (pv 8)) (zeP (zcM (zbV (zax qaP hr (zaa (pv 3) (zaa (pv 1) (zaa (pv 5) (zaa (pv 7) (zaa zdU zac))))))))))) (zae (zav zfW)) zay)
   (zbF (zaW (zcM (zbV (zax qaP hr (zaa (pv 3) (zaa (pv 1) (zaa (pv 5) (zaa (pv 6) (zaa zdU zac)))))))) (zae (zav zfW)) zay)
   (zae (zaW (PW.pt (zgz (zbV (pv 8)) (zeP (zcM (zbV (zax qaP hr (zaa (pv 3) (zaa (pv 1) (zaa (pv 5) (zaa (pv 7) (zaa zdU zac))))))))))) (zae (zav zfW)) zay)))))))
   (zae (zav (pv 3))))))),?_⟩
 have el:=zas ps;intro N1 n1;refine ⟨_,rfl,t,ps,rfl,ht,hT,by omega,fun H1 s1=>?_⟩;refine ⟨_,rfl,t,rfl,⟨_,SqT.of (s1 _ _ ht)⟩,fun B hB=>?_⟩;refine zeE (xs:=zbB ps) (fun i σ H2=>∃(x0:Option V) (bs:List Addr),σ=[x0]∧H2 B=some (.lst (bs.map V.ref))∧Paired (fun a (row:List Int)=>a≠B∧H2 a=some (.lst (row.map V.int))) bs (List.replicate i [])∧But B H1 H2) ?_ ?_ ?_ ?_
 ·exact ⟨_,[],rfl,zab,.nil,fun b o n e=>by rw[zaf n];exact e⟩
 ·rintro i σ H2 _ ⟨x0,bs,rfl,_,_,k2⟩;exact SqT.of (k2 _ _ (zad (s1 _ _ ht) hB) (s1 _ _ ht))
 ·rintro i m v σ H2 hv hm ⟨x0,bs,rfl,h2,P2,k2⟩;have hi:=(yam.mp hv).1;have hbl:=P2.length;rw[ybm]at hbl;refine zdr ?_;refine ⟨(by show 0≤sizeLine;decide),fun E0 hE=>?_⟩;have nE:E0≠B:=fun z=>by rw[z,h2]at hE;cases hE
  have sE:=zah hE (.lst []);refine ⟨_,by rw[zaf (Ne.symm nE)];exact h2,zaq (by rw[yab];omega),m - 1,by omega,by omega,_,bs++[E0],rfl,?_,?_,fun b o n e=>by rw[zaf n];exact sE _ _ (k2 b o n e)⟩
  ·rw[zab,yav];rfl
  ·rw[List.replicate_succ'];exact pApp (pImp (fun a row zq0=>(by obtain ⟨z1,z2⟩:=zq0;exact ⟨z1,by rw[zaf z1];exact sE _ _ z2⟩)) P2) (.cons ⟨nE,by rw[zaf nE];exact zab⟩ .nil)
 rintro σ H2 ⟨x0,bs,rfl,h2,P2,k2⟩;have s2:Same H1 H2:=fun b o e=>k2 b o (zad e hB) e;rw[el]at P2;have R0:zaz (List.replicate (ps.length+1) ([]:List Int)):=⟨fun r hr=>by rw[List.eq_of_mem_replicate hr];exact .nil,fun r hr=>by rw[List.eq_of_mem_replicate hr];exact fun y hy=>nomatch hy⟩;refine ⟨t,B,ps,List.replicate (ps.length+1) [],bs,rfl,s2 _ _ (s1 _ _ ht),.inl h2,pImp (fun a row z=>⟨row,.inl z.2,List.Perm.refl _⟩) P2,ybm,hT,R0,by omega,by rw[zjF];omega,fun st rs cs H3 hst s3 S3=>?_⟩;have s03:=s1.trans (s2.trans s3);intro sh dx hsh hdx hne;refine zeU S3 hsh hdx hne fun p qs H4 hp hqs s4 S4=>⟨rfl,n1 _ _ ?_⟩;have s04:=s03.trans s4;have M4:SNow K CS mp L H4 d sh p qs ps (List.replicate (ps.length+1) []):=SNow.new (hs.same s03) (hTb.ext s03.ext) s4 hsh hp S4;have hsh0:=s03.free hsh;have hp0:=s03.free hp;clear S4 S3 P2 h2 k2;intro N2 n2;refine ⟨(by show 0≤sizeLine;decide),fun od hod=>n2 _ _ ?_⟩;have s5:=zah hod (.lst []);have o5:upd H4 od (.lst []) od=some (.lst []):=zab;have M5:SNow K CS mp L (dl [od] (upd H4 od (.lst []))) d sh p qs ps (List.replicate (ps.length+1) []):=M4.same fun b o e=>zdd (s5 _ _ e) fun z=>by
  rw[yaj.mp z,hod]at e;cases e
 have fo:H od=none:=s04.free hod;have k5:∀ b o,b≠d→b≠mp→H b=some o→upd H4 od (.lst []) b=some o:=fun b o _ _ e=>s5 _ _ (s04 _ _ e);clear M4 s04 s03 s5;generalize upd H4 od (.lst [])=H5 at o5 M5 k5 ⊢;obtain ⟨tb,htb,_⟩:=hTb.ex;have tpd:∀{H':Hp},(∀ b o,b≠d→b≠mp→H b=some o→H' b=some o)→Tp H H':=fun {H'} k b us e=>k b _ (zml hs e) (fun z=>by rw[z,htb]at e;cases e) e
 intro N3 n3;refine ⟨_,rfl,_,_,rfl,.inr (SqT.of (tpd k5 _ _ ht)),_,rfl,by rw[el];omega,by rw[el];omega,?_⟩;rw[el,ya9];refine zbq (n:=ps.length+1) (fun i σ H6=>∃(O:List En) (us:List V) (x5 x6:Option V),σ=[some (.ref d),some (.ref t),some (.ref r),some (.ref sh),some (.ref od),x5,x6,none,none]∧SNow K CS mp L (dl [od] H6) d sh p qs ps (List.replicate (ps.length+1) [])∧H6 od=some (.lst us)∧zak K H6 O us∧O.Nodup∧O.length≤10 * i∧(∀ e,e∈O↔∃ k:Nat,k < i∧e.1=(k:Int)∧e.2∈zai rows k)∧∀ b o,b≠d→b≠mp→H b=some o→H6 b=some o) ?_ ?_ ?_
 ·exact ⟨[],[],_,_,rfl,M5,o5,.nil,ybg,yaF _,fun e=>⟨(fun z=>nomatch z),fun zq0=>(by obtain ⟨k,hk,_⟩:=zq0;exact absurd hk (yby _))⟩,k5⟩
 ·rintro i σ H6 hi ⟨O,us,x5,x6,rfl,M6,o6,w6,nd6,l6,m6,k6⟩;rw[ybP];refine zp5 fun N B' R' hN hB' hR'=>?_;have R6:=hR.tp (tpd k6);obtain ⟨ar,har,hrow⟩:=R6.get (k:=i) (by omega);have hzi:=hz i;have up:=R.at_up i;refine ⟨_,rfl,_,rfl,_,_,_,_,rfl,rfl,SqT.of R6.at_,har,ar,rfl,⟨_,SqT.of hrow⟩,?_⟩;have hrow0:∀{H':Hp},(∀ b o,b≠d→b≠mp→H b=some o→H' b=some o)→H' ar=some (.tup ((zai rows i).map V.int)):=fun {H'} k=>by
   obtain ⟨ar',har',hrow'⟩:=(hR.tp (tpd k)).get (k:=i) (by omega);rw[har]at har';cases har'
   exact hrow'
  refine zhx (xs:=(zai rows i).map V.int) (fun i2 σ H7=>∃(O:List En) (us:List V) (x6:Option V),σ=[some (.ref d),some (.ref t),some (.ref r),some (.ref sh),some (.ref od),some (.int i),x6,none,none]∧SNow K CS mp L (dl [od] H7) d sh p qs ps (List.replicate (ps.length+1) [])∧H7 od=some (.lst us)∧zak K H7 O us∧O.Nodup∧O.length≤10 * i+i2∧(∀ e,e∈O↔(∃ k:Nat,k < i∧e.1=(k:Int)∧e.2∈zai rows k)∨(e.1=(i:Int)∧e.2∈(zai rows i).take i2))∧∀ b o,b≠d→b≠mp→H b=some o→H7 b=some o) ?_ ?_ ?_ ?_
  ·exact ⟨O,us,_,rfl,M6,o6,w6,nd6,l6,fun e=>by rw[m6];simp,k6⟩
  ·rintro i2 σ H7 _ ⟨O,us,x6,rfl,_,_,_,_,_,_,k7⟩;exact SqT.of (hrow0 k7)
  ·clear M6 o6 w6 nd6 l6 m6 k6;rintro i2 v σ H7 hv ⟨O,us,x6,rfl,M7,o7,w7,nd7,l7,m7,k7⟩;rw[yat]at hv;obtain ⟨y,hy,rfl⟩:=ybD.mp hv;obtain ⟨hi2,rfl⟩:=yam.mp hy;have wl:=w7.length;have L7:=(M7.same za7).lsH;refine ⟨_,rfl,.inl ⟨rfl,_,SqL.of o7⟩,_,rfl,_,rfl,_,_,rfl,.inl (SqL.of o7),_,_,rfl,rfl,d,L,_,rfl,⟨by omega,by omega⟩,L7,fun n H8 n0 n1' k8 s8=>?_⟩;have M8:=M7.takeV k8 s8;have tp8:=zeV L7 k8;have nod:od≠d:=fun z=>by
    obtain ⟨_,_,_,e,_⟩:=L7.ex;rw[← z,o7]at e;cases e
   have o8:=k8 _ _ nod o7;have w8:=zaQ tp8 w7;refine ⟨_,rfl,_,rfl,(by show 2≤sizeLine;decide),fun u hu=>?_⟩;have su:=zah hu (.tup [.int i,.int ((zai rows i)[i2])]);have hu1:upd H8 u (.tup [.int i,.int ((zai rows i)[i2])]) u=some (.tup [.int i,.int ((zai rows i)[i2])]):=zab;have M9:=M8.same (zie (KpV.of su));generalize upd H8 u (.tup [.int i,.int ((zai rows i)[i2])])=H9 at su hu1 M9 ⊢;refine ⟨od,us,n,.ref u,rfl,rfl,su _ _ o8,n0,by omega,zaq (by omega),?_⟩;have tp9:Tp H9 (upd H9 od (.lst (us.take n.toNat++.ref u::us.drop n.toNat))):=fun b zs e=>by
    rw[zaf (fun z=>by rw[z,su _ _ o8]at e;cases e)]
    exact e
   have w9:=w8.mono su.ext;have hnew:Rep.has K H9 ((i:Int),(zai rows i)[i2]) (.ref u):=⟨u,.int i,.int ((zai rows i)[i2]),rfl,hu1,rfl,rfl⟩;have hnm:((i:Int),(zai rows i)[i2])∉O:=fun z=>by
    rcases (m7 _).mp z with ⟨k,hk,e,_⟩ | ⟨_,z⟩
    ·have e:(i:Int)=(k:Int):=e;omega
    ·obtain ⟨i3,h3,e3⟩:=yaz z;rw[yan]at h3;rw[ybn]at e3;exact yaV.mp (zgR up) i3 i2 (by omega) hi2 (by omega) e3
   have pm:(O.take n.toNat++((i:Int),(zai rows i)[i2])::O.drop n.toNat).Perm (((i:Int),(zai rows i)[i2])::O):=by
    have:=(List.perm_middle (a:=((i:Int),(zai rows i)[i2])) (l₁:=O.take n.toNat) (l₂:=O.drop n.toNat));rwa[yaP]at this
   refine ⟨O.take n.toNat++((i:Int),(zai rows i)[i2])::O.drop n.toNat,_,_,rfl,M9.same (zie fun b o n e=>?_),zab,zaQ tp9 ((w9.take _).append (.cons hnew (w9.drop _))),?_,?_,fun e=>?_,fun b o z1 z2 e=>?_⟩
   ·rw[zaf (fun z=>n (yaj.mpr z))];exact e
   ·rw[pm.nodup_iff,yaO];exact ⟨hnm,nd7⟩
   ·rw[pm.length_eq,yaI];omega
   ·rw[pm.mem_iff,yak,m7,yaK hi2,yai,yaj];constructor
    ·rintro (rfl | z | ⟨z1,z2⟩)
     ·exact .inr ⟨rfl,.inr rfl⟩
     ·exact .inl z
     ·exact .inr ⟨z1,.inl z2⟩
    ·rintro (z | ⟨z1,z2 | z2⟩)
     ·exact .inr (.inl z)
     ·exact .inr (.inr ⟨z1,z2⟩)
     ·exact .inl (Prod.ext z1 z2)
   ·rw[zaf (fun z=>by rw[z,fo]at e;cases e)]
    exact su _ _ (k8 _ _ z1 (k7 b o z1 z2 e))
  ·rintro σ H7 ⟨O,us,x6,rfl,M7,o7,w7,nd7,l7,m7,k7⟩;rw[yab]at l7 m7;refine hN _ _ ⟨O,us,_,_,rfl,M7,o7,w7,nd7,by omega,fun e=>?_,k7⟩;rw[m7,yao (yaa _)];constructor
   ·rintro (⟨k,z1,z2⟩ | ⟨z1,z2⟩)
    ·exact ⟨k,by omega,z2⟩
    ·exact ⟨i,by omega,z1,z2⟩
   ·rintro ⟨k,z1,z2,z3⟩;by_cases c:k=i
    ·subst c;exact .inr ⟨z2,z3⟩
    ·exact .inl ⟨k,by omega,z2,z3⟩
 ·rintro σ H6 ⟨O,us,x5,x6,rfl,M6,o6,w6,nd6,l6,m6,k6⟩;refine n3 _ _ ?_;intro N4 n4;refine ⟨_,rfl,od,rfl,⟨_,SqL.of o6⟩,?_⟩;have w6':=w6;refine zcF (xs:=us) (fun i σ H7=>∃(rowsS:List (List Int)) (qs:List Addr) (x5 x6 x7 x8:Option V),σ=[some (.ref d),some (.ref t),some (.ref r),some (.ref sh),some (.ref od),x5,x6,x7,x8]∧SNow K CS mp L (dl [od] H7) d sh p qs ps rowsS∧H7 od=some (.lst us)∧Tp H6 H7∧zbm rowsS≤i∧(∀(k:Nat) (y:Int),y∈zai rowsS k↔((k:Int),y)∈O.take i)∧∀ b o,b≠d→b≠mp→H b=some o→H7 b=some o) ?_ ?_ ?_ ?_
  ·exact ⟨_,qs,_,_,_,_,rfl,M6,o6,(fun _ _ e=>e),by rw[zjF];omega,fun k y=>by rw[zqR];simp,k6⟩
  ·rintro i σ H7 _ ⟨rowsS,qs,x5,x6,x7,x8,rfl,_,o7,_⟩;exact SqL.of o7
  ·rintro i v σ H7 hv ⟨rowsS,qs,x5,x6,x7,x8,rfl,M7,o7,tp7,hk7,m7,k7⟩;obtain ⟨e,he,b,y1,y2,rfl,hb,f1,f2⟩:=w6.get hv;obtain ⟨hi,rfl⟩:=yam.mp he;obtain ⟨kn,hkn,ekn,hkx⟩:=(m6 _).mp (yaN hi);have e1:y1=.int (kn:Int):=by rw[← ekn];exact f1
   have e2:y2=.int (O[i].2):=f2;subst e1 e2;have hOi:O[i]=((kn:Int),O[i].2):=Prod.ext ekn rfl;generalize hkk:O[i].2=kk at hkx hOi hb;refine ⟨b,_,rfl,SqT.of (tp7 _ _ hb),rfl,_,_,rfl,_,_,rfl,rfl,?_⟩;refine zmC fun N B' R' hN hB' hR'=>?_;obtain ⟨ar,har,hrow⟩:=(hR.tp (tpd k7)).get (k:=kn) (by omega);have nod:od≠d:=fun z=>by
    obtain ⟨_,_,_,e,_⟩:=(M7.same za7).lsH.ex;rw[← z,o7]at e;cases e
   have kO:∀{H':Hp},H' od=some (.lst us)→∀ b∈[od],∃ o,H' b=some o∧(∀ us,o≠.tup us)∧(∀ tab,o≠.tbl tab)∧(∀ f,o≠.ext f)∧∀ s,o≠.own s:=fun {H'} h b hb=>by
    rw[yaj.mp hb];exact ⟨_,h,(fun _ z=>nomatch z),(fun _ z=>nomatch z),(fun _ z=>nomatch z),(fun _ z=>nomatch z)⟩
   have go:∀(H8:Hp) (qs:List Addr) (ro:List (List Int)) (x:Int) (bb:Bool) (Q:VK) (E:XK),SNow K CS mp L (dl [od] H8) d sh p qs ps ro→H8 od=some (.lst us)→Tp H6 H8→(∀ b o,b≠d→b≠mp→H b=some o→H8 b=some o)→zfb x→bb=!decide (x∈zai ro kn)→zbm ro < 200→
     (∀(H9:Hp) (qs':List Addr),SNow K CS mp L (dl [od] H9) d sh p qs' ps (zaK ro kn x bb)→H9 od=some (.lst us)→Tp H6 H9→(∀ b o,b≠d→b≠mp→H b=some o→H9 b=some o)→Q (.bl true) H9)→zdg K CS mp [.ref sh,.ref t,.int kn,.int x,.bl bb] H8 Q E:=fun H8 qs ro x bb Q E M o8 tp8 k8 hx hb hk q=>by
    obtain ⟨dx,st1,t1,rs1,as1,S8⟩:=(M.same za7).shelf;have tb8:=(M.same za7).tab;obtain ⟨tb,e8,_⟩:=tb8.ex;refine zi6 S8 (tpd k8 _ _ ht) (by omega) hkn hx hb hk tb8 fun qs' st' rs' as' H9 X=>?_;have nsp:∀{c:Addr} {o:HO},H8 c=some o→c≠mp→(c≠sh∧c≠p)→H9 c=some o:=fun {c o} e n1 n2=>X.kd c o n2.1 n2.2 n1 e;have kin:∀{c:Addr} {us:List V},H8 c=some (.tup us)→H9 c=some (.tup us):=fun {c us} e=>nsp e (fun z=>(by rw[z,e8]at e;cases e)) ⟨fun z=>(by rw[z,S8.ins]at e;cases e),fun z=>(by rw[z,S8.full.at_]at e;cases e)⟩
    have npo:od≠p:=fun z=>by
     obtain ⟨dx2,st2,t2,rs2,as2,S2⟩:=M.shelf;have:=S2.full.at_;unfold dl at this;rw[if_pos (yaj.mpr z.symm)]at this;cases this
    exact q H9 qs' (M.deedV (kO o8) X) (nsp o8 (fun z=>(by rw[z,e8]at o8;cases o8)) ⟨fun z=>(by rw[z,S8.ins]at o8;cases o8),npo⟩) (fun b us e=>kin (tp8 _ _ e)) fun b o z1 z2 e=>nsp (k8 b o z1 z2 e) z2 ⟨fun z=>(by rw[z,hsh0]at e;cases e),fun z=>(by rw[z,hp0]at e;cases e)⟩
   have hlS:=(M7.same za7).shelf;obtain ⟨dx,st1,t1,rs1,as1,S7⟩:=hlS;have hkS:kn < rowsS.length:=by rw[S7.stand.len];exact hkn
   have RS:=S7.stand.R;clear S7;have hlO:O.length≤90:=by omega
   have hKk:zfb kk:=R.at_key kn kk hkx;have hnk:kk∉zai rowsS kn:=fun z=>by
    rw[m7]at z;obtain ⟨i3,h3,e3⟩:=yaz z;rw[yan]at h3;rw[ybn,← hOi]at e3;exact yaV.mp nd6 i3 i (by omega) hi (by omega) e3
   have sub:∀ y,y∈zai rowsS kn→y∈zai rows kn:=fun y z=>by
    rw[m7]at z;obtain ⟨k',z1,z2,z3⟩:=(m6 _).mp (ybv z);have:kn=k':=by have z2:(kn:Int)=(k':Int):=z2;omega
    rw[this];exact z3
   have bk:true=!decide (kk∈zai rowsS kn):=by rw[yah hnk];rfl
   have hkd:=zcg (x:=kk) (b:=true) hkS;have last:∀(k:Nat) (y:Int),y∈zai (zaK rowsS kn kk true) k↔((k:Int),y)∈O.take (i+1):=fun k y=>by
    rw[zbL hkS (RS.at_up kn) bk,m7,yaK hi,yai,yaj,hOi];constructor
    ·rintro (⟨rfl,rfl,_⟩ | ⟨_,z⟩)
     ·exact .inr rfl
     ·exact .inl z
    ·rintro (z | z)
     ·refine .inr ⟨fun w=>?_,z⟩;rw[w.1,w.2,← m7]at z;exact hnk z
     ·have z1:(k:Int)=(kn:Int):=congrArg Prod.fst z;have z2:y=kk:=congrArg Prod.snd z;exact .inl ⟨by omega,z2,rfl⟩
   intro N5 n5;refine ⟨_,rfl,d,L,rfl,(M7.same za7).lsH,fun o H8 o0 o1 k8 s8=>n5 _ _ ?_⟩;have M8:=M7.takeV k8 s8;have L7:=(M7.same za7).lsH;have tp8:Tp H6 H8:=fun b us e=>zeV L7 k8 _ _ (tp7 _ _ e);have o8:=k8 _ _ nod o7;have k08:∀ b o,b≠d→b≠mp→H b=some o→H8 b=some o:=fun b o z1 z2 e=>k8 _ _ z1 (k7 b o z1 z2 e);have hrow8:=zeV L7 k8 _ _ hrow;have R8:=hR.tp (tpd k08);have hIo:zfb o:=⟨o0,o1⟩;clear M7 k7 tp7 hrow o7;intro N6 n6;have rest:∀(im:Bool) (H9:Hp),(im=true→o∉zai rows kn)→SNow K CS mp L (dl [od] H9) d sh p qs ps rowsS→H9 od=some (.lst us)→Tp H6 H9→(∀ b o,b≠d→b≠mp→H b=some o→H9 b=some o)→N6 [some (.ref d),some (.ref t),some (.ref r),some (.ref sh),some (.ref od),some (.int kn),some (.int kk),some (.int o),some (.bl im)] H9:=fun im H9 him M9 o9 tp9 k9=>by
    refine n6 _ _ ?_;have three:=fun (z:im=true)=>zkN RS hkS hKk hIo (fun w=>him z (sub _ w)) hnk fun w=>him z (w ▸ hkx);have hk1:=zcg (x:=o) (b:=true) hkS;have hk2:=zcg (rows:=zaK rowsS kn o true) (x:=kk) (b:=true) (show kn < _ by rw[zcr];exact hkS);refine ⟨fun σ' HA=>∃(ro:List (List Int)) (qs':List Addr),σ'=[some (.ref d),some (.ref t),some (.ref r),some (.ref sh),some (.ref od),some (.int kn),some (.int kk),some (.int o),some (.bl im)]∧SNow K CS mp L (dl [od] HA) d sh p qs' ps ro∧HA od=some (.lst us)∧Tp H6 HA∧(∀ b o,b≠d→b≠mp→H b=some o→HA b=some o)∧((im=false∧ro=rowsS)∨(im=true∧ro=zaK rowsS kn o true)),?_,?_⟩
    ·intro N7 n7;refine ⟨_,rfl,im,rfl,?_⟩;cases im with
     | false=>exact iteF (iteF (n7 _ _ ⟨_,_,rfl,M9,o9,tp9,k9,.inl ⟨rfl,rfl⟩⟩))
     | true=>
      refine iteT ?_;refine ⟨_,rfl,_,rfl,_,rfl,_,rfl,?_⟩;show zdg K CS mp [.ref sh,.ref t,.int kn,.int o,.bl true] H9 _ _;refine go H9 qs rowsS o true _ _ M9 o9 tp9 k9 hIo (three rfl).1 (by omega) fun HA qs' MA oA tpA kA=>⟨_,rfl,?_⟩;exact iteF (n7 _ _ ⟨_,_,rfl,MA,oA,tpA,kA,.inr ⟨rfl,rfl⟩⟩)
    clear M9 o9 tp9 k9;rintro _ HA ⟨ro,qs',rfl,MA,oA,tpA,kA,hcase⟩;refine ⟨fun σ' HB=>∃(qs':List Addr),σ'=[some (.ref d),some (.ref t),some (.ref r),some (.ref sh),some (.ref od),some (.int kn),some (.int kk),some (.int o),some (.bl im)]∧SNow K CS mp L (dl [od] HB) d sh p qs' ps (zaK ro kn kk true)∧HB od=some (.lst us)∧Tp H6 HB∧(∀ b o,b≠d→b≠mp→H b=some o→HB b=some o),?_,?_⟩
    ·intro N7 n7;refine ⟨_,rfl,_,rfl,_,rfl,_,rfl,?_⟩;show zdg K CS mp [.ref sh,.ref t,.int kn,.int kk,.bl true] HA _ _;refine go HA qs' ro kk true _ _ MA oA tpA kA hKk ?_ ?_ fun HB qs'' MB oB tpB kB=>⟨_,rfl,?_⟩
     ·rcases hcase with ⟨_,z⟩ | ⟨w,z⟩
      ·rw[z];exact bk
      ·rw[z];exact (three w).2.1
     ·rcases hcase with ⟨_,z⟩ | ⟨w,z⟩
      ·rw[z];omega
      ·rw[z];omega
     ·exact iteF (n7 _ _ ⟨_,rfl,MB,oB,tpB,kB⟩)
    clear MA oA tpA kA;rintro _ HB ⟨qs'',rfl,MB,oB,tpB,kB⟩;refine ⟨_,rfl,im,rfl,?_⟩;cases im with
    | false=>
     rcases hcase with ⟨_,rfl⟩ | ⟨w,_⟩
     ·exact iteF (iteF (hN _ _ ⟨_,_,_,_,_,_,rfl,MB,oB,tpB,by omega,last,kB⟩))
     ·cases w
    | true=>
     rcases hcase with ⟨w,_⟩ | ⟨_,rfl⟩
     ·cases w
     refine iteT ?_;refine ⟨_,rfl,_,rfl,_,rfl,_,rfl,?_⟩;show zdg K CS mp [.ref sh,.ref t,.int kn,.int o,.bl false] HB _ _;refine go HB qs'' _ o false _ _ MB oB tpB kB hIo (three rfl).2.2.1 (by omega) fun HC qs3 MC oC tpC kC=>⟨_,rfl,?_⟩;rw[(three rfl).2.2.2]at MC;exact iteF (hN _ _ ⟨_,_,_,_,_,_,rfl,MC,oC,tpC,by omega,last,kC⟩)
   refine ⟨_,rfl,_,rfl,_,rfl,_,_,_,_,rfl,rfl,SqT.of R8.at_,har,ar,_,rfl,.inr (SqT.of hrow8),rfl,zj3 _,_,rfl,?_⟩;rw[zhv];by_cases c:o∈zai rows kn
   ·rw[yae c];exact iteF (rest false H8 (fun z=>nomatch z) M8 o8 tp8 k08)
   ·rw[yah c];refine iteT ?_;refine ⟨_,rfl,d,L,3,rfl,by decide,(M8.same za7).lsH,fun v H9 _ _ k9 s9=>⟨rfl,?_⟩⟩;have L8:=(M8.same za7).lsH;exact rest _ H9 (fun _=>c) (M8.takeV k9 s9) (k9 _ _ nod o8) (fun b us e=>zeV L8 k9 _ _ (tp8 _ _ e)) fun b o z1 z2 e=>k9 _ _ z1 (k08 b o z1 z2 e)
  ·rintro σ H7 ⟨rowsS,qs,x5,x6,x7,x8,rfl,M7,o7,tp7,hk7,m7,k7⟩;refine n4 _ _ ?_;refine ⟨_,rfl,?_⟩;have M7':=M7.same za7;obtain ⟨dx,st1,t1,rs1,as1,S7⟩:=M7'.shelf;have wl:=w6.length;have er:rowsS=rows:=zg7 (by rw[S7.stand.len,hlen]) S7.stand.R R fun k y=>by
    rw[m7,← wl,yao (yaa _),m6];constructor
    ·rintro ⟨k',z1,z2,z3⟩;have:k=k':=by have z2:(k:Int)=(k':Int):=z2;omega
     rw[this];exact z3
    ·intro z;refine ⟨k,Nat.lt_of_not_le fun c=>?_,rfl,z⟩;have:zai rows k=[]:=by
      unfold zai;rw[yaf,yaY (by omega)];rfl
     rw[this]at z;cases z
   rw[er]at M7';exact q sh p qs H7 hsh0 hp0 M7' k7
abbrev DeT:=Tri Int Int Bool
theorem zle {K:Frag}{H H':Hp}(k:Tp H H'){O:List DeT}{us:List V}(h:zak K H O us):zak K H' O us:=pImp (fun e v z=>by
 obtain ⟨a,x,y,w,h1,h2,h3,h4,h5⟩:=(show has3 K H e v from z);exact ⟨a,x,y,w,h1,k _ _ h2,h3,h4,h5⟩) h
theorem zlf {K:Frag}{H:Hp}{u:Addr}{a b:Int}{c:Bool}(h:H u=some (.tup [.int a,.int b,.bl c])):Rep.has K H (⟨a,b,c⟩:DeT) (.ref u):=⟨u,_,_,_,rfl,h,rfl,rfl,rfl⟩
theorem zlh {K:Frag}{H:Hp}{O:List DeT}{us:List V}{i:Nat}{v:V}(h:zak K H O us)(hv:us[i]?=some v):∃(e:DeT) (u:Addr),O[i]?=some e∧v=.ref u∧H u=some (.tup [.int e.a,.int e.b,.bl e.c]):=by
 obtain ⟨e,he,z⟩:=h.get hv;obtain ⟨u,x,y,w,h1,h2,h3,h4,h5⟩:=(show has3 K H e v from z);have h3:x=.int e.a:=h3;have h4:y=.int e.b:=h4;have h5:w=.bl e.c:=h5;subst h3 h4 h5;exact ⟨e,u,he,h1,h2⟩
structure zng (n:Nat)(rows:List (List Int))(O:List DeT):Prop where
 each:∀ e∈O,∃ k:Nat,k < n∧e.a=(k:Int)∧zfb e.b∧e.c=!decide (e.b∈zai rows k)
 diff:O.Pairwise fun e f=>¬(e.a=f.a∧e.b=f.b)
def zlz (K:Frag):Sp:=fun vs H Q _=>∃(d L t r:Addr) (ps:List Nat) (rows:List (List Int)) (asr:List Addr),vs=[.ref d,.ref t,.ref r]∧H t=some (.tup (zbB ps))∧ps.length≤40∧zd0 H r asr rows∧rows.length=ps.length+1∧zaz rows∧(∀ k,(zai rows k).length≤400)∧LS K L d H∧
 ∀(D:Addr) (us:List V) (O:List DeT) (H':Hp),H D=none→H' D=some (.lst us)→zak K H' O us→zng (ps.length+1) rows O→O.length≤8→Keep d H H'→LS K L d H'→Q (.ref D) H'
theorem zn6 (T:Txt K mg)(qbB:DF K mg "_law_deeds" zek zdI)(qaa:FC P w K mg base 2 "_law_take" zbH (zfP K))(qby:FC P w K mg base 3 "_law_key" zdH (znz K)):FC P w K mg base 4 "_law_deeds" zdI (zlz K):=by
 refine qbB.ok qas (fun vs H Q E h=>?_) (fun f cdv A outer s H vs Q E hr h=>?_)
 ·obtain ⟨d,L,t,r,ps,rows,asr,rfl,_⟩:=h;rfl
 obtain ⟨d,L,t,r,ps,rows,asr,rfl,ht,hps,hR,hlen,R,hz,hs,q⟩:=h;refine ⟨_,(zal (zar (i:=3) qas.nd rfl (Or.inl rfl) (zbP zac))
   (zal (zbd PassesOwn.never rfl (zbJ rfl T.qaj (zaa (zax qaa hr (zaa (pv 0) (zaa zaj zac))) zac)) (zat (i:=4) qas.nd rfl (Or.inl rfl)) (zal (zar (i:=5) qas.nd rfl (Or.inr rfl) (zax qaa hr (zaa (pv 0) (zaa (zap zan rfl T.qan boot_len (zaa (pv 1) zac)) zac))))
   (zal (zar (i:=6) qas.nd rfl (Or.inr rfl) (zax qby hr (zaa (pv 0) zac)))
   (zaJ (zaW (PW.pt (zgz (zaw zlY (zap zan rfl T.qan boot_len (zaa (zaO za0 (pv 2) (pv 5) (fun _ _=>rfl)) zac)) zaj (zaF _)) (zeP (zaw zgq (zax qaa hr (zaa (pv 0) (zaa zaj zac))) zaj (zaF _))))) (zae (zar (i:=6) qas.nd rfl (Or.inr rfl) (zaO za0 (zaO za0 (pv 2) (pv 5) (fun _ _=>rfl)) (zax qaa hr (zaa (pv 0) (zaa (zap zan rfl T.qan boot_len (zaa (zaO za0 (pv 2) (pv 5) (fun _ _=>rfl)) zac)) zac))) (fun _ _=>rfl)))) zay)
   (zae (zaW (zaw (zjS (List (Tri Int Int Bool)) (huD hr)) (zcm (N:=["_law_one","_law_knot","_law_key_here"]) (own:=1) (cap:=[5,6]) rfl (zb2 (pv 3)) ⟨rfl,rfl,rfl,rfl,rfl,rfl⟩ (fun _ _ _ _ _=>(zat (i:=0) (show List.Nodup (["_law_one","_law_knot","_law_key_here"]:List Str) by decide +kernel) rfl (Or.inl rfl))) (fun _ _ _ _ _=>(zfU (zaw (zpM (Int×Int) (huD hr)) (zcb (znC (K:=K)) (pv 0) zd4 (zcl zaj)) (zbO (zaa (pv 1) (zaa (pv 2) zac))) (zaF _)))) (fun _ _ _ _ _=>(pv 0))) (zbP zac) (zaF _)) (zae (zbx (zfn F.plainAttrs_list F.slot_list_append F.type_list_append zbo (pv 3) (zaa (zbO (zaa (pv 5) (zaa (pv 6) (zaa (zd6 zbZ (pv 6) (zaO za0 (pv 2) (pv 5) (fun _ _=>rfl)) (by with_unfolding_all rfl)) zac)))) zac)))) zay))))))
   (zae (zav (pv 3))))),?_⟩
 have el:=zas ps;refine ⟨(by show 0≤sizeLine;decide),fun D hD=>?_⟩;have nDd:D≠d:=zro hs hD;have s1:=zah hD (.lst []);have h1:upd H D (.lst []) D=some (.lst []):=zab;have hs1:=hs.same s1;generalize upd H D (.lst [])=H1 at s1 h1 hs1 ⊢;refine ⟨_,rfl,d,L,9,rfl,by decide,hs1,fun n H2 n0 n1 k2 s2=>⟨_,rfl,by omega,by omega,?_⟩⟩;refine zbq (n:=n.toNat) (fun i σ H3=>∃(us:List V) (O:List DeT) (x4 x5 x6:Option V),σ=[some (.ref d),some (.ref t),some (.ref r),some (.ref D),x4,x5,x6]∧H3 D=some (.lst us)∧zak K H3 O us∧zng (ps.length+1) rows O∧O.length≤i∧Keep d H H3∧LS K L d H3) ?_ ?_ ?_
 ·exact ⟨[],[],_,_,_,rfl,k2 _ _ nDd h1,.nil,⟨(fun e z=>nomatch z),.nil⟩,yaF _,fun b o z e=>k2 _ _ z (s1 _ _ e),s2⟩
 ·rintro i σ H3 hi ⟨us,O,x4,x5,x6,rfl,h3,w3,d3,l3,k3,s3⟩;refine ⟨_,rfl,_,rfl,_,_,rfl,.inr (SqT.of (zeV hs k3 _ _ ht)),?_⟩;rw[el];refine ⟨d,L,((ps.length+1:Nat):Int),rfl,⟨by omega,by omega⟩,s3,fun m H4 m0 m1 k4 s4=>?_⟩;obtain ⟨kn,rfl⟩:∃ kn:Nat,m=kn:=⟨m.toNat,by omega⟩;have hkn:kn < ps.length+1:=by omega
  refine ⟨_,rfl,d,L,rfl,s4,fun x0 H5 y0 y1 k5 s5=>?_⟩;have k35:=k4.trans k5;have R5:=hR.tp (zeV hs (k3.trans k35));obtain ⟨a,ha,hrow⟩:=R5.get (k:=kn) (by omega);have hl:=hz kn;refine ⟨fun σ' H'=>∃ x:Int,σ'=[some (.ref d),some (.ref t),some (.ref r),some (.ref D),some (.int (0+(i:Int))),some (.int kn),some (.int x)]∧zfb x∧Keep d H3 H'∧LS K L d H',?_,?_⟩
  ·refine ⟨_,rfl,_,rfl,_,_,_,_,rfl,rfl,SqT.of R5.at_,ha,_,_,rfl,.inr (SqT.of hrow),_,_,rfl,rfl,_,rfl,?_⟩;refine ite2 (fun c=>?_) (fun c=>?_)
   ·have c':(0:Int) < (((zai rows kn).map V.int).length:Int):=yaT c;rw[yab]at c';refine ⟨_,rfl,d,L,2,rfl,by decide,s5,fun v H6 _ _ k6 s6=>⟨rfl,_,rfl,?_⟩⟩;have R6:=R5.tp (zeV s5 k6);have hrow6:=zeV s5 k6 _ _ hrow;refine ite2 (fun _=>?_) (fun _=>?_)
    ·refine ⟨_,rfl,_,rfl,_,_,_,_,rfl,rfl,SqT.of R6.at_,ha,_,rfl,_,rfl,_,rfl,_,_,_,_,rfl,rfl,SqT.of R6.at_,ha,_,_,rfl,.inr (SqT.of hrow6),?_⟩;rw[yab];refine ⟨d,L,(((zai rows kn).length:Nat):Int),rfl,⟨by omega,by omega⟩,s6,fun n H7 n0 n1 k7 s7=>?_⟩;obtain ⟨j,rfl⟩:∃ j:Nat,n=j:=⟨n.toNat,by omega⟩;have hj:j < (zai rows kn).length:=by omega
     refine ⟨_,_,_,_,rfl,rfl,SqT.of (zeV s6 k7 _ _ hrow6),ze8 (v:=.int ((zai rows kn)[j])) (by rw[yat,yac hj];rfl),?_⟩;exact ⟨_,rfl,R.at_key kn _ (yaN hj),k35.trans (k6.trans k7),s7⟩
    ·exact ⟨x0,rfl,⟨y0,y1⟩,k35.trans k6,s6⟩
   ·refine iteF ?_;exact ⟨x0,rfl,⟨y0,y1⟩,k35,s5⟩
  clear k4 s4 k5 s5 k35 R5 ha hrow;rintro _ H4 ⟨x,rfl,hx,k4,s4⟩;have k04:=k3.trans k4;have R4:=hR.tp (zeV hs k04);obtain ⟨a,ha,hrow⟩:=R4.get (k:=kn) (by omega);have h4:=k4 _ _ nDd h3;have w4:=zle (zeV s3 k4) w3;refine ⟨_,rfl,D,rfl,⟨_,SqL.of h4⟩,fun C hC=>?_⟩;have wl:=w4.length;refine zcs (xs:=us) (fun i2 σ H5=>∃(x0:Option V) (ws:List V) (es:List DeT),σ=[x0,some (.int kn),some (.int x)]∧H5 C=some (.lst ws)∧zak K H5 es ws∧es=(O.take i2).filter (fun e=>decide (e.a=(kn:Int)∧e.b=x))∧But C H4 H5) ?_ ?_ ?_ ?_
  ·exact ⟨_,[],[],rfl,zab,.nil,by simp,fun b o n e=>by rw[zaf n];exact e⟩
  ·rintro i2 σ H5 _ ⟨x0,ws,es,rfl,_,_,_,k5⟩;exact SqL.of (k5 _ _ (zad h4 hC) h4)
  ·rintro i2 m v σ H5 hv hm ⟨x0,ws,es,rfl,h5,w5,rfl,k5⟩;obtain ⟨e,u,he,rfl,hu⟩:=zlh w4 hv;obtain ⟨hi2,rfl⟩:=yam.mp he;have s5:Same H4 H5:=fun b o e=>k5 b o (zad e hC) e;have hel:=w5.length;have hfl:=ya2 (fun e:DeT=>decide (e.a=(kn:Int)∧e.b=x)) (O.take i2);rw[yan]at hfl;refine ⟨_,rfl,_,rfl,zlE (n:=2) (s5 _ _ hu) fun v1 H6 s6 h6=>?_⟩;have h6:H6 v1=some (.tup [.int O[i2].a,.int O[i2].b]):=h6;refine ⟨_,rfl,_,rfl,(by show 2≤sizeLine;decide),fun v2 hv2=>?_⟩;have s7:=zah hv2 (.tup [.int kn,.int x]);have h7:upd H6 v2 (.tup [.int kn,.int x]) v2=some (.tup [.int kn,.int x]):=zab;generalize upd H6 v2 (.tup [.int kn,.int x])=H7 at s7 h7 ⊢;have s57:=s6.trans s7;have c7:=s57 _ _ h5;have k7:But C H4 H7:=fun b o n e=>s57 _ _ (k5 b o n e);refine ⟨(O[i2].a,O[i2].b),((kn:Int),x),⟨v1,_,_,rfl,s7 _ _ h6,rfl,rfl⟩,⟨v2,_,_,rfl,h7,rfl,rfl⟩,_,rfl,?_⟩;rw[yaK hi2,ybp];by_cases c:O[i2].a=(kn:Int)∧O[i2].b=x
   ·rw[yae (show (O[i2].a,O[i2].b)=((kn:Int),x) from Prod.ext c.1 c.2)];have tp8:Tp H7 (upd H7 C (.lst (ws++[.ref u]))):=fun b us e=>by
     rw[zaf (fun z=>by rw[z,c7]at e;cases e)]
     exact e
    refine iteT ⟨_,rfl,_,c7,zaq (by omega),m - 1,by omega,by omega,_,ws++[.ref u],_,rfl,zab,zle tp8 ((w5.mono s57.ext).append (.one (zlf (s57 _ _ (s5 _ _ hu))))),?_,fun b o n e=>by rw[zaf n];exact k7 b o n e⟩;rw[ybq (p:=fun e:DeT=>decide (e.a=(kn:Int)∧e.b=x)) (l:=[]) (yae c),List.filter_nil]
   ·rw[yah (fun z=>c ⟨congrArg Prod.fst z,congrArg Prod.snd z⟩)];refine iteF ⟨m - 1,by omega,by omega,_,ws,_,rfl,c7,w5.mono s57.ext,?_,k7⟩;rw[ybO (by rw[yah c];decide),List.filter_nil,yaJ]
  ·rintro σ H5 ⟨x0,ws,es,rfl,h5,w5,rfl,k5⟩;rw[← wl,yao (yaa _)]at w5;have s5:Same H4 H5:=fun b o e=>k5 b o (zad e hC) e;refine ⟨(by show 0≤sizeLine;decide),fun l0 hl0=>?_⟩;have s6:=zah hl0 (.lst []);have h6:upd H5 l0 (.lst []) l0=some (.lst []):=zab;generalize upd H5 l0 (.lst [])=H6 at s6 h6 ⊢;have s46:=s5.trans s6;refine ⟨O.filter (fun e=>decide (e.a=(kn:Int)∧e.b=x)),([]:List DeT),⟨C,ws,rfl,SqL.of (s6 _ _ h5),w5.mono s6.ext⟩,⟨l0,[],rfl,SqL.of h6,.nil⟩,_,rfl,?_⟩;by_cases c:O.filter (fun e=>decide (e.a=(kn:Int)∧e.b=x))=[]
   ·rw[yae c];refine iteT ?_;have nin:∀ e∈O,¬(e.a=(kn:Int)∧e.b=x):=fun e he z=>by
     have:=ybz.mp c e he;exact this (yae z)
    have R6:=R4.tp fun b us e=>s46 _ _ e;refine ⟨_,rfl,.inl ⟨rfl,_,SqL.of (s46 _ _ h4)⟩,_,rfl,_,rfl,_,rfl,_,rfl,_,rfl,_,_,_,_,rfl,rfl,SqT.of R6.at_,ha,a,_,rfl,.inr (SqT.of (s46 _ _ hrow)),rfl,zj3 _,(by show 3≤sizeLine;decide),fun u hu=>?_⟩;rw[zhv,if_pos rfl];have s7:=zah hu (.tup [.int kn,.int x,.bl (!decide (x∈zai rows kn))]);have h7:upd H6 u (.tup [.int kn,.int x,.bl (!decide (x∈zai rows kn))]) u=some (.tup [.int kn,.int x,.bl (!decide (x∈zai rows kn))]):=zab;generalize upd H6 u (.tup [.int kn,.int x,.bl (!decide (x∈zai rows kn))])=H7 at s7 h7 ⊢;have s47:=s46.trans s7;have D7:=s47 _ _ h4;have tp8:Tp H7 (upd H7 D (.lst (us++[.ref u]))):=fun b us e=>by
     rw[zaf (fun z=>by rw[z,D7]at e;cases e)]
     exact e
    refine ⟨_,_,_,rfl,rfl,D7,zaq (by omega),?_⟩;refine ⟨us++[.ref u],O++[⟨kn,x,!decide (x∈zai rows kn)⟩],_,_,_,rfl,zab,zle tp8 ((w4.mono s47.ext).append (.one (zlf h7))),⟨fun e he=>?_,?_⟩,?_,fun b o z e=>?_,?_⟩
    ·rcases yai.mp he with z | z
     ·exact d3.each e z
     ·rw[yaj.mp z];exact ⟨kn,hkn,rfl,hx,rfl⟩
    ·refine yaG.mpr ⟨d3.diff,ycr _ _,fun e he f hf=>?_⟩;rw[yaj.mp hf];exact nin e he
    ·rw[yap,ybf];omega
    ·rw[zaf (fun y=>by rw[y,hD]at e;cases e)]
     exact s47 _ _ (k04 _ _ z e)
    ·exact hs.put hD (fun b o z1 _ e=>s47 _ _ (k04 _ _ z1 e)) (s4.same s47)
   ·rw[yah c];refine iteF ?_;exact ⟨us,O,_,_,_,rfl,s46 _ _ h4,w4.mono s46.ext,d3,by omega,fun b o z e=>s46 _ _ (k04 _ _ z e),s4.same s46⟩
 ·rintro σ H3 ⟨us,O,x4,x5,x6,rfl,h3,w3,d3,l3,k3,s3⟩;exact ⟨_,rfl,q D us O H3 hD h3 w3 d3 (by omega) k3 s3⟩
theorem TNow.beside {K:Frag}{CS mp a d sh1 p1 sh2 p2:Addr}{H H6:Hp}{qs1 qs2:List Addr}{ps:List Nat}{rows1 rows2:List (List Int)}{dx2 st2 t2 rs2:Addr}{as2:List Addr}(M:SNow K CS mp a H6 d sh1 p1 qs1 ps rows1)(s6:Same H6 H)(h3:H6 sh2=none)(h4:H6 p2=none)(h5:∀ q∈qs2,H6 q=none)(S:zaC K CS H sh2 dx2 st2 p2 qs2 ps rows2 t2 rs2 as2):TNow K CS mp a H d sh1 p1 sh2 p2 qs1 qs2 ps rows1 rows2:=by
 have kk:=M.kinds;have fr:∀{b:Addr},H6 b=none→b∉[sh1,p1]:=fun {b} e z=>by
  obtain ⟨o,e2,_⟩:=kk b z;rw[e]at e2;cases e2
 have nf:∀{b:Addr} {o:HO},H6 b=some o→b∉[sh2,p2]:=fun {b o} e z=>by
  simp only[yak,yaS,or_false]at z;rcases z with rfl | rfl
  ·rw[h3]at e;cases e
  ·rw[h4]at e;cases e
 refine ⟨M.same fun b o e=>zdd (s6 _ _ e) (nf e),⟨⟨dx2,st2,t2,rs2,as2,S.dl (fun b hb us z=>?_) (fr h3) (fun z=>?_) (fr h4) fun q hq=>fr (h5 q hq)⟩,zjr (M.tab.ext s6.ext) fun b hb=>?_,M.ls.same fun b o e=>?_⟩⟩
 ·obtain ⟨o,e,n,_⟩:=kk b hb;rw[s6 _ _ e]at z;exact n _ (yad z)
 ·obtain ⟨o,e,_,_,_,n⟩:=kk _ z;have:=S.own;rw[s6 _ _ e]at this;exact n _ (yad this)
 ·obtain ⟨o,e,_,n1,n2,_⟩:=kk b hb;exact ⟨o,s6 _ _ e,n1,n2⟩
 ·have nb:b∉[sh1,p1,mp]:=fun z=>by unfold dl at e;rw[if_pos z]at e;cases e
  have e6:=za7 _ _ e;have n2:=nf e6;refine zdd (zdd (s6 _ _ e6) fun z=>nb ?_) fun z=>?_
  ·simp only[yak,yaS,or_false]at z ⊢;rcases z with z | z
   ·exact .inl z
   ·exact .inr (.inl z)
  ·simp only[yak,yaS,or_false]at z;rcases z with z | z | z
   ·exact n2 (by simp[z])
   ·exact n2 (by simp[z])
   ·exact nb (by simp[z])
theorem zp6 {K:Frag}{H:Hp}{O:List DeT}{us:List V}(h:zak K H O us):zak K H O.reverse us.reverse:=by
 induction h with
 | nil=>exact .nil
 | cons a _ ih=>
  rw[ybL,ybL];exact ih.append (.one a)
def zd1 (rows:List (List Int))(S:List DeT)(r:List (List Int)):Prop:=∀(k:Nat) (y:Int),y∈zai r k↔(∃ e∈S,e.a=(k:Int)∧e.b=y∧e.c=true)∨(y∈zai rows k∧∀ e∈S,¬(e.a=(k:Int)∧e.b=y))
theorem zd1.flag {rows r:List (List Int)}{S:List DeT}{e:DeT}{kn:Nat}(h:zd1 rows S r)(ea:e.a=(kn:Int))(ec:e.c=!decide (e.b∈zai rows kn))(nd:∀ f∈S,¬(f.a=e.a∧f.b=e.b)):e.c=!decide (e.b∈zai r kn):=by
 have:e.b∈zai r kn↔e.b∈zai rows kn:=by
  rw[h];constructor
  ·rintro (⟨f,hf,z1,z2,_⟩ | ⟨z,_⟩)
   ·exact absurd ⟨z1.trans ea.symm,z2⟩ (nd f hf)
   ·exact z
  ·exact fun z=>.inr ⟨z,fun f hf w=>nd f hf ⟨w.1.trans ea.symm,w.2⟩⟩
 rw[ec];simp only[this]
theorem zd1.step {rows r:List (List Int)}{S S':List DeT}{e:DeT}{kn:Nat}(h:zd1 rows S r)(R:zaz r)(hk:kn < r.length)(ea:e.a=(kn:Int))(ec:e.c=!decide (e.b∈zai rows kn))(nd:∀ f∈S,¬(f.a=e.a∧f.b=e.b))(hS:∀ f,f∈S'↔f∈S∨f=e):zd1 rows S' (zaK r kn e.b e.c):=fun k y=>by
 rw[zbL hk (R.at_up kn) (h.flag ea ec nd),h];constructor
 ·rintro (⟨rfl,rfl,z⟩ | ⟨n,⟨f,hf,z⟩ | ⟨z1,z2⟩⟩)
  ·exact .inl ⟨e,(hS e).mpr (.inr rfl),ea,rfl,z⟩
  ·exact .inl ⟨f,(hS f).mpr (.inl hf),z⟩
  ·refine .inr ⟨z1,fun f hf w=>?_⟩;rcases (hS f).mp hf with hf | rfl
   ·exact z2 f hf w
   ·exact n ⟨by have:=w.1;rw[ea]at this;omega,w.2.symm⟩
 ·rintro (⟨f,hf,z1,z2,z3⟩ | ⟨z1,z2⟩)
  ·rcases (hS f).mp hf with hf | rfl
   ·refine .inr ⟨fun w=>nd f hf ⟨by rw[z1,w.1,ea],by rw[z2,w.2]⟩,.inl ⟨f,hf,z1,z2,z3⟩⟩
   ·exact .inl ⟨by rw[ea]at z1;omega,z2.symm,z3⟩
  ·refine .inr ⟨fun w=>z2 e ((hS e).mpr (.inr rfl)) ⟨by rw[ea,w.1],w.2.symm⟩,.inr ⟨z1,fun f hf=>z2 f ((hS f).mpr (.inl hf))⟩⟩
theorem zd1.one {rows r r':List (List Int)}{S S':List DeT}(h:zd1 rows S r)(h':zd1 rows S' r')(e:∀ f,f∈S↔f∈S')(hl:r.length=r'.length)(R:zaz r)(R':zaz r'):r=r':=zg7 hl R R' fun k y=>by
 rw[h,h'];simp only[e]
def zhR (K:Frag)(mp:Addr):Sp:=fun vs H Q _=>∃(a:Addr) (ns:List Int),vs=[.ref a]∧SqL K H a (ns.map V.int)∧ns.length≤63∧H mp=some (.tbl #[])∧∀ H',Q (.bl true) H'
theorem zrg (T:Txt K mg){mp:Addr}{CS:Addr}(O:OwnC K mg CS)(qcQ:DF K mg "law" znD zjK)(qcC:FC P w K mg base 1 "_law_begin" zdJ (zlA K))(qcI:FC P w K mg base 3 "_law_tree" zet (zoZ K))(qcJ:FC P w K mg base 5 "_law_rows" zeu (zo0 K))(qcu:FC P w K mg base 11 "_law_filled" zc3 (zjy K CS mp))(qbA:FC P w K mg base 3 "tree_of" zcN (zgX K))(qbf:FC P w K mg base 4 "stand_of" zcj (zeM K))(qb1:FI P w K mg base CS 9 zaZ (zjx K CS))(qaU:FC P w K mg base 8 "full_rows" zbY (ziF K))(qad:FC P w K mg base 5 "_law_fulls_of" zbI (zfQ K CS))(qcD:FC P w K mg base 4 "_law_deeds" zdI (zlz K))(qaP:FC P w K mg base 9 "_law_done" zdj (zdg K CS mp))(qah:FM P w K mg base CS 1 "stand" zbR (zls CS)):FC P w K mg base 12 "law" zjK (zhR K mp):=by
 refine qcQ.ok qay (fun vs H Q E h=>?_) (fun f cdv A outer s H vs Q E hr h=>?_)
 ·obtain ⟨a,ns,rfl,_⟩:=h;rfl
 obtain ⟨a,ns,rfl,hS,_,hmp,q⟩:=h;have hT0:za1 H mp zcq lamQ:=⟨#[],hmp,trivial,.inl rfl⟩;refine ⟨_,(zau (zar (i:=1) qay.nd rfl (Or.inl rfl) (zax qcC hr (zaa (pv 0) zac)))
   (zau (zar (i:=2) qay.nd rfl (Or.inl rfl) (zax qcI hr (zaa (pv 1) (zaa zaj zac))))
   (zau (zar (i:=3) qay.nd rfl (Or.inl rfl) (zax qcJ hr (zaa (pv 1) (zaa (zap zan rfl T.qan boot_len (zaa (pv 2) zac)) (zaa zaj zac)))))
   (zau (zar (i:=4) qay.nd rfl (Or.inl rfl) (zax qcu hr (zaa (pv 1) (zaa (pv 2) (zaa (pv 3) zac)))))
   (zau (zar (i:=5) qay.nd rfl (Or.inl rfl) (zpH qb1 hr O.mgC (zaa (zax qbf hr (zaa (zax qbA hr (zaa (pv 2) zac)) (zaa (pv 3) zac))) zac)))
   (zbF (zaW (PW.pt (zlK (zaw zra (pv 4) zfW (zaF _)) (zlK (zaw (zh0 (Tup (Option Int)×Tup (Tup Int)) (huD hr)) (zgC qah O.cl hr (pv 4)) (zgC qah O.cl hr (pv 5)) (zaF _)) (zjH (zaw (zh0 (List (List (Int×Int))) (huD hr)) (zax qad hr (zaa (pv 4) (zaa (pv 2) zac))) (zax qad hr (zaa (pv 5) (zaa (pv 2) zac))) (zaF _)))))) (zae (zav zdU)) zay)
   (zau (zar (i:=6) qay.nd rfl (Or.inl rfl) (zax qcD hr (zaa (pv 1) (zaa (pv 2) (zaa (pv 3) zac)))))
   (zau (zbd PassesOwn.never rfl (zb2 (pv 6)) (zgB rfl (za5 (zat (i:=7) qay.nd rfl (Or.inl rfl)) (za5 (zat (i:=8) qay.nd rfl (Or.inl rfl)) (za5 (zat (i:=9) qay.nd rfl (Or.inl rfl)) zeR)))) (zae (zaW (zcM (zbV (zax qaP hr (zaa (pv 4) (zaa (pv 2) (zaa (pv 7) (zaa (pv 8) (zaa (pv 9) zac)))))))) (zae (zav zdU)) zay)))
   (zau (zbd PassesOwn.never rfl (zfV rfl T.qbJ (zaa (pv 6) zac)) (zgB rfl (za5 (zat (i:=7) qay.nd rfl (Or.inl rfl)) (za5 (zat (i:=8) qay.nd rfl (Or.inl rfl)) (za5 (zat (i:=9) qay.nd rfl (Or.inl rfl)) zeR)))) (zae (zaW (zcM (zbV (zax qaP hr (zaa (pv 5) (zaa (pv 2) (zaa (pv 7) (zaa (pv 8) (zaa (pv 9) zac)))))))) (zae (zav zdU)) zay)))
   (zbF (zaW (PW.pt (zlK (zaw (zh0 (Tup (Option Int)×Tup (Tup Int)) (huD hr)) (zgC qah O.cl hr (pv 4)) (zgC qah O.cl hr (pv 5)) (zaF _)) (zjH (zaw (zh0 (List (List (Int×Int))) (huD hr)) (zax qad hr (zaa (pv 4) (zaa (pv 2) zac))) (zax qad hr (zaa (pv 5) (zaa (pv 2) zac))) (zaF _))))) (zae (zav zdU)) zay)
   (zau (zar (i:=10) qay.nd rfl (Or.inl rfl) (zpH qb1 hr O.mgC (zaa (zgC qah O.cl hr (pv 4)) zac)))
   (zbF (zaW (zaw (zh0 (List (List (Int×Int))) (huD hr)) (zax qad hr (zaa (pv 10) (zaa (pv 2) zac))) (zax qad hr (zaa (pv 4) (zaa (pv 2) zac))) (zaF _)) (zae (zav zdU)) zay)
   (zae (zav (zd6 (zjS (List (List (Int×Int))) (huD hr)) (zax qaU hr (zaa (zgC qah O.cl hr (pv 4)) zac)) (zax qad hr (zaa (pv 4) (zaa (pv 2) zac))) (zaF _)))))))))))))))),?_⟩
 intro N1 n1;refine ⟨_,rfl,a,ns,rfl,hS,fun d H1 _ g1 s1=>n1 _ _ ?_⟩;intro N2 n2;refine ⟨_,rfl,d,a,9,rfl,by decide,s1,fun t ps H2 ht hT hl h2 k2 s2=>n2 _ _ ?_⟩;intro N3 n3;refine ⟨_,rfl,_,rfl,_,_,rfl,.inr (SqT.of h2),?_⟩;refine ⟨d,a,(zbB ps).length,10,rfl,by rw[zas];omega,by omega,s2,fun r0 as0 rows0 H3 hr1 A1 hl1 R1 f1 h3 k3 s3=>n3 _ _ ?_⟩;intro N4 n4;rw[zas]at hl1;have h3t:=zeV s2 k3 _ _ h2;have w1:=zmt f1;have hkeys:zbm rows0≤90:=by omega
 have hps:ps.length≤8:=by omega
 have el:=zas ps;have hT3:za1 H3 mp zcq lamQ:=((hT0.ext g1.ext).ext (s1.ext k2)).ext (s2.ext k3);have f1':∀ k,(zai rows0 k).length≤10:=fun k=>by
  unfold zai;rw[yaf];cases e:rows0[k]? with
  | none=>exact yaF _
  | some r=>exact f1 r (yaD e)
 obtain ⟨tb3,htb3,_⟩:=hT3.ex;refine ⟨_,rfl,_,rfl,_,rfl,d,a,t,r0,ps,rows0,as0,rfl,h3t,hps,hT,⟨h3,A1⟩,hl1,R1,f1',s3,hT3,fun sh1 p1 qs1 H4 hsh1 hp1 M4 k4=>n4 _ _ ?_⟩;have tp4:Tp H3 H4:=fun b us e=>k4 b _ (zml s3 e) (fun z=>by rw[z,htb3]at e;cases e) e
 have t4:=tp4 _ _ h3t;have r4:zd0 H4 r0 as0 rows0:=zd0.tp ⟨h3,A1⟩ tp4;clear k4 tp4;intro N5 n5;refine ⟨_,rfl,t,ps,rfl,t4,hT,by omega,fun H5 s5=>?_⟩;refine ⟨_,rfl,t,r0,ps,rows0,as0,rfl,s5 _ _ t4,.inr (s5 _ _ r4.at_),pImp (fun a row e=>⟨row,.inr (s5 _ _ e),List.Perm.refl _⟩) r4.rows,hl1,hT,R1,by omega,by omega,fun st2 rs2 bs2 H6 hst2 s6 S6=>?_⟩;have s46:=s5.trans s6;intro sh2 dx2 hsh2 hdx2 hne2;refine zeU S6 hsh2 hdx2 hne2 fun p2 qs2 H7 hp2 hqs2 s7 S7=>⟨rfl,n5 _ _ ?_⟩;have s47:=s46.trans s7;have M7:TNow K CS mp a H7 d sh1 p1 sh2 p2 qs1 qs2 ps rows0 rows0:=TNow.beside M4 s47 (s46.free hsh2) (s46.free hp2) (fun q hq=>s46.free (hqs2 q hq)) S7;have t7:=s47 _ _ t4;have r7:zd0 H7 r0 as0 rows0:=r4.tp fun b us e=>s47 _ _ e;clear M4 S6 S7 t4 r4 s47 s46;have alike:∀(HA:Hp) (qs1 qs2:List Addr) (ro:List (List Int)),TNow K CS mp a HA d sh1 p1 sh2 p2 qs1 qs2 ps ro ro→HA t=some (.tup (zbB ps))→
   ∃ dx1 st1 t1 rs1 as1 dx2 st2 t2 rs2 as2,zaC K CS HA sh1 dx1 st1 p1 qs1 ps ro t1 rs1 as1∧zaC K CS HA sh2 dx2 st2 p2 qs2 ps ro t2 rs2 as2:=fun HA qs1 qs2 ro M _=>by
  obtain ⟨dx1,st1,t1,rs1,as1,S1⟩:=M.real1.shelf;obtain ⟨dx2,st2,t2,rs2,as2,S2⟩:=M.real2.shelf;exact ⟨dx1,st1,t1,rs1,as1,dx2,st2,t2,rs2,as2,S1,S2⟩
 refine ⟨fun σ' H'=>σ'=[some (.ref a),some (.ref d),some (.ref t),some (.ref r0),some (.ref sh1),some (.ref sh2),none,none,none,none,none]∧Same H7 H',?_,?_⟩
 ·intro N6 n6;obtain ⟨dx1,st1,t1,rs1,as1,dx2,st2,t2,rs2,as2,S1,S2⟩:=alike H7 qs1 qs2 rows0 M7 t7;refine ⟨_,rfl,rfl,_,rfl,?_⟩;refine iteF ?_;refine ⟨_,rfl,sh1,dx1,_,rfl,S1.ins,rfl,sh1,dx1,st1,p1,rfl,S1.ins,_,rfl,sh2,dx2,_,rfl,S2.ins,rfl,sh2,dx2,st2,p2,rfl,S2.ins,zhP ps rows0,zhP ps rows0,zef S1.stand,zef S2.stand,_,rfl,?_⟩;refine zh9 rfl ?_;refine ⟨_,rfl,_,rfl,sh1,dx1,st1,p1,t,qs1,ps,rows0,t1,rs1,as1,rfl,S1,t7,fun pa qa H8 _ _ s8 F8=>?_⟩;refine ⟨_,rfl,_,rfl,sh2,dx2,st2,p2,t,qs2,ps,rows0,t2,rs2,as2,rfl,S2.same s8,s8 _ _ t7,fun pb qb H9 _ _ s9 F9=>?_⟩;refine ⟨zda ps rows0,zda ps rows0,⟨pa,_,rfl,SqL.of (s9 _ _ F8.at_),F8.has.mono s9.ext⟩,⟨pb,_,rfl,SqL.of F9.at_,F9.has⟩,_,rfl,?_⟩;exact zh9 rfl (n6 _ _ ⟨rfl,s8.trans s9⟩)
 rintro _ H8 ⟨rfl,s8⟩;have M8:=M7.same s8;have t8:=s8 _ _ t7;have r8:=r7.tp fun b us e=>s8 _ _ e;clear M7 t7 r7;intro N7 n7;refine ⟨_,rfl,_,rfl,_,rfl,d,a,t,r0,ps,rows0,as0,rfl,t8,by omega,r8,hl1,R1,fun k=>yaw (f1' k) (by decide),M8.real1.lsH,fun D us O H9 hD h9 w9 d9 l9 k9 s9=>n7 _ _ ?_⟩;have M9:=M8.take k9 s9;have tp9:=zeV M8.real1.lsH k9;have t9:=tp9 _ _ t8;have nD:∀ b∈[sh1,p1,sh2,p2,mp],D≠b:=fun b hb z=>by
  subst z;obtain ⟨tb,etb,_⟩:=M8.real1.tab.ex;simp only[yak,yaS,or_false]at hb;rcases hb with z | z | z | z | z
  ·obtain ⟨o,e,_⟩:=M8.real1.kinds D (by simp[z]);rw[hD]at e;cases e
  ·obtain ⟨o,e,_⟩:=M8.real1.kinds D (by simp[z]);rw[hD]at e;cases e
  ·obtain ⟨o,e,_⟩:=M8.real2.kinds D (by simp[z]);rw[hD]at e;cases e
  ·obtain ⟨o,e,_⟩:=M8.real2.kinds D (by simp[z]);rw[hD]at e;cases e
  ·rw[z,etb]at hD;cases hD
 clear M8 t8 r8 k9 s9 tp9;have wl:=w9.length;have go:∀{HA HB:Hp} {sh p dx:Addr} {qs qs':List Addr} {st' t1 rs':Addr} {as':List Addr} {ro:List (List Int)},(sh=sh1∧p=p1∨sh=sh2∧p=p2)→HA D=some (.lst us)→Tp H9 HA→(∃ tb,HA mp=some (.tbl tb))→(∃ o,HA sh=some o∧∀ us,o≠.tup us)→(∃ o,HA p=some o∧∀ us,o≠.tup us)→zgm K CS mp HA HB sh dx p qs qs' st' t1 rs' as' ps ro→HB D=some (.lst us)∧Tp H9 HB:=fun {HA HB sh p dx qs qs' st' t1 rs' as' ro} hc hDA tpA hm hs hp X=>by
  obtain ⟨tb,hm⟩:=hm;obtain ⟨o1,e1,n1⟩:=hs;obtain ⟨o2,e2,n2⟩:=hp;refine ⟨X.kd _ _ ?_ ?_ (nD mp (by simp)) hDA,fun b us e=>X.kd b _ (fun z=>?_) (fun z=>?_) (fun z=>?_) (tpA _ _ e)⟩
  ·rcases hc with ⟨z,_⟩ | ⟨z,_⟩
   ·rw[z];exact nD sh1 (by simp)
   ·rw[z];exact nD sh2 (by simp)
  ·rcases hc with ⟨_,z⟩ | ⟨_,z⟩
   ·rw[z];exact nD p1 (by simp)
   ·rw[z];exact nD p2 (by simp)
  ·have:=tpA _ _ e;rw[z,e1]at this;exact n1 _ (yad this)
  ·have:=tpA _ _ e;rw[z,e2]at this;exact n2 _ (yad this)
  ·have:=tpA _ _ e;rw[z,hm]at this;cases this
 intro N8 n8;refine ⟨_,rfl,D,rfl,⟨_,SqL.of h9⟩,?_⟩;refine zcF (xs:=us) (fun i σ HA=>∃(qs1:List Addr) (ro:List (List Int)) (x7 x8 x9:Option V),σ=[some (.ref a),some (.ref d),some (.ref t),some (.ref r0),some (.ref sh1),some (.ref sh2),some (.ref D),x7,x8,x9,none]∧TNow K CS mp a HA d sh1 p1 sh2 p2 qs1 qs2 ps ro rows0∧HA D=some (.lst us)∧Tp H9 HA∧zd1 rows0 (O.take i) ro∧zbm ro≤90+i) ?_ ?_ ?_ ?_
 ·exact ⟨qs1,rows0,_,_,_,rfl,M9,h9,(fun _ _ e=>e),fun k y=>by simp,hkeys⟩
 ·rintro i σ HA _ ⟨qs1,ro,x7,x8,x9,rfl,_,hA,_⟩;exact SqL.of hA
 ·rintro i v σ HA hv ⟨qs1,ro,x7,x8,x9,rfl,MA,DA,tpA,bA,kA⟩;obtain ⟨e,u,he,rfl,hu⟩:=zlh w9 hv;obtain ⟨hi,rfl⟩:=yam.mp he;obtain ⟨kn,hkn,ekn,hx,hc⟩:=d9.each _ (yaN hi);have nd:∀ f∈O.take i,¬(f.a=O[i].a∧f.b=O[i].b):=fun f hf=>by
   obtain ⟨j,hj,rfl⟩:=yaz hf;rw[yan]at hj;rw[ybn];exact yaV.mp d9.diff j i (by omega) hi (by omega)
  have hS':∀ f,f∈O.take (i+1)↔f∈O.take i∨f=O[i]:=fun f=>by rw[yaK hi,yai,yaj]
  generalize O[i]=e at hu ekn hx hc nd hS';rw[ekn]at hu;refine ⟨u,_,rfl,SqT.of (tpA _ _ hu),rfl,_,_,rfl,_,_,rfl,_,_,rfl,rfl,?_⟩;refine zmC fun N B R hN hB hR=>?_;obtain ⟨dx,st1,t1,rs1,as1,SA⟩:=MA.real1.shelf;obtain ⟨tb,etb,_⟩:=MA.real1.tab.ex;have hkr:kn < ro.length:=by rw[SA.stand.len];exact hkn
  have hkd:=zcg (x:=e.b) (b:=e.c) hkr;refine ⟨_,rfl,_,rfl,_,rfl,_,rfl,_,rfl,?_⟩;show zdg K CS mp [.ref sh1,.ref t,.int kn,.int e.b,.bl e.c] HA _ _;refine zi6 SA (tpA _ _ t9) (by omega) hkn hx (bA.flag ekn hc nd) (by omega) MA.real1.tab fun qs' st' rs' as' HB X=>⟨_,rfl,?_⟩;obtain ⟨DB,tpB⟩:=go (.inl ⟨rfl,rfl⟩) DA tpA ⟨tb,etb⟩ ⟨_,SA.ins,fun _ z=>nomatch z⟩ ⟨_,SA.full.at_,fun _ z=>nomatch z⟩ X;exact iteF (hN _ _ ⟨qs',_,_,_,_,rfl,MA.done X,DB,tpB,bA.step SA.stand.R hkr ekn hc nd hS',by omega⟩)
 clear M9;rintro σ HA ⟨qs1,ro1,x7,x8,x9,rfl,MA,DA,tpA,bA,kA⟩;refine n8 _ _ ?_;rw[← wl,yao (yaa _)]at bA;have wA:=zp6 w9;intro N9 n9;refine ⟨_,rfl,D,us,rfl,SqL.of DA,?_⟩;refine zmP (xs:=us) (fun i σ HB=>∃(qs2:List Addr) (ro:List (List Int)) (x7 x8 x9:Option V),σ=[some (.ref a),some (.ref d),some (.ref t),some (.ref r0),some (.ref sh1),some (.ref sh2),some (.ref D),x7,x8,x9,none]∧TNow K CS mp a HB d sh1 p1 sh2 p2 qs1 qs2 ps ro1 ro∧HB D=some (.lst us)∧Tp H9 HB∧zd1 rows0 (O.reverse.take i) ro∧zbm ro≤90+i) ?_ ?_ ?_ ?_
 ·exact ⟨qs2,rows0,_,_,_,rfl,MA,DA,tpA,fun k y=>by simp,hkeys⟩
 ·rintro i σ HB _ ⟨qs2,ro,x7,x8,x9,rfl,_,hB,_⟩;exact SqL.of hB
 ·clear MA DA tpA;rintro i v σ HA hv ⟨qs2,ro,x7,x8,x9,rfl,MA,DA,tpA,bA,kA⟩;obtain ⟨e,u,he,rfl,hu⟩:=zlh wA hv;obtain ⟨hi,rfl⟩:=yam.mp he;obtain ⟨kn,hkn,ekn,hx,hc⟩:=d9.each _ (ybx.mp (yaN hi));have dr:O.reverse.Pairwise fun e f=>¬(e.a=f.a∧e.b=f.b):=List.pairwise_reverse.mpr (d9.diff.imp fun {e f} h z=>h ⟨z.1.symm,z.2.symm⟩);have nd:∀ f∈O.reverse.take i,¬(f.a=O.reverse[i].a∧f.b=O.reverse[i].b):=fun f hf=>by
   obtain ⟨j,hj,rfl⟩:=yaz hf;rw[yan]at hj;rw[ybn];exact yaV.mp dr j i (by omega) hi (by omega)
  have hS':∀ f,f∈O.reverse.take (i+1)↔f∈O.reverse.take i∨f=O.reverse[i]:=fun f=>by rw[yaK hi,yai,yaj]
  have hil:i < us.length:=by rw[← wl,← ybA];exact hi
  generalize O.reverse[i]=e at hu ekn hx hc nd hS';rw[ekn]at hu;refine ⟨u,_,rfl,SqT.of (tpA _ _ hu),rfl,_,_,rfl,_,_,rfl,_,_,rfl,rfl,?_⟩;refine zmC fun N B R hN hB hR=>?_;obtain ⟨dx,st1,t1,rs1,as1,SA⟩:=MA.real2.shelf;obtain ⟨tb,etb,_⟩:=MA.real1.tab.ex;have hkr:kn < ro.length:=by rw[SA.stand.len];exact hkn
  have hkd:=zcg (x:=e.b) (b:=e.c) hkr;refine ⟨_,rfl,_,rfl,_,rfl,_,rfl,_,rfl,?_⟩;show zdg K CS mp [.ref sh2,.ref t,.int kn,.int e.b,.bl e.c] HA _ _;refine zi6 SA (tpA _ _ t9) (by omega) hkn hx (bA.flag ekn hc nd) (by omega) MA.real1.tab fun qs' st' rs' as' HB X=>⟨_,rfl,?_⟩;obtain ⟨DB,tpB⟩:=go (.inr ⟨rfl,rfl⟩) DA tpA ⟨tb,etb⟩ ⟨_,SA.ins,fun _ z=>nomatch z⟩ ⟨_,SA.full.at_,fun _ z=>nomatch z⟩ X;exact iteF (hN _ _ ⟨qs',_,_,_,_,rfl,(MA.swap.done X).swap,DB,tpB,bA.step SA.stand.R hkr ekn hc nd hS',by omega⟩)
 clear MA DA tpA;rintro σ HB ⟨qs2,ro2,x7',x8',x9',rfl,MB,DB,tpB,bB,kB⟩;refine n9 _ _ ?_;rw[← wl,← ybA,yao (yaa _)]at bB;have tB:=tpB _ _ t9;obtain ⟨dx1,st1,t1,rs1,as1,S1⟩:=MB.real1.shelf;have er:ro2=ro1:=by
  obtain ⟨dx2,st2,t2,rs2,as2,S2⟩:=MB.real2.shelf;exact bB.one bA (fun f=>ybx) (by rw[S1.stand.len,S2.stand.len]) S2.stand.R S1.stand.R
 subst er;refine ⟨fun σ' H'=>σ'=[some (.ref a),some (.ref d),some (.ref t),some (.ref r0),some (.ref sh1),some (.ref sh2),some (.ref D),x7',x8',x9',none]∧Same HB H',?_,?_⟩
 ·intro N6 n6;obtain ⟨dx2,st2,t2,rs2,as2,S2⟩:=MB.real2.shelf;refine ⟨_,rfl,sh1,dx1,_,rfl,S1.ins,rfl,sh1,dx1,st1,p1,rfl,S1.ins,_,rfl,sh2,dx2,_,rfl,S2.ins,rfl,sh2,dx2,st2,p2,rfl,S2.ins,zhP ps ro2,zhP ps ro2,zef S1.stand,zef S2.stand,_,rfl,?_⟩;refine zh9 rfl ?_;refine ⟨_,rfl,_,rfl,sh1,dx1,st1,p1,t,qs1,ps,ro2,t1,rs1,as1,rfl,S1,tB,fun pa qa H8 _ _ s8 F8=>?_⟩;refine ⟨_,rfl,_,rfl,sh2,dx2,st2,p2,t,qs2,ps,ro2,t2,rs2,as2,rfl,S2.same s8,s8 _ _ tB,fun pb qb H9 _ _ s9 F9=>?_⟩;refine ⟨zda ps ro2,zda ps ro2,⟨pa,_,rfl,SqL.of (s9 _ _ F8.at_),F8.has.mono s9.ext⟩,⟨pb,_,rfl,SqL.of F9.at_,F9.has⟩,_,rfl,?_⟩;exact zh9 rfl (n6 _ _ ⟨rfl,s8.trans s9⟩)
 rintro _ HC ⟨rfl,sC⟩;have SC:=S1.same sC;have tC:=sC _ _ tB;clear MB S1 bA bB;intro N10 n10;refine ⟨_,rfl,sh1,dx1,_,rfl,SC.ins,rfl,sh1,dx1,st1,p1,rfl,SC.ins,?_⟩;intro sh3 dx3 hsh3 hdx3 hne3;refine zeU SC.stand hsh3 hdx3 hne3 fun p3 qs3 HD hp3 hqs3 sD S3=>⟨rfl,n10 _ _ ?_⟩;have SD:=SC.same sD;have tD:=sD _ _ tC;refine ⟨fun σ' H'=>Same HD H'∧∃ σ0:L2.St,σ'=[some (.ref a),some (.ref d),some (.ref t),some (.ref r0),some (.ref sh1),some (.ref sh2),some (.ref D),x7',x8',x9',some (.ref sh3)],?_,?_⟩
 ·intro N6 n6;refine ⟨_,rfl,_,rfl,sh3,dx3,st1,p3,t,qs3,ps,ro2,t1,rs1,as1,rfl,S3,tD,fun pa qa H8 _ _ s8 F8=>?_⟩;refine ⟨_,rfl,_,rfl,sh1,dx1,st1,p1,t,qs1,ps,ro2,t1,rs1,as1,rfl,SD.same s8,s8 _ _ tD,fun pb qb H9 _ _ s9 F9=>?_⟩;refine ⟨zda ps ro2,zda ps ro2,⟨pa,_,rfl,SqL.of (s9 _ _ F8.at_),F8.has.mono s9.ext⟩,⟨pb,_,rfl,SqL.of F9.at_,F9.has⟩,_,rfl,?_⟩;exact zh9 rfl (n6 _ _ ⟨s8.trans s9,[],rfl⟩)
 rintro _ HE ⟨sE,_,rfl⟩;have SE:=SD.same sE;have tE:=sE _ _ tD;refine ⟨_,rfl,sh1,dx1,_,rfl,SE.ins,rfl,sh1,dx1,st1,p1,rfl,SE.ins,st1,ps,ro2,t1,rs1,as1,rfl,SE.stand,fun pf qf HF hpf sF g2 nd hq np F=>?_⟩;have FD:=F.fa g2 nd np;refine ⟨_,rfl,_,rfl,sh1,dx1,st1,p1,t,qs1,ps,ro2,t1,rs1,as1,rfl,SE.same sF,sF _ _ tE,fun pb qb HG _ _ sG F9=>?_⟩;refine ⟨zda ps ro2,zda ps ro2,⟨pf,_,rfl,SqL.of (sG _ _ FD.at_),FD.has.mono sG.ext⟩,⟨pb,_,rfl,SqL.of F9.at_,F9.has⟩,?_⟩;rw[yae (Eq.refl (zda ps ro2))];exact q _
abbrev lawRoom:Nat:=12
theorem all_ok (T:Txt K mg){CS:Addr}(O:OwnC K mg CS){mc mp:Addr}(hBM:BMAt mg base)(qa8:DF K mg "is_whole" zdD zck)(qbV:DF K mg "is_key" zfA zdk)(qba:DF K mg "need_key" zdB zc2)(qcz:DF K mg "code" zjC zhb)(qaq:DF K mg "how_many_below" zbs zbi)(qbZ:DFT K mg "place" zeO zer mc mp)(qaQ:DF K mg "joined_up" zcX zbX)(qat:DF K mg "lowest_unlike" zbC zbv)(qbQ:DF K mg "turned" zft zep)(qbR:DF K mg "labels" zfv zes)(qaJ:DF K mg "neighbours" zcx zbG)(qaK:DF K mg "least_free" zcy zb9)(qbu:DF K mg "colours" zem zdK)(qch:DF K mg "marks" zg3 zfD)(qbS:DF K mg "handed" zfB zdl)(qak:DF K mg "is_one_of_first" zbg zaP)(qbz:DF K mg "tree_of" zei zcN)(qaV:DF K mg "need_knot" zcW zbW)(qa7:DF K mg "children" zdE zc4)(qbv:DF K mg "beneath" zen zdL)(qbY:DF K mg "row_of" zfu zeq)(qav:DF K mg "long_together" zbD za9)(qbb:DF K mg "stand_of" zdA zcj)(qbc:DF K mg "with_row" zdz zci)(qaC:DF K mg "own_entries" zb7 zbQ)(qai:DF K mg "full_rows_beneath" za2 zaX)(qaS:DF K mg "full_rows" zcY zbY)(qbw:DF K mg "without" zeh zdF)(qbs:DF K mg "_law_begin" zel zdJ)(qbr:DF K mg "_law_mixed" zej zdG)(qbP:DF K mg "_law_take" zfx zbH)(qcg:DF K mg "_law_key" zg5 zdH)(qbT:DF K mg "_law_tree" zfw zet)(qci:DF K mg "_law_row" zg4 zfE)(qbX:DF K mg "_law_rows" zfy zeu)(qaN:DF K mg "_law_fulls_of" zcz zbI)(qb0:DF K mg "_law_done" zfz zdj)(qbe:DF K mg "_law_filled" zdC zc3)(qbB:DF K mg "_law_deeds" zek zdI)(qcQ:DF K mg "law" znD zjK)(qao:DI K CS "Shelf.__init__" zbu zaZ)(qau:DM K CS "row_for" "Shelf.row_for" zbE zba)(qap:DM K CS "carry_up" "Shelf.carry_up" zbt zaY)(qaX:DM K CS "put" "Shelf.put" zcZ zcB)(qaY:DM K CS "out" "Shelf.out" zc0 zcC)(qaD:DM K CS "stand" "Shelf.stand" zb8 zbR)(qaM:DM K CS "full" "Shelf.full" zcA zca):FC P w K mg base 12 "law" zjK (zhR K mp):=
 have m:=znX (P:=P) (w:=w) (base:=base) T qbr;have t:=zpP T qbP m;have c:=zpU (P:=P) (w:=w) (base:=base) T qcz;have nb:=zhi (P:=P) (w:=w) (base:=base) T qaJ;have mk:=znY T qch (zl4 T qbR c (zl0 T qbQ (zrf T qat))) (zkv T qbu nb (zhj T qaK)) nb;have hd:=zl6 T qbS mk;have ch:=ziP (P:=P) (w:=w) (base:=base) T qa7;have jo:=zl5 (P:=P) (w:=w) (base:=base) T qaQ;have fr:=zrj T qai (zkw T qbv) ch hd (zrd T qaC) jo;have wh:=znT (P:=P) (w:=w) (base:=base) T qa8;have lg:=zpR (P:=P) (w:=w) (base:=base) T qav;have ik:=zn2 T qbV wh;have so:=ziO T qbb (zl2 T qbY ik) lg;have fi:=zn5 T qak wh;have ky:=zrh T qcg t;have kn:=zn1 T qaV fi;have rf:=zl3 T O qau kn (znW T qba ik);have pl:=znV (P:=P) (w:=w) (base:=base) T qbZ hBM (fun b=>zri (base:=b) T qaq);have wr:=zpO (P:=P) (w:=w) (base:=base) T qbc;have cu:=zn7 T O qap hd jo (zkt T qbw);have pu:=zrc T O qaX rf lg pl wr cu;have ou:=zre T O qaY rf pl wr cu;have fl:=zn3 T qaS fr;have ini:=zpS T O qao fl;have fo:=zku T O qaN (zn4 T O qaM kn);have dn:=zpT T O qb0 fo pu ou;have tr:=zl1 T qbz fi
 zrg T O qcQ (zn8 T qbs) (znZ T qbT t) (zn0 T qbX t (zpQ T qci t ky)) (zl7 T O qbe t ky tr so ini dn) tr so ini fl fo (zn6 T qbB t ky) dn (znU O qaD)
end
theorem u1 {P:List Value→Prop}(h:∀ a,P [a])(us:List Value)(hl:us.length=1):P us:=by
 rcases us with _ | ⟨a,_ | ⟨z,us⟩⟩
 ·cases hl
 ·exact h a
 ·exact absurd hl (by simp)
theorem u2 {P:List Value→Prop}(h:∀ a b,P [a,b])(us:List Value)(hl:us.length=2):P us:=by
 rcases us with _ | ⟨a,_ | ⟨b,_ | ⟨z,us⟩⟩⟩
 ·cases hl
 ·cases hl
 ·exact h a b
 ·exact absurd hl (by simp)
theorem u3 {P:List Value→Prop}(h:∀ a b c,P [a,b,c])(us:List Value)(hl:us.length=3):P us:=by
 rcases us with _ | ⟨a,_ | ⟨b,_ | ⟨c,_ | ⟨z,us⟩⟩⟩⟩
 ·cases hl
 ·cases hl
 ·cases hl
 ·exact h a b c
 ·exact absurd hl (by simp)
theorem u4 {P:List Value→Prop}(h:∀ a b c d,P [a,b,c,d])(us:List Value)(hl:us.length=4):P us:=by
 rcases us with _ | ⟨a,_ | ⟨b,_ | ⟨c,_ | ⟨d,_ | ⟨z,us⟩⟩⟩⟩⟩
 ·cases hl
 ·cases hl
 ·cases hl
 ·cases hl
 ·exact h a b c d
 ·exact absurd hl (by simp)
theorem u5 {P:List Value→Prop}(h:∀ a b c d e,P [a,b,c,d,e])(us:List Value)(hl:us.length=5):P us:=by
 rcases us with _ | ⟨a,_ | ⟨b,_ | ⟨c,_ | ⟨d,_ | ⟨e,_ | ⟨z,us⟩⟩⟩⟩⟩⟩
 ·cases hl
 ·cases hl
 ·cases hl
 ·cases hl
 ·cases hl
 ·exact h a b c d e
 ·exact absurd hl (by simp)
structure AD (K:Frag)(x:Str)(st:Stmt):Prop where
 ex:∃(f:Addr) (oc:Value) (od:Option Addr) (kV dc pm:Value) (an:Option Addr) (cd ct:Value) (sl:Array (Option Value)),nsIn K mainGlobals x=some (some (.ref f))∧K.lookup f=some ⟨oc,od,.func (fnOf x x (zbK st) (za8 st) (zag st) .none kV dc pm an cd ct),sl⟩∧codeIn K cd x=true∧keepIn K (.ref f)=true
theorem AD.of {K:Frag}{x:Str}{st:Stmt}{f:Addr}{oc:Value}{od:Option Addr}{kV dc pm:Value}{an:Option Addr}{cd ct:Value}{sl:Array (Option Value)}(a:nsIn K mainGlobals x=some (some (.ref f)))(l:K.lookup f=some ⟨oc,od,.func (fnOf x x (zbK st) (za8 st) (zag st) .none kV dc pm an cd ct),sl⟩)(c:codeIn K cd x=true)(k:keepIn K (.ref f)=true):AD K x st:=⟨f,oc,od,kV,dc,pm,an,cd,ct,sl,a,l,c,k⟩
theorem AD.df {K:Frag}{h:Heap}{mg:Str→Option Value}{x:Str}{st:Stmt}{ps:List Str}(a:AD K x st)(X:K.In h)(G:h.Ns mainGlobals mg)
  (hb:∀(kV doc pm:Value) (an:Option Addr) (cdv ct:Value) (us:List Value),us.length=ps.length→bindArgs (fnOf x x (zbK st) (za8 st) (zag st) .none kV doc pm an cdv ct) ⟨us,[]⟩=pure (ps.zip us):=by
   first | exact fun _ _ _ _ _ _=>u1 fun _=>rfl | exact fun _ _ _ _ _ _=>u2 fun _ _=>rfl | exact fun _ _ _ _ _ _=>u3 fun _ _ _=>rfl | exact fun _ _ _ _ _ _=>u4 fun _ _ _ _=>rfl | exact fun _ _ _ _ _ _=>u5 fun _ _ _ _ _=>rfl | exact fun _ _ _ _ _ _=>u6 fun _ _ _ _ _ _=>rfl):DF K mg x st ps:=by
 obtain ⟨f,oc,od,kV,dc,pm,an,cd,ct,sl,a,l,c,k⟩:=a.ex;exact ⟨_,_,zf7 l c k,(zf7 l c k).binds hb,mg_of X G a⟩
theorem AD.dft {K:Frag}{h:Heap}{mg:Str→Option Value}{x:Str}{st:Stmt}{ps:List Str}{mc mp:Addr}(a:AD K x st)(X:K.In h)(G:h.Ns mainGlobals mg)(t:tabIn K x=some (mc,mp))(hh:codeHdIn K mc mp=true)
  (hb:∀(kV doc pm:Value) (an:Option Addr) (cdv ct:Value) (us:List Value),us.length=ps.length→bindArgs (fnOf x x (zbK st) (za8 st) (zag st) .none kV doc pm an cdv ct) ⟨us,[]⟩=pure (ps.zip us):=by
   first | exact fun _ _ _ _ _ _=>u1 fun _=>rfl | exact fun _ _ _ _ _ _=>u2 fun _ _=>rfl | exact fun _ _ _ _ _ _=>u3 fun _ _ _=>rfl | exact fun _ _ _ _ _ _=>u4 fun _ _ _ _=>rfl | exact fun _ _ _ _ _ _=>u5 fun _ _ _ _ _=>rfl | exact fun _ _ _ _ _ _=>u6 fun _ _ _ _ _ _=>rfl):DFT K mg x st ps mc mp:=by
 obtain ⟨f,oc,od,kV,dc,pm,an,cd,ct,sl,a,l,c,k⟩:=a.ex;have e:cd=.ref mc:=L2.znu a l t;subst e;exact ⟨⟨_,_,_,_,_,_,_,_,_,l,c,k,mg_of X G a,(zf7 l c k).binds hb⟩,hh⟩
structure AM (K:Frag)(C:Addr)(m q:Str)(st:Stmt):Prop where
 ex:∃(f:Addr) (oc:Value) (od:Option Addr) (kV dc pm:Value) (an:Option Addr) (cd ct:Value) (sl:Array (Option Value)),findIn K (.ref C) m=some (some (.ref f))∧PySem.W.isFn K (.ref f)=true∧K.lookup f=some ⟨oc,od,.func (fnOf m q (zbK st) (za8 st) (zag st) .none kV dc pm an cd ct),sl⟩∧codeIn K cd q=true∧keepIn K (.ref f)=true
theorem AM.of {K:Frag}{C:Addr}{m q:Str}{st:Stmt}{f:Addr}{oc:Value}{od:Option Addr}{kV dc pm:Value}{an:Option Addr}{cd ct:Value}{sl:Array (Option Value)}(a:findIn K (.ref C) m=some (some (.ref f)))(i:PySem.W.isFn K (.ref f)=true)(l:K.lookup f=some ⟨oc,od,.func (fnOf m q (zbK st) (za8 st) (zag st) .none kV dc pm an cd ct),sl⟩)(c:codeIn K cd q=true)(k:keepIn K (.ref f)=true):AM K C m q st:=⟨f,oc,od,kV,dc,pm,an,cd,ct,sl,a,i,l,c,k⟩
theorem AM.dm {K:Frag}{C:Addr}{m q:Str}{st:Stmt}{ps:List Str}(a:AM K C m q st)
  (hb:∀(kV doc pm:Value) (an:Option Addr) (cdv ct:Value) (us:List Value),us.length=ps.length→bindArgs (fnOf m q (zbK st) (za8 st) (zag st) .none kV doc pm an cdv ct) ⟨us,[]⟩=pure (ps.zip us):=by
   first | exact fun _ _ _ _ _ _=>u1 fun _=>rfl | exact fun _ _ _ _ _ _=>u2 fun _ _=>rfl | exact fun _ _ _ _ _ _=>u3 fun _ _ _=>rfl | exact fun _ _ _ _ _ _=>u4 fun _ _ _ _=>rfl | exact fun _ _ _ _ _ _=>u5 fun _ _ _ _ _=>rfl | exact fun _ _ _ _ _ _=>u6 fun _ _ _ _ _ _=>rfl):DM K C m q st ps:=by
 obtain ⟨f,oc,od,kV,dc,pm,an,cd,ct,sl,a,i,l,c,k⟩:=a.ex;exact ⟨_,_,zf7 l c k,(zf7 l c k).binds hb,⟨a,i,k⟩⟩
theorem AM.di {K:Frag}{C:Addr}{q:Str}{st:Stmt}{ps:List Str}(a:AM K C "__init__" q st)(mk:PySem.W.makesIn K C=true)(kc:keepIn K (.ref C)=true)
  (hb:∀(kV doc pm:Value) (an:Option Addr) (cdv ct:Value) (us:List Value),us.length=ps.length→bindArgs (fnOf "__init__" q (zbK st) (za8 st) (zag st) .none kV doc pm an cdv ct) ⟨us,[]⟩=pure (ps.zip us):=by
   first | exact fun _ _ _ _ _ _=>u1 fun _=>rfl | exact fun _ _ _ _ _ _=>u2 fun _ _=>rfl | exact fun _ _ _ _ _ _=>u3 fun _ _ _=>rfl | exact fun _ _ _ _ _ _=>u4 fun _ _ _ _=>rfl | exact fun _ _ _ _ _ _=>u5 fun _ _ _ _ _=>rfl | exact fun _ _ _ _ _ _=>u6 fun _ _ _ _ _ _=>rfl):DI K C q st ps:=by
 obtain ⟨f,oc,od,kV,dc,pm,an,cd,ct,sl,a,i,l,c,k⟩:=a.ex;exact ⟨_,_,zf7 l c k,(zf7 l c k).binds hb,⟨mk,a,i,kc⟩⟩
theorem zrN {l:OpenLaw}{w:World}{K:Frag}{h:Heap}{mg:Str→Option Value}{fa mc6 mp6 CS:Addr}(X:K.In h)(G:h.Ns mainGlobals mg)(hfa:mg "law" = some (.ref fa)){t_KNOT_NUMBERS:Tok}{t_TURNS:Tok}{t_MOST_KNOTS:Tok}{t_MOST_KEYS:Tok}(a1:AD K "is_whole" zdD)(a2:AD K "is_key" zfA)(a3:AD K "need_key" zdB)(a4:AD K "code" zjC)(a5:AD K "how_many_below" zbs)(a6:AD K "place" zeO)(a7:AD K "joined_up" zcX)(a8:AD K "lowest_unlike" zbC)(a9:AD K "turned" zft)(a10:AD K "labels" zfv)(a11:AD K "neighbours" zcx)(a12:AD K "least_free" zcy)(a13:AD K "colours" zem)(a14:AD K "marks" zg3)(a15:AD K "handed" zfB)(a16:AD K "is_one_of_first" zbg)(a17:AD K "tree_of" zei)(a18:AD K "need_knot" zcW)(a19:AD K "children" zdE)(a20:AD K "beneath" zen)(a21:AD K "row_of" zfu)(a22:AD K "long_together" zbD)(a23:AD K "stand_of" zdA)(a24:AD K "with_row" zdz)(a25:AD K "own_entries" zb7)(a26:AD K "full_rows_beneath" za2)(a27:AD K "full_rows" zcY)(a28:AD K "without" zeh)(a29:AD K "_law_begin" zel)(a30:AD K "_law_mixed" zej)(a31:AD K "_law_take" zfx)(a32:AD K "_law_key" zg5)(a33:AD K "_law_tree" zfw)(a34:AD K "_law_row" zg4)(a35:AD K "_law_rows" zfy)(a36:AD K "_law_fulls_of" zcz)(a37:AD K "_law_done" zfz)(a38:AD K "_law_filled" zdC)(a39:AD K "_law_deeds" zek)(a40:AD K "law" znD)(t6:tabIn K "place" = some (mc6,mp6))(h6:codeHdIn K mc6 mp6=true)(o_C:nsIn K mainGlobals "Shelf" = some (some (.ref CS)))(o_g:PySem.W.plainGet K CS Str.empty=true)(o_h:PySem.W.hasDictIn K CS=true)(o_p:PySem.W.plainOver K CS=true)(o_s:findIn K (.ref CS) "__setattr__" = some (some (.builtin "object.__setattr__")))(o_m:PySem.W.makesIn K CS=true)(o_k:keepIn K (.ref CS)=true)(qcR:findIn K (.ref CS) "kept" = some none)(qcK:findIn K (.ref CS) "fulls" = some none)(qbk:AM K CS "__init__" "Shelf.__init__" zbu)(qbC:AM K CS "row_for" "Shelf.row_for" zbE)(qbl:AM K CS "carry_up" "Shelf.carry_up" zbt)(qcm:AM K CS "put" "Shelf.put" zcZ)(qcn:AM K CS "out" "Shelf.out" zc0)(qb2:AM K CS "stand" "Shelf.stand" zb8)(qb8:AM K CS "full" "Shelf.full" zcA)(qc5:nsIn K mainGlobals "abs" = some none)(qcY:nsIn K mainGlobals "bool" = some none)(qco:nsIn K mainGlobals "enumerate" = some none)(qc6:nsIn K mainGlobals "int" = some none)(qb9:nsIn K mainGlobals "isinstance" = some none)(qc7:nsIn K mainGlobals "len" = some none)(qcZ:nsIn K mainGlobals "list" = some none)(qc8:nsIn K mainGlobals "max" = some none)(qc9:nsIn K mainGlobals "min" = some none)(qcS:nsIn K mainGlobals "range" = some none)(qcv:nsIn K mainGlobals "reversed" = some none)(qda:nsIn K mainGlobals "set" = some none)(qcL:nsIn K mainGlobals "sorted" = some none)(qdb:nsIn K mainGlobals "sum" = some none)(qcT:nsIn K mainGlobals "tuple" = some none)(qdc:nsIn K mainGlobals "zip" = some none)(qbG:nsIn K mainGlobals "KNOT_NUMBERS" = some (some (.int 64 t_KNOT_NUMBERS)))(qcU:nsIn K mainGlobals "TURNS" = some (some (.int 5 t_TURNS)))(qca:nsIn K mainGlobals "MOST_KNOTS" = some (some (.int 40 t_MOST_KNOTS)))(qcp:nsIn K mainGlobals "MOST_KEYS" = some (some (.int 300 t_MOST_KEYS))) :
  ∃ fd:FuncData,(∀(s:Shared) (v:Value),BindsTo s fd ⟨[v],[]⟩ [("_law_script",v)])∧∀ base:Heap,K.In base→base.Ns mainGlobals mg→L2.BMAt mg base→FnOk l.prog w K mg base CX0 lawRoom fa fd ["_law_script"] (zhR K mp6):=by
 obtain ⟨f,oc,od,kV,dc,pm,an,cd,ct,sl,a,l,c,k⟩:=a40.ex;have e:=hfa.symm.trans (mg_of X G a);cases e
 have T:Txt K mg:=⟨mg_none_of X G qc5,mg_none_of X G qcY,mg_none_of X G qco,mg_none_of X G qc6,mg_none_of X G qb9,mg_none_of X G qc7,mg_none_of X G qcZ,mg_none_of X G qc8,mg_none_of X G qc9,mg_none_of X G qcS,mg_none_of X G qcv,mg_none_of X G qda,mg_none_of X G qcL,mg_none_of X G qdb,mg_none_of X G qcT,mg_none_of X G qdc,⟨_,mg_of X G qbG⟩,⟨_,mg_of X G qcU⟩,⟨_,mg_of X G qca⟩,⟨_,mg_of X G qcp⟩⟩;have O:OwnC K mg CS:=⟨⟨o_g,o_h,o_p,o_s⟩,mg_of X G o_C,qcR,qcK⟩;exact ⟨_,fun s v=>.of_eq rfl,fun base _ _ hBM=>(all_ok (P:=_) (w:=w) (base:=base) T O hBM (a1.df X G) (a2.df X G) (a3.df X G) (a4.df X G) (a5.df X G) (a6.dft X G t6 h6) (a7.df X G) (a8.df X G) (a9.df X G) (a10.df X G) (a11.df X G) (a12.df X G) (a13.df X G) (a14.df X G) (a15.df X G) (a16.df X G) (a17.df X G) (a18.df X G) (a19.df X G) (a20.df X G) (a21.df X G) (a22.df X G) (a23.df X G) (a24.df X G) (a25.df X G) (a26.df X G) (a27.df X G) (a28.df X G) (a29.df X G) (a30.df X G) (a31.df X G) (a32.df X G) (a33.df X G) (a34.df X G) (a35.df X G) (a36.df X G) (a37.df X G) (a38.df X G) (a39.df X G) (a40.df X G) (qbk.di o_m o_k) (qbC.dm) (qbl.dm) (qcm.dm) (qcn.dm) (qb2.dm) (qb8.dm)).at (mg_of X G a) l⟩
theorem walk {l:OpenLaw}{q:Program}{loose:List Str}{XP:(Str→Option Value)→Heap→Prop}{YP:World→Heap→Prop}{d:DefRec}{K:Params→Frag}{mc mp:Addr}(hn:l.most=some 63)(hdf:d.params.defaults=[])
  (hY:∀(w:World) (h:Heap),YP w h→(K w.params).In h) (hYT:∀(w:World) (h:Heap),YP w h→h.get? mp=some (PySem.W.tabObj #[])) (hC:∀(w:World),codeHdIn (K w.params) mc mp=true) (hC2:∀(w:World),(K w.params).lookup mp=none)
  (F:∀(w:World) (mg:Str→Option Value) (fa:Addr) (h:Heap),(K w.params).In h→h.Ns mainGlobals mg→mg d.name=some (.ref fa)→
   ∃ fd:FuncData,(∀(s:Shared) (u:Value),BindsTo s fd ⟨[u],[]⟩ [("_law_script",u)])∧∀ base:Heap,(K w.params).In base→base.Ns mainGlobals mg→L2.BMAt mg base→FnOk l.prog w (K w.params) mg base CX0 lawRoom fa fd ["_law_script"] (zhR (K w.params) mp)) :
  PySem.W.WalkO q loose XP YP l.row.toRowW d [] (fun f vs=>PySem.call f vs):=
 L2.znk (n:=63) (k:=lawRoom) (x := "_law_script") (tabs:=[(mc,mp)]) (sp:=fun w=>zhR (K w.params) mp) hn (by decide) hdf ⟨rfl,by decide,by decide,rfl⟩ hY (fun w h Y q hq=>by rw[yaj.mp hq];exact hYT w h Y) (fun w q hq=>by rw[yaj.mp hq];exact ⟨hC w,hC2 w⟩) F (fun _ _ a ns hl hT hS=>⟨a,ns,rfl,hS,hl,hT (mc,mp) (yaj.mpr rfl),fun _=>rfl⟩)
end My
open PySem PySem.W PyProof.Rows
namespace PySem.W.Fast
def tw6500214345949603780:=0
def tw16679300647858574003:=0
def tw10791048001880358299:=0
def tw1915606564481997006:=0
def tw15978458657770452037:=0
def tw12073084033662890265:=0
def tw1180462182970107790:=0
def tw12552572067143312390:=0
def tw2044135427035826191:=0
def tw8836828666949117873:=0
def tw10172988511741871343:=0
def tw12581780342313061528:=0
def tw3319543588998994694:=0
def tw11708249961280192625:=0
def tw15026508966750262298:=0
def tw18199140302370642332:=0
def tw17641481510855117779:=0
def tw10116290785266663234:=0
def tw5213684884028768350:=0
def tw9612432447458556781:=0
def tw16429822720507651814:=0
def tw9786789174975546947:=0
def tw6567281375585485843:=0
def tw15480843029979879649:=0
def tw17247466765766245729:=0
def tw11153727718341733438:=0
def tw8820014275199386451:=0
def tw7730359596264625358:=0
def tw2169309195428221570:=0
def tw10213820226425698452:=0
def tw4887901816680754715:=0
def tw2420044812801354928:=0
def tw1332973386855524148:=0
def tw5078837106575364191:=0
def tw12470681735578814799:=0
def tw8776803273885663904:=0
def tw15184850452296393482:=0
def tw8898470904031184069:=0
def tw18390695833566390684:=0
def tw5745317202443509104:=0
def tw1660842581104362169:=0
def tw13309232126592698551:=0
def tw11828798618253156295:=0
def tw3242997737333529625:=0
def tw12248759907740806423:=0
def tw16116469311642035688:=0
def tw5262042839035543536:=0
def tw13596666217665907555:=0
def tw8667837178507080067:=0
def tw7530496334578994828:=0
def tw9000398905521757630:=0
def tw4868758600254850954:=0
def tw9517004910088482600:=0
def tw15685679597788296744:=0
def tw10553187484721426731:=0
def tw12038920007650667764:=0
def tw10929376701127034337:=0
def tw11483638815814867993:=0
def tw9828358994890848443:=0
def tw4384667515205324702:=0
def tw1932588959982301756:=0
def tw14052225289685533389:=0
def tw3467721001125242318:=0
def tw13083495434209080471:=0
def tw2846032354907109202:=0
def tw16993246101064587788:=0
def tw9754807029788883210:=0
def tw5195793371561449937:=0
def tw15413436064254329644:=0
def tw5350884999514719517:=0
def tw9119416418997631004:=0
def tw10442752552486712286:=0
def tw4959220438784573463:=0
def tw15692246941011137054:=0
def tw16393469635652629023:=0
def tw8199538869769483366:=0
def tw12603142594238543599:=0
def tw17741272208752965667:=0
def tw3202561967280252670:=0
def tw15817332920902631204:=0
def tw11626698155017119774:=0
def tw11605371726764563511:=0
def tw13690488527135007018:=0
def tw43164611691465935:=0
def tw18173005645134027948:=0
def tw2257812080052782952:=0
def tw16792426374690473121:=0
def tw15926905538664862969:=0
def tw8077129313916133167:=0
def tw12979024579600634495:=0
def tw12829239765625427632:=0
def tw13407539889508621651:=0
def tw8055233210871434856:=0
def tw10580366122204770196:=0
def tw4151817183639914272:=0
def tw6980309529018357705:=0
def tw22251054701329119:=0
def tw14644394993122333994:=0
def tw17351304596517658335:=0
def tw14566755360309617907:=0
def tw12964563321541727092:=0
def tw9579975105590413578:=0
def tw14232263659108288301:=0
def tw11910674918010786782:=0
def tw14513277547720416566:=0
def tw393873962654179594:=0
def tw7035846448440098942:=0
def tw2852360609232063254:=0
def tw14525550881092895488:=0
def tw10808829670372361732:=0
def tw10469806938723075767:=0
def tw1091909419240943176:=0
def tw10725521403317260732:=0
def tw4251573732399564993:=0
def tw14206752836324962003:=0
def tw2402842968452747852:=0
def tw10170404769108818815:=0
def tw6315725526321045695:=0
def tw2139761130039962243:=0
def tw2080814962915124096:=0
def tw11844581860107628429:=0
def tw6175172468421225518:=0
def tw6690198019394114657:=0
def tw543109216414190867:=0
def tw9255075590616667861:=0
def tw13538834650456230049:=0
def tw14489894101102709142:=0
def tw4774376243958594704:=0
def tw15857396208894737310:=0
def tw10182832408424781066:=0
def tw1545865478187384911:=0
def tw1183995162063854026:=0
def tw15715212684900351782:=0
def tw11116454213674603118:=0
def tw13640552489654353376:=0
def tw16684676781826420661:=0
def tw5406854512275319495:=0
def tw9868879401136129934:=0
def tw7373610071862736154:=0
def tw5179812576981686462:=0
def tw6539073853950661838:=0
def tw3173697769786758531:=0
def tw1189010673063944318:=0
def tw14839235834232771089:=0
def tw4358382131612017158:=0
def tw2187490056879126792:=0
def tw17993976490434042368:=0
def tw12483803733443376219:=0
def tw10337520192543968854:=0
def tw8515457923568870002:=0
def tw15774122861166222557:=0
def tw1890728945417902807:=0
def tw10274399035472826181:=0
def tw4884895090154200151:=0
def tw5725052025667762897:=0
def tw8745056395172230877:=0
def tw103222252466653595:=0
def tw7112681525505702245:=0
def tw7125932439534849944:=0
def tw7754529707178898270:=0
def tw17999059440178795633:=0
def tw7409976828171060351:=0
def tw10848571818564229119:=0
def tw8117281483072396753:=0
def tw641069857428591109:=0
def tw15367796492009591973:=0
def tw9453102993273176472:=0
def tw11227085794406285919:=0
def tw17166229308691244132:=0
def tw17669784698214959070:=0
def tw7189479815960425664:=0
def tw4741118192903628502:=0
def tw9298429867905153845:=0
def tw12881998681032105629:=0
def tw8766589315740978904:=0
def tw12652194719694223701:=0
def tw14799150168667837657:=0
def tw14446428156454955609:=0
def tw14684601983341929804:=0
def tw18226934456555124270:=0
def tw18095278409736361622:=0
def tw5395294057957670393:=0
def tw3841300640290209082:=0
def tw15932608187388205352:=0
def tw222963087751207605:=0
def tw1795026969618397196:=0
def tw5098296780439972999:=0
def tw2561641608606173743:=0
def tw10740120860934908523:=0
def tw12855021844944411951:=0
def tw9360168235453834807:=0
def tw7167764338959670034:=0
def tw2935417493037229443:=0
def tw13375676592277261631:=0
def tw14601689389115291768:=0
def tw14308751161880281961:=0
def tw17058371272653211567:=0
def tw5470421908364063010:=0
def tw3990635691114847773:=0
def tw8954428902476824005:=0
def tw7568788830578221514:=0
def tw15954940173246048853:=0
def tw14092616769247318564:=0
def tw13768409638040090548:=0
def tw8497769564850648258:=0
def tw7770635649678607885:=0
def tw4416099923878019255:=0
def tw5159158462377513689:=0
def tw3658567945879487064:=0
def tw18415346353096456074:=0
def tw5171453758291191196:=0
def tw2100348304659904518:=0
def tw5262448636232965136:=0
def tw17029232648708023230:=0
def tw154371427610709716:=0
def tw160747095460789351:=0
def tw15319144522962836073:=0
def tw13458022116554550756:=0
def tw10137335219920675651:=0
def tw5181606260646308709:=0
def tw2236392343748308458:=0
def tw1016130266239964825:=0
def tw13404692010868250151:=0
def tw3797521777249832381:=0
def tw16713302752826169461:=0
def tw1307513417430222478:=0
def tw11982448654783577151:=0
def tw5020053157003334604:=0
def tw8153889943382674777:=0
def tw18080258118208117445:=0
def tw7395644084767178700:=0
def tw11029506781214398278:=0
def tw4694096056750564677:=0
def tw2980059363415879728:=0
def tw3240090556350344365:=0
def tw11289736226152652822:=0
def tw6878608755170970225:=0
def tw3079098127423095450:=0
def tw10789421808319217361:=0
def tw7712241276616696940:=0
def tw2403321293816497388:=0
def tw1578469345279383611:=0
def tw17375597926986655643:=0
def tw17205870399015618534:=0
end PySem.W.Fast
set_option maxRecDepth 100000 in
set_option maxHeartbeats 0 in
theorem PySem.Challenge.cw_bridgefind_k49_whole_as_made_anew_holds : PySem.Challenge.rw_bridgefind_k49_whole_as_made_anew.Holds := by
 w_on; o_law; k_head; (case hw=>w_witness2)
 k_fill
 refine My.walk (l:=PySem.Challenge.rw_bridgefind_k49_whole_as_made_anew) (mc:=159) (mp:=155) rfl rfl (fun w h Y=>PySem.W.km_in_of Y) (fun w h Y=>PySem.W.km_tabs_of Y 155 yaL) (fun w=>by kernel_rfl) (fun w=>by kernel_rfl) ?F
 case F=>
  intro w mg fa h KX G hmg
  refine' My.zrN (mc6:=159) (mp6:=155) KX G hmg ?_ ?_ ?_ ?_ ?_ ?_ ?_ ?_ ?_ ?_ ?_ ?_ ?_ ?_ ?_ ?_ ?_ ?_ ?_ ?_ ?_ ?_ ?_ ?_ ?_ ?_ ?_ ?_ ?_ ?_ ?_ ?_ ?_ ?_ ?_ ?_ ?_ ?_ ?_ ?_ ?_ ?_ ?_ ?_ ?_ ?_ ?_ ?_ ?_ ?_ ?_ ?_ ?_ ?_ ?_ ?_ ?_ ?_ ?_ ?_ ?_ ?_ ?_ ?_ ?_ ?_ ?_ ?_ ?_ ?_ ?_ ?_ ?_ ?_ ?_ ?_ ?_ ?_
  any_goals k_is
  all_goals first | refine' My.AD.of ?_ ?_ ?_ ?_ | refine' My.AM.of ?_ ?_ ?_ ?_ ?_ | skip
  any_goals k_is
  all_goals kernel_rfl

