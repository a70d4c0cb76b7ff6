import PyProof.Rows.All
import Wide.All
import OpenK.AllK
import Wide.FinOn
import PyProof.EqAt
import PyProof.EqKinds
import PyProof.TupleCall
import PyProof.NeKinds
import Lean
import PyProof.ReprRoads
import PyProof.CallStr
import PyProof.Rows.SeqMore2
import PyProof.ZipIter
import PyProof.TupleIter
import PyProof.EnumIter
import PySem.Challenge.RW_bridgefind_k76_whole_papers_whoever_wrot
set_option Elab.async false
set_option linter.all false
set_option maxRecDepth 100000
local macro_rules | `(tactic| omega)=>`(tactic| lia)
open PySem.W (Frag nsIn codeIn keepIn tabIn codeHdIn mg_of mg_none_of fnOf OpenLaw kitOne mroIn findIn)
abbrev yaa:=@List.length_map
abbrev yab:=@Nat.le_refl
abbrev yac:=@List.getElem?_eq_getElem
abbrev yad:=@List.getD_eq_getElem?_getD
abbrev yae:=@Option.some.inj
abbrev yaf:=@PySem.Heap.lt_size
abbrev yag:=@decide_eq_true
abbrev yah:=@List.getElem?_eq_some_iff
abbrev yai:=@decide_eq_false
abbrev yaj:=@List.mem_cons
abbrev yak:=@List.length_append
abbrev yal:=@List.getElem?_map
abbrev yam:=@PySem.Heap.get?_push_of_some
abbrev yan:=@List.map_append
abbrev yao:=@List.length_take
abbrev yap:=@List.mem_singleton
abbrev yaq:=@Nat.ne_of_lt
abbrev yar:=@List.take_of_length_le
abbrev yas:=@Nat.lt_of_lt_of_le
abbrev yat:=@Nat.le_trans
abbrev yau:=@List.mem_cons_of_mem
abbrev yav:=@List.mem_cons_self
abbrev yaw:=@List.map_cons
abbrev yax:=@List.not_mem_nil
abbrev yay:=@Bool.false_ne_true
abbrev yaz:=@List.size_toArray
abbrev yaA:=@List.take_succ_eq_append_getElem
abbrev yaB:=@of_decide_eq_true
abbrev yaC:=@Nat.zero_le
abbrev yaD:=@PySem.Heap.get?_push_size
abbrev yaE:=@List.length_singleton
abbrev yaF:=@List.mem_map
abbrev yaG:=@List.getElem_mem
abbrev yaH:=@List.mem_append
abbrev yaI:=@List.length_cons
abbrev yaJ:=@List.lookup_cons
abbrev yaK:=@List.nodup_cons
abbrev yaL:=@List.filter_cons_of_pos
abbrev yaM:=@Nat.lt_irrefl
abbrev yaN:=@List.append_nil
abbrev yaO:=@List.mem_append_right
abbrev yaP:=@List.mem_of_getElem?
abbrev yaQ:=@List.all_eq_true
abbrev yaR:=@List.length_range
abbrev yaS:=@List.filter_cons_of_neg
abbrev yaT:=@List.filter_append
abbrev yaU:=@List.sum_cons
abbrev yaV:=@List.mem_filter
abbrev yaW:=@List.mem_range
abbrev yaX:=@Nat.le_succ
abbrev yaY:=@List.length_drop
abbrev yaZ:=@List.map_map
abbrev ya0:=@List.getElem?_append_right
abbrev ya1:=@List.length_replicate
abbrev ya2:=@Nat.lt_of_le_of_lt
abbrev ya3:=@List.getElem?_eq_none
abbrev ya4:=@List.getElem_of_mem
abbrev ya5:=@Nat.le_of_lt
abbrev ya6:=@List.pairwise_iff_getElem
abbrev ya7:=@Int.toNat_natCast
abbrev ya8:=@Option.map_eq_some_iff
abbrev ya9:=@List.getElem?_range
abbrev yba:=@List.drop_eq_nil_of_le
abbrev ybb:=@List.length_filter_le
abbrev ybc:=@List.any_cons
abbrev ybd:=@Option.map_some
abbrev ybe:=@List.ext_getElem?
abbrev ybf:=@List.take_append_drop
abbrev ybg:=@List.length_pos_iff
abbrev ybh:=@Nat.ne_of_gt
abbrev ybi:=@Int.natCast_nonneg
abbrev ybj:=@PySem.Heap.size_push
abbrev ybk:=@List.getElem?_append_left
abbrev ybl:=@PySem.Heap.get?_update_other
abbrev ybm:=@Bool.and_eq_true
abbrev ybn:=@List.length_nil
abbrev ybo:=@Nat.le_of_not_lt
abbrev ybp:=@Nat.not_lt
abbrev ybq:=@List.nodup_append
abbrev ybr:=@List.map_take
abbrev ybs:=@Nat.min_eq_left
abbrev ybt:=@List.range_succ
abbrev ybu:=@List.filter_eq_nil_iff
abbrev ybv:=@Array.length_toList
abbrev ybw:=@Nat.lt_succ_self
abbrev ybx:=@Bool.and_false
abbrev yby:=@List.find?_cons
abbrev ybz:=@List.map_nil
abbrev ybA:=@List.nodup_nil
abbrev ybB:=@Nat.add_le_add_right
abbrev ybC:=@List.eq_nil_of_length_eq_zero
abbrev ybD:=@Nat.not_lt_zero
abbrev ybE:=@Nat.testBit_succ
abbrev ybF:=@Nat.add_zero
abbrev ybG:=@Nat.add_sub_cancel
abbrev ybH:=@Bool.eq_false_iff
abbrev ybI:=@List.getElem?_take
abbrev ybJ:=@List.getElem?_drop
abbrev ybK:=@Nat.sub_self
abbrev ybL:=@List.flatten_append
abbrev ybM:=@Nat.zero_add
abbrev ybN:=@Bool.or_false
abbrev ybO:=@List.filterMap_cons
abbrev ybP:=@Bool.eq_iff_iff
abbrev ybQ:=@Nat.le_of_eq
abbrev ybR:=@List.of_mem_zip
abbrev ybS:=@List.all_cons
abbrev ybT:=@List.pairwise_map
abbrev ybU:=@List.mem_reverse
abbrev ybV:=@Nat.pow_succ
abbrev ybW:=@Int.zero_add
abbrev ybX:=@List.length_reverse
abbrev ybY:=@List.append_assoc
abbrev ybZ:=@List.filter_congr
abbrev yb0:=@Option.isSome_iff_exists
abbrev yb1:=@Bool.false_or
abbrev yb2:=@Int.emod_nonneg
abbrev yb3:=@Int.emod_lt_of_pos
abbrev yb4:=@Bool.or_eq_true
abbrev yb5:=@Bool.not_eq_true'
abbrev yb6:=@List.reverse_cons
abbrev yb7:=@List.take_zero
abbrev yb8:=@List.length_zip
abbrev yb9:=@List.filter_eq_self
abbrev yca:=@List.mem_flatten
abbrev ycb:=@Nat.min_eq_right
abbrev ycc:=@Nat.lt_of_not_le
abbrev ycd:=@List.nodup_range
abbrev yce:=@List.filter_filter
abbrev ycf:=@List.getElem?_replicate
abbrev ycg:=@Nat.add_le_add_left
abbrev ych:=@List.zip_cons_cons
abbrev yci:=@Array.perm_iff_toList_perm
abbrev ycj:=@Bool.false_eq_true
abbrev yck:=@List.getElem?_reverse
abbrev ycl:=@List.mem_take_iff_getElem
abbrev ycm:=@List.getElem?_cons_succ
abbrev ycn:=@List.pairwise_lt_range
abbrev yco:=@Nat.pos_of_ne_zero
abbrev ycp:=@List.map_congr_left
abbrev ycq:=@of_decide_eq_false
namespace L2
open PySem PySem.Spec PyProof.Rows
abbrev Key:=Sum Int Str
def zjx:Key→Value→Bool
  | .inl k,v=>Value.isInt k v
  | .inr x,v=>Value.isStrOf x v
def keyH (w:World):Key→Int
  | .inl k=>hashInt k
  | .inr x=>hashStr w x
theorem za2:∀{k:Key} {v:Value},zjx k v=true→(∃ i t,k=Sum.inl i∧v=Value.int i t)∨(∃ x t,k=Sum.inr x∧v=Value.str x t)
  | .inl i,v,h=>by
    obtain ⟨t,e⟩:=Value.isInt_shape (k:=i) (v:=v) h;exact .inl ⟨i,t,rfl,e⟩
  | .inr x,v,h=>by
    obtain ⟨t,e⟩:=Value.isStrOf_shape (x:=x) (v:=v) h;exact .inr ⟨x,t,rfl,e⟩
theorem znc (i:Int)(t:Tok):zjx (.inl i) (.int i t)=true:=by simp[zjx,Value.isInt]
theorem znb (x:Str)(t:Tok):zjx (.inr x) (.str x t)=true:=by simp[zjx,Value.isStrOf]
theorem zrM (a b:Int):decide ((Sum.inl a:Key)=Sum.inl b)=(a == b):=by
  by_cases e:a=b
  · subst e;simp
  · have h:¬ (Sum.inl a:Key)=Sum.inl b:=fun q=>e (Sum.inl.inj q)
    rw[yai h];exact (beq_eq_false_iff_ne.mpr e).symm
theorem zrJ (a b:Str):decide ((Sum.inr a:Key)=Sum.inr b)=decide (a=b):=by
  by_cases e:a=b
  · subst e;simp
  · have h:¬ (Sum.inr a:Key)=Sum.inr b:=fun q=>e (Sum.inr.inj q)
    rw[yai h,yai e]
theorem zrL (a:Int)(b:Str):decide ((Sum.inl a:Key)=Sum.inr b)=false:=yai (fun q=>nomatch q)
theorem zrK (a:Str)(b:Int):decide ((Sum.inr a:Key)=Sum.inl b)=false:=yai (fun q=>nomatch q)
def zaL (prog:Program)(w:World):PySem.KeyKind prog w Key where
  is:=zjx
  hash:=keyH w
  inj:=fun v a b ha hb=>by
    rcases za2 ha with ⟨i,t,rfl,rfl⟩ | ⟨x,t,rfl,rfl⟩
    · rcases za2 hb with ⟨j,u,rfl,e⟩ | ⟨y,u,rfl,e⟩
      · injection e with e1 _;rw[e1]
      · exact nomatch e
    · rcases za2 hb with ⟨j,u,rfl,e⟩ | ⟨y,u,rfl,e⟩
      · exact nomatch e
      · injection e with e1 _;rw[e1]
  byValue:=fun k v h=>by
    rcases za2 h with ⟨i,t,rfl,rfl⟩ | ⟨x,t,rfl,rfl⟩ <;> rfl
  pyHash:=fun hv h=>by
    rcases za2 hv with ⟨i,t,rfl,rfl⟩ | ⟨x,t,rfl,rfl⟩
    · exact wpAny_pyHash_int h
    · exact wpAny_pyHash_str h
  eqBool:=fun hu hv h=>by
    rcases za2 hu with ⟨i,t,rfl,rfl⟩ | ⟨x,t,rfl,rfl⟩
    · rcases za2 hv with ⟨j,u,rfl,rfl⟩ | ⟨y,u,rfl,rfl⟩
      · rw[zrM]at h;exact wpAny_eqBool_int h
      · rw[zrL]at h;exact SeqAt.EqAt.int_str i t y u _ _ _ _ h
    · rcases za2 hv with ⟨j,u,rfl,rfl⟩ | ⟨y,u,rfl,rfl⟩
      · rw[zrK]at h;exact SeqAt.EqAt.str_int x t j u _ _ _ _ h
      · rw[zrJ]at h;exact wpAny_eqBool_str h
  «strs»:=fun k x t v h=>by
    rcases za2 h with ⟨i,u,rfl,e⟩ | ⟨y,u,rfl,e⟩
    · exact nomatch e
    · injection e with e1 _
      subst e1;cases v <;> rfl
theorem zli (prog:Program)(w:World)(k:Key)(v:Value):(zaL prog w).is k v=zjx k v:=rfl
theorem zjq (prog:Program)(w:World)(i:Int)(t:Tok):(zaL prog w).is (.inl i) (.int i t)=true:=znc i t
theorem zjp (prog:Program)(w:World)(x:Str)(t:Tok):(zaL prog w).is (.inr x) (.str x t)=true:=znb x t
end L2
namespace L2
open PySem PySem.Spec PyProof.Rows
inductive V where
  | non | bl (b:Bool) | int (i:Int) | str (x:Str) | byt (b:Array UInt8) | flt (b:UInt64) | ref (a:Addr) | ty (n:String)
  deriving DecidableEq
def RelV:V→Value→Prop
  | .non,u=>u=Value.none
  | .bl b,u=>u=Value.bool b
  | .int i,u=>∃ t,u=Value.int i t
  | .str x,u=>∃ t,u=Value.str x t
  | .byt b,u=>∃ t,u=Value.bytes b t
  | .flt b,u=>∃ t,u=Value.float b t
  | .ref a,u=>u=Value.ref a
  | .ty n,u=>u=Value.type n
abbrev Vals:List V→List Value→Prop:=Paired RelV
theorem Vals.length {xs:List V}{us:List Value}(r:Vals xs us):xs.length=us.length:=Paired.length r
theorem Vals.get:∀{xs:List V} {us:List Value} {i:Nat} {x:V},Vals xs us→xs[i]?=some x→∃ u,us[i]?=some u∧RelV x u
  | _,_,_,_,.nil,e=>by simp at e
  | _,_,0,_,.cons r _,e=>by simp at e;subst e;exact ⟨_,rfl,r⟩
  | _,_,i+1,x,.cons _ t,e=>by
    obtain ⟨u,h1,h2⟩:=Vals.get (i:=i) (x:=x) t (by simpa using e);exact ⟨u,by simpa using h1,h2⟩
theorem Vals.set {x:V}{u:Value}(r:RelV x u):∀{xs:List V} {us:List Value} (i:Nat),Vals xs us→Vals (xs.set i x) (us.set i u)
  | _,_,_,.nil=>.nil
  | _,_,0,.cons _ t=>.cons r t
  | _,_,i+1,.cons q t=>.cons q (Vals.set r i t)
theorem Vals.append:∀{xs ys:List V} {us ws:List Value},Vals xs us→Vals ys ws→Vals (xs++ys) (us++ws)
  | _,_,_,_,.nil,s=>s
  | _,_,_,_,.cons r t,s=>.cons r (Vals.append t s)
theorem Vals.take:∀{xs:List V} {us:List Value} (n:Nat),Vals xs us→Vals (xs.take n) (us.take n)
  | _,_,0,_=>.nil
  | _,_,_+1,.nil=>.nil
  | _,_,n+1,.cons r t=>.cons r (Vals.take n t)
theorem Vals.drop:∀{xs:List V} {us:List Value} (n:Nat),Vals xs us→Vals (xs.drop n) (us.drop n)
  | _,_,0,r=>r
  | _,_,_+1,.nil=>.nil
  | _,_,n+1,.cons _ t=>Vals.drop n t
def RelO:Option V→Option Value→Prop
  | some v,some u=>RelV v u
  | none,none=>True
  | _,_=>False
def KV {κ:Type}:List (κ×V)→List (κ×Value)→Prop:=Paired fun (p:κ×V) (q:κ×Value)=>p.1=q.1∧RelV p.2 q.2
def kV:Key→V
  | .inl i=>.int i
  | .inr x=>.str x
inductive HO where
  | lst (xs:List V)
  | tup (xs:List V)
  | dK (kvs:List (Key×V)) | dT (kvs:List (List Key×V))
  | set (S:Int→Bool) (n:Nat)
  | ins (C dx:Addr) (fs:List (Str×V))
  | own (x:Addr)
  | xd (fs:List (Str×V))
  | met (f x:Addr)
  | rng (lo hi:Int)
  | frz (o:Obj) (u:HO)
  | tbl (ps:Array Value)
  | ext (φ:Heap→Prop)
abbrev Hp:=Addr→Option HO
def upd (H:Hp)(a:Addr)(o:HO):Hp:=fun b=>if b=a then some o else H b
theorem zac {H:Hp}{a:Addr}{o:HO}:upd H a o a=some o:=by unfold upd;rw[if_pos rfl]
theorem zaf {H:Hp}{a b:Addr}{o:HO}(h:b≠a):upd H a o b=H b:=by unfold upd;rw[if_neg h]
theorem zpJ {H:Hp}{a:Addr}{o u:HO}:upd (upd H a o) a u=upd H a u:=by
  funext b;unfold upd;split <;> rfl
theorem zrz {H:Hp}{a b:Addr}{o u:HO}(h:H a=some o)(h':H b=some u)(d:o≠u):a≠b:=by
  intro e;subst e;rw[h]at h';exact d (yae h')
theorem zab {H:Hp}{a b:Addr}{o:HO}(h:H a=some o)(h':H b=none):a≠b:=by
  intro e;subst e;rw[h]at h';cases h'
section
variable (P:Program)(w:World)
def zbK (H:Hp)(h:Heap)(a:Addr):HO→Prop
  | .lst xs=>xs.length≤sizeLine∧∃(its:List Value) (n:Nat),Vals xs its∧h.get? a=some { cls:=.type "list",data:=.seq its.toArray n }
  | .tup xs=>xs.length≤sizeLine∧∃ its:List Value,Vals xs its∧IsTup h a its.toArray
  | .dK kvs=>kvs.length≤sizeLine∧(a == sysModules)=false∧∃ vs,KV kvs vs∧h.DictOf (zaL P w) a vs
  | .dT kvs=>kvs.length≤sizeLine∧(a == sysModules)=false∧∃ xs:List (List Key×Addr×Value),
      Paired (fun (p:List Key×V) (q:List Key×Addr×Value)=>p.1=q.1∧H q.2.1=some (.tup (p.1.map kV))∧RelV p.2 q.2.2) kvs xs∧
      ∃ o es ep,h.get? a=some o∧o.ExactDict∧o.data=.dict es ep∧es.toList=xs.map (entryOfKey (tupleKind (zaL P w)))∧(xs.map (·.1)).Nodup
  | .set S n=>h.SetOf (intKind P w) a S n
  | .ins C dx fs=>H dx=some (.own a)∧fs.length≤1000∧dx≠a∧h.get? a=some (PySem.W.instObj C dx)∧
      ∃ mA,h.Ns1 dx mA∧(∀ f,RelO (fs.lookup f) (mA f))∧PySem.Within mA (fs.map (·.1))
  | .own _=>∃ o,h.get? a=some o
  | .xd fs=>∃ mA,h.Ns1 a mA∧∀ f,RelO (fs.lookup f) (mA f)
  | .rng lo hi=>∃ t u v,h.get? a=some { cls:=.type "range",data:=.fields #[.int lo t,.int hi u,.int 1 v] }
  | .frz o u=>h.get? a=some o∧zbK H h a u
  | .tbl ps=>h.get? a=some { cls:=.none,data:=.fields ps }
  | .met f x=>h.get? a=some (PySem.W.methodObj (.ref f) (.ref x))
  | .ext φ=>φ h∧(∃ o,h.get? a=some o)∧∀ h1 h2:Heap,φ h1→(∀ o,h1.get? a=some o→h2.get? a=some o)→φ h2
def HOk (H:Hp)(h:Heap):Prop:=∀ a o,H a=some o→zbK P w H h a o
end
section
variable {P:Program}{w:World}{H H':Hp}{h h':Heap}{a:Addr}{o:HO}
theorem zbK.lt (x:zbK P w H h a o):a < h.objs.size:=by
  cases o with
  | lst xs=>obtain ⟨_,_,_,_,e⟩:=x;exact yaf e
  | tup xs=>obtain ⟨_,_,_,p⟩:=x;exact p.lt
  | dK kvs=>obtain ⟨_,_,_,_,o,_,_,e,_⟩:=x;exact yaf e
  | dT kvs=>obtain ⟨_,_,_,_,o,_,_,e,_⟩:=x;exact yaf e
  | set S n=>obtain ⟨o,_,_,_,e,_⟩:=x;exact yaf e
  | ins C dx fs=>obtain ⟨_,_,_,e,_⟩:=x;exact yaf e
  | own y=>obtain ⟨_,e⟩:=x;exact yaf e
  | xd fs=>obtain ⟨_,⟨_,_,_,e,_⟩,_⟩:=x;exact yaf e
  | rng lo hi=>obtain ⟨_,_,_,e⟩:=x;exact yaf e
  | frz ob u=>obtain ⟨e,_⟩:=x;exact yaf e
  | tbl ps=>exact yaf (show h.get? a=some _ from x)
  | met f y=>exact yaf (show h.get? a=some _ from x)
  | ext φ=>obtain ⟨_,⟨_,e⟩,_⟩:=x;exact yaf e
theorem Paired.mapP {α β:Type}{F G:α→β→Prop}:∀{l₁:List α} {l₂:List β},Paired F l₁ l₂→(∀ a b,F a b→G a b)→Paired G l₁ l₂
  | _,_,.nil,_=>.nil
  | _,_,.cons r t,f=>.cons (f _ _ r) (Paired.mapP t f)
theorem zbK.stay (x:zbK P w H h a o)(k:∀ b u,(b=a∨H b=some (.own a))→h.get? b=some u→h'.get? b=some u)
    (ho:∀ b,H b=some (.own a)→H' b=some (.own a)) (ht:∀ b xs,H b=some (.tup xs)→H' b=some (.tup xs)):zbK P w H' h' a o:=by
  induction o with
  | lst xs=>obtain ⟨z,its,n,r,e⟩:=x;exact ⟨z,its,n,r,k _ _ (.inl rfl) e⟩
  | tup xs=>obtain ⟨z,its,r,ob,e,c⟩:=x;exact ⟨z,its,r,ob,k _ _ (.inl rfl) e,c⟩
  | dK kvs=>obtain ⟨z,y,vs,r,ob,es,ep,e,c⟩:=x;exact ⟨z,y,vs,r,ob,es,ep,k _ _ (.inl rfl) e,c⟩
  | dT kvs=>
    obtain ⟨z,y,xs,r,ob,es,ep,e,c⟩:=x;exact ⟨z,y,xs,Paired.mapP r fun p q z=>⟨z.1,ht _ _ z.2.1,z.2.2⟩,ob,es,ep,k _ _ (.inl rfl) e,c⟩
  | set S n=>obtain ⟨ob,es,ep,t,e,c⟩:=x;exact ⟨ob,es,ep,t,k _ _ (.inl rfl) e,c⟩
  | ins C dx fs=>
    obtain ⟨d,z,ne,e,mA,⟨od,es,ep,e2,c⟩,r⟩:=x;exact ⟨ho _ d,z,ne,k _ _ (.inl rfl) e,mA,⟨od,es,ep,k _ _ (.inr d) e2,c⟩,r⟩
  | own y=>obtain ⟨ob,e⟩:=x;exact ⟨ob,k _ _ (.inl rfl) e⟩
  | xd fs=>obtain ⟨mA,⟨od,es,ep,e,c⟩,r⟩:=x;exact ⟨mA,⟨od,es,ep,k _ _ (.inl rfl) e,c⟩,r⟩
  | rng lo hi=>obtain ⟨t,u,v,e⟩:=x;exact ⟨t,u,v,k _ _ (.inl rfl) e⟩
  | frz ob u ih=>obtain ⟨e,q⟩:=x;exact ⟨k _ _ (.inl rfl) e,ih q⟩
  | tbl ps=>
    have e:h.get? a=some { cls:=.none,data:=.fields ps }:=x;show h'.get? a=some { cls:=.none,data:=.fields ps };exact k a _ (.inl rfl) e
  | met f y=>
    have e:h.get? a=some (PySem.W.methodObj (.ref f) (.ref y)):=x;show h'.get? a=some (PySem.W.methodObj (.ref f) (.ref y));exact k a _ (.inl rfl) e
  | ext φ=>obtain ⟨p,⟨o,e⟩,st⟩:=x;exact ⟨st _ _ p fun o q=>k _ _ (.inl rfl) q,⟨o,k _ _ (.inl rfl) e⟩,st⟩
theorem HOk.lt (x:HOk P w H h)(e:H a=some o):a < h.objs.size:=(x a o e).lt
theorem HOk.fresh (x:HOk P w H h)(e:h.objs.size≤a):H a=none:=by
  cases q:H a with
  | none=>rfl
  | some u=>exact absurd (yas (x.lt q) e) (yaM _)
theorem HOk.kept (x:HOk P w H h)(k:∀ b u,h.get? b=some u→h'.get? b=some u):HOk P w H h':=fun a o e=>
  (x a o e).stay (fun b u _ q=>k b u q) (fun _ q=>q) fun _ _ q=>q
theorem HOk.laid (x:HOk P w H h)(k:∀ b u,h.get? b=some u→h'.get? b=some u)(hp:h.objs.size≤a)(new:zbK P w (upd H a o) h' a o):HOk P w (upd H a o) h':=fun b u e=>by
  have hn:=x.fresh hp;by_cases hb:b=a
  · subst hb;rw[zac]at e;cases e;exact new
  · rw[zaf hb]at e
    exact (x b u e).stay (fun c v _ q=>k c v q) (fun c q=>by rw[zaf (zab q hn)];exact q) fun c xs q=>by rw[zaf (zab q hn)];exact q
end
def Rd (H:Hp)(a:Addr)(u:HO):Prop:=H a=some u∨∃ o,H a=some (.frz o u)
theorem Rd.ok {P:Program}{w:World}{H:Hp}{h:Heap}{a:Addr}{u:HO}(r:Rd H a u)(x:HOk P w H h):zbK P w H h a u:=by
  rcases r with r | ⟨o,r⟩
  · exact x a u r
  · obtain ⟨_,q⟩:=x a _ r
    exact q
def Mut:Option HO→Prop
  | some (.lst _)=>True
  | some (.dK _)=>True
  | some (.dT _)=>True
  | some (.set _ _)=>True
  | some (.ins _ _ _)=>True
  | some (.ext _)=>True
  | _=>False
section
variable {P:Program}{w:World}{H:Hp}{h h':Heap}{x e:Addr}{o':HO}
theorem HOk.write (ok:HOk P w H h)(mu:Mut (H x))(he:e=x∨H e=some (.own x))(k:∀ b u,b≠e→h.get? b=some u→h'.get? b=some u)(heo:∃ u,h'.get? e=some u)
    (new:zbK P w (upd H x o') h' x o'):HOk P w (upd H x o') h':=fun b u q=>by
  have nown:∀ c y,H c=some (.own y)→c≠x:=fun c y r z=>by subst z;rw[r]at mu;exact mu
  have ntup:∀ c xs,H c=some (.tup xs)→c≠x:=fun c xs r z=>by subst z;rw[r]at mu;exact mu
  by_cases hb:b=x
  · subst hb;rw[zac]at q;cases q;exact new
  · rw[zaf hb]at q
    by_cases hbe:b=e
    · have q':H b=some (.own x):=by
        rcases he with z | z
        · exact absurd (hbe.trans z) hb
        · rw[hbe];exact z
      rw[q]at q';cases q'
      obtain ⟨v,hv⟩:=heo;exact ⟨v,by rw[hbe];exact hv⟩
    · refine (ok b u q).stay (fun c v hc r=>k c v ?_ r) (fun c r=>by rw[zaf (nown c b r)];exact r) fun c xs r=>by rw[zaf (ntup c xs r)];exact r
      rcases hc with rfl | hc
      · exact hbe
      · rintro rfl
        rcases he with z | z
        · exact nown c b hc z
        · rw[hc]at z;cases z;exact hb rfl
end
structure Un (fs ex:List Addr)(H H':Hp)(h h':Heap):Prop where
  keep:∀ b o,h.get? b=some o→H b=none→b∉fs→b∉ex→h'.get? b=some o
  slot:∀ b o,h.get? b=some o→H b=none→b∈fs→b∉ex→∃ sl,h'.get? b=some { o with slots:=sl }
  free:∀ b o,h.get? b=some o→H b=none→b∉ex→H' b=none
  there:∀ b o,h.get? b=some o→b∉ex→∃ o',h'.get? b=some o'
  tups:∀ b xs,H b=some (.tup xs)→H' b=some (.tup xs)
  frzs:∀ b o u,H b=some (.frz o u)→H' b=some (.frz o u)
  tbls:∀ b ps,H b=some (.tbl ps)→∃ more,H' b=some (.tbl (ps++more))
section
variable {fs fs' ex ex':List Addr}{H H1 H2:Hp}{h h1 h2 h':Heap}{a x e:Addr}{o:HO}
theorem Un.any (u:Un fs ex H H1 h h1){b:Addr}{ob:Obj}(q:h.get? b=some ob)(n:H b=none)(hx:b∉ex):∃ sl,h1.get? b=some { ob with slots:=sl }:=by
  by_cases hb:b∈fs
  · exact u.slot b ob q n hb hx
  · exact ⟨ob.slots,u.keep b ob q n hb hx⟩
theorem Un.kept (k:∀ b u,h.get? b=some u→h'.get? b=some u):Un fs ex H H h h':=
  ⟨fun b ob q _ _ _=>k b ob q,fun b ob q _ _ _=>⟨ob.slots,k b ob q⟩,fun _ _ _ n _=>n,fun b ob q _=>⟨ob,k b ob q⟩,fun _ _ q=>q,fun _ _ _ q=>q,fun _ ps q=>⟨#[],by rw[q];simp⟩⟩
theorem Un.refl:Un fs ex H H h h:=Un.kept fun _ _ q=>q
theorem Un.laid (k:∀ b u,h.get? b=some u→h'.get? b=some u)(hp:h.objs.size≤a)(hn:H a=none):Un fs ex H (upd H a o) h h' where
  keep:=fun b u q _ _ _=>k b u q
  slot:=fun b u q _ _ _=>⟨u.slots,k b u q⟩
  free:=fun b u q n _=>by rw[zaf (yaq (yas (yaf q) hp))];exact n
  there:=fun b u q _=>⟨u,k b u q⟩
  tups:=fun b xs q=>by rw[zaf (zab q hn)];exact q
  frzs:=fun b u xs q=>by rw[zaf (zab q hn)];exact q
  tbls:=fun b ps q=>⟨#[],by rw[zaf (zab q hn),q];simp⟩
theorem Un.write (mu:Mut (H x))(he:e=x∨H e=some (.own x))(k:∀ b u,b≠e→h.get? b=some u→h'.get? b=some u)(heo:∃ u,h'.get? e=some u):Un fs ex H (upd H x o) h h':=by
  have hx:∀ b,H b=none→b≠x:=fun b n z=>by subst z;rw[n]at mu;exact mu
  have hb:∀ b,H b=none→b≠e:=fun b n z=>by
    subst z;rcases he with r | r
    · exact hx b n r
    · rw[n]at r;cases r
  have hm:∀ b u,H b=some u→¬ Mut (some u)→b≠x:=fun b u q nm z=>by subst z;rw[q]at mu;exact nm mu
  refine ⟨fun b u q n _ _=>k b u (hb b n) q,fun b u q n _ _=>⟨u.slots,k b u (hb b n) q⟩,fun b u q n _=>by rw[zaf (hx b n)];exact n,fun b u q _=>?_,
    fun b xs q=>by rw[zaf (hm b _ q fun z=>z)];exact q,fun b u xs q=>by rw[zaf (hm b _ q fun z=>z)];exact q,fun b ps q=>⟨#[],by rw[zaf (hm b _ q fun z=>z),q];simp⟩⟩
  by_cases hbe:b=e
  · subst hbe;exact heo
  · exact ⟨u,k b u hbe q⟩
end
def trk (h:Heap)(H:Hp):List Addr:=(List.range h.objs.size).filter fun a=>(H a).isSome
def hidT (h:Heap)(H:Hp):Heap:=PySem.W.hideAll h (trk h H)
theorem znk (h:Heap)(H:Hp):(hidT h H).objs.size=h.objs.size:=PySem.W.hideAll_size _ _
theorem zoU {h:Heap}{H:Hp}{b:Addr}{o:Obj}(e:h.get? b=some o)(n:H b=none):(hidT h H).get? b=some o:=
  PySem.W.hideAll_get _ e fun hm=>by
    have q:(H b).isSome=true:=(yaV.mp hm).2;rw[n]at q;simp at q
theorem zqi {h:Heap}{H:Hp}{b:Addr}{o:Obj}(e:(hidT h H).get? b=some o):h.get? b=some o∧H b=none:=by
  have e':h.get? b=some o:=PySem.W.of_hideAll (trk h H) e;refine ⟨e',?_⟩;cases q:H b with
  | none=>rfl
  | some x=>
    have hm:b∈trk h H:=yaV.mpr ⟨yaW.mpr (yaf e'),by simp[q]⟩;have z:(hidT h H).get? b=none:=PySem.W.hideAll_none (trk h H) hm;rw[z]at e;cases e
def zqR (g h:Heap)(L:Addr):List (Addr×Obj):=(List.range h.objs.size).filterMap fun a=>if a=L∨(g.get? a).isSome=true then none else (h.get? a).map fun o=>(a,o)
def rest (g h:Heap)(L d:Addr):List (Addr×Obj):=(zqR g h L).filter fun p=>decide (p.1≠d)
end L2
namespace L2
open PySem PySem.Spec PyProof.Rows
structure Mod (K:Frag)(mg:Str→Option Value)(base:Heap):Prop where
  kin:K.In base
  glob:base.Ns mainGlobals mg
  blt:∃ mb,base.Ns builtinsNs mb∧∀ x:Str,x ≠ "__name__"→mb x=bootBuiltins x
  nolimit:base.NoLimit
structure Cx where
  prog:Program
  w:World
  K:Frag
  mg:Str→Option Value
  base:Heap
  A:Around
  N:List Str
  s₀:Shared
  H₀:Hp
  env:Env
  outer:List Env
  stack:List Env
  ex:List Addr
  fn:Str→Bool
  calm:Bool
  pn:List (Addr×Obj)
  xe:Value→Shared→Prop
def frs (l:List Env):List Addr:=l.filterMap (·.frame)
abbrev Cx.fs (X:Cx):List Addr:=frs X.outer
def Vis (sc:Scope)(x:Str):Prop:=sc.names.lookup x=some .local∨sc.names.lookup x=some .cell∨sc.names.lookup x=some .free
def Loc (sc:Scope)(x:Str):Prop:=sc.names.lookup x=some .local∨sc.names.lookup x=some .cell
def Look (env:Env)(h:Heap)(m:Str→Option Value)(x:Str)(u:Value):Prop:=
  (env.kindOf x=some .local∧m x=some u)∨((env.kindOf x=some .cell∨env.kindOf x=some .free)∧∃ c,env.cells.lookup x=some c∧h.IsCell c (some u))
structure Cx.Ok (X:Cx):Prop where
  mod:Mod X.K X.mg X.base
  kind:X.env.scope.kind=.function
  glob:X.env.globals=mainGlobals
  blt:X.env.builtins=builtinsNs
  above:X.s₀.heap.objs.size≤X.env.locals
  inj:∀ x y c,X.env.cells.lookup x=some c→X.env.cells.lookup y=some c→x=y
  has:∀ x,(X.env.kindOf x=some .cell∨X.env.kindOf x=some .free)→∃ c,X.env.cells.lookup x=some c
  cab:∀ x c,X.fn x=true→X.env.cells.lookup x=some c→X.s₀.heap.objs.size≤c
  hd:X.calm=true→X.A.handled=none
  frames:X.A.frames=some X.stack
  stk:X.stack=X.outer∨(X.stack=X.env::X.outer∧X.env.frame=some X.env.locals)
  exf:∀ b∈X.ex,b≠X.env.locals∧∀ x c,X.env.cells.lookup x=some c→c≠b
  bs:∀ b o,X.base.get? b=some o→X.s₀.heap.get? b=some o∧X.H₀ b=none
  bsz:X.base.objs.size≤X.s₀.heap.objs.size
  noex:∀ b o,X.base.get? b=some o→b∉X.ex
  exfs:∀ b∈X.ex,b∉X.fs
  funs:X.s₀.heap.FunFrames X.base X.outer
  frf:∀ b∈X.fs,X.H₀ b=none
structure Inv (X:Cx)(pins:List (Addr×Obj))(σ:List (Option V))(H:Hp)(s:Shared):Prop where
  ok:X.Ok
  os:s.os=X.s₀.os
  bare:AllBare s.gens
  base:Un X.fs X.ex X.H₀ H X.s₀.heap s.heap
  loc:∃ m,s.heap.Ns X.env.locals m∧∀(i:Nat) (x:Str) (v:V),X.N[i]?=some x→σ[i]?=some (some v)→Vis X.env.scope x→∃ u,RelV v u∧Look X.env s.heap m x u
  cell:∀ x c,X.env.cells.lookup x=some c→∃ v,s.heap.IsCell c v
  free:H X.env.locals=none
  freeC:∀ x c,X.env.cells.lookup x=some c→H c=none
  pin:∀ p∈X.pn++pins,s.heap.get? p.1=some p.2∧H p.1=none∧p.1≠X.env.locals∧p.1∉X.fs∧∀ v,p.2.data≠.cell v
  hok:HOk X.prog X.w H s.heap
  len:σ.length=X.N.length
section
variable {X:Cx}{pins:List (Addr×Obj)}{σ:List (Option V)}{H H':Hp}{s:Shared}{h':Heap}
theorem Cx.Ok.nofr (ok:X.Ok){b:Addr}{o:Obj}(e:X.base.get? b=some o):b∉X.fs:=fun hb=>by
  have:=(ok.funs.mem hb).1;rw[e]at this;cases this
theorem Inv.bs (I:Inv X pins σ H s):∀ b o,X.base.get? b=some o→s.heap.get? b=some o∧H b=none:=fun b o e=>
  ⟨I.base.keep b o (I.ok.bs b o e).1 (I.ok.bs b o e).2 (I.ok.nofr e) (I.ok.noex b o e),I.base.free b o (I.ok.bs b o e).1 (I.ok.bs b o e).2 (I.ok.noex b o e)⟩
theorem Inv.bk (I:Inv X pins σ H s):∀ b o,X.base.get? b=some o→s.heap.get? b=some o:=fun b o e=>(I.bs b o e).1
theorem Inv.mod (I:Inv X pins σ H s):Mod X.K X.mg X.base:=I.ok.mod
theorem Inv.kIn (I:Inv X pins σ H s):X.K.In s.heap:=I.ok.mod.kin.keeps I.bk
theorem Inv.lt (I:Inv X pins σ H s):X.env.locals < s.heap.objs.size:=let ⟨_,hn,_⟩:=I.loc;hn.lt
theorem Inv.sz (I:Inv X pins σ H s):X.s₀.heap.objs.size≤s.heap.objs.size:=yat I.ok.above (ya5 I.lt)
theorem Inv.nofs (I:Inv X pins σ H s){a:Addr}(h:s.heap.objs.size≤a):a∉X.fs:=fun hb=>by
  obtain ⟨_,o,ho,_⟩:=I.ok.funs.mem hb;exact absurd (yas (yaf ho) (yat I.sz h)) (yaM _)
theorem Inv.cne (I:Inv X pins σ H s):∀ x c,X.env.cells.lookup x=some c→c≠X.env.locals:=fun x c e z=>by
  obtain ⟨v,o,ho,hd⟩:=I.cell x c e;obtain ⟨m,⟨o',es,ep,ho',hd',_⟩,_⟩:=I.loc;rw[z,ho']at ho;cases ho;rw[hd']at hd;cases hd
theorem Inv.funs (I:Inv X pins σ H s):s.heap.FunFrames X.base X.outer:=by
  have all:∀(l:List Env),(∀ b∈frs l,b∈X.fs)→X.s₀.heap.FunFrames X.base l→s.heap.FunFrames X.base l:=by
    intro l
    induction l with
    | nil=>intro _ _;trivial
    | cons env r ih=>
      intro hs hl;obtain ⟨hk,⟨L,o,hf,hn,ho,hd⟩,hr⟩:=hl;have hL:L∈X.fs:=hs L (by unfold frs;rw[ybO,hf];exact yav);obtain ⟨sl,e⟩:=I.base.slot L o ho (I.ok.frf L hL) hL fun z=>I.ok.exfs L z hL;exact ⟨hk,⟨L,_,hf,hn,e,hd⟩,ih (fun b hb=>hs b (by unfold frs;rw[ybO,hf];exact yau _ hb)) hr⟩
  exact all X.outer (fun _ hb=>hb) I.ok.funs
theorem Inv.stack (I:Inv X pins σ H s):s.heap.FunFrames X.base X.stack:=by
  rcases I.ok.stk with e | ⟨e,hf⟩
  · rw[e];exact I.funs
  · rw[e]
    obtain ⟨m,hn,_⟩:=I.loc;refine .cons (by rw[I.ok.kind];decide) hf hn ?_ I.funs;exact Heap.get?_none_of_le (yat I.ok.bsz I.ok.above)
theorem Inv.stkSub (I:Inv X pins σ H s):∀ b∈frs X.stack,b∈X.env.locals::X.fs:=fun b hb=>by
  rcases I.ok.stk with e | ⟨e,hf⟩
  · rw[e]at hb;exact yau _ hb
  · rw[e]at hb
    unfold frs at hb;rw[ybO,hf]at hb;exact hb
theorem Inv.stkFree (I:Inv X pins σ H s):∀ b∈frs X.stack,H b=none:=fun b hb=>by
  rcases yaj.mp (I.stkSub b hb) with e | hb
  · rw[e];exact I.free
  · obtain ⟨_,o,ho,_⟩:=I.ok.funs.mem hb
    exact I.base.free b o ho (I.ok.frf b hb) fun z=>I.ok.exfs b z hb
theorem Inv.step {g':Array GenState}{t':Nat}{d':Drawn}{ch:List Addr}(I:Inv X pins σ H s)
    (hch:∀ b∈ch,(b∈X.ex∨X.s₀.heap.objs.size≤b)∧b≠X.env.locals∧(∀ x c,X.env.cells.lookup x=some c→c≠b)∧∀ p∈X.pn++pins,p.1≠b)
    (keep:∀ b o,b≠X.env.locals→b∉X.fs→b∉ch→s.heap.get? b=some o→H b=none→h'.get? b=some o)
    (slot:∀ b o,b≠X.env.locals→b∈X.fs→b∉ch→s.heap.get? b=some o→H b=none→∃ sl,h'.get? b=some { o with slots:=sl }) (free:∀ b o,b∉ch→s.heap.get? b=some o→H b=none→H' b=none)
    (there:∀ b o,b∉ch→s.heap.get? b=some o→∃ o',h'.get? b=some o')
    (tups:∀ b xs,H b=some (.tup xs)→H' b=some (.tup xs)) (frzs:∀ b o u,H b=some (.frz o u)→H' b=some (.frz o u)) (tbls:∀ b ps,H b=some (.tbl ps)→∃ more,H' b=some (.tbl (ps++more)))
    (ns:∀ m,s.heap.Ns X.env.locals m→h'.Ns X.env.locals m) (hok:HOk X.prog X.w H' h') (hg:AllBare g') :
    Inv X pins σ H' { s with heap:=h',gens:=g',drawn:=d',toks:=t' }:=by
  have neL:∀ b o,X.s₀.heap.get? b=some o→b≠X.env.locals:=fun b o e=>yaq (yas (yaf e) I.ok.above);have neC:∀ b o,X.s₀.heap.get? b=some o→b∉X.ex→b∉ch:=fun b o e hx hb=>by
    rcases (hch b hb).1 with z | z
    · exact hx z
    · exact absurd (yas (yaf e) z) (yaM _)
  have cellK:∀ x c,X.env.cells.lookup x=some c→∀ v,s.heap.IsCell c v→h'.IsCell c v:=fun x c e v ⟨o,ho,hd⟩=>by
    have nch:c∉ch:=fun z=>(hch c z).2.2.1 x c e rfl;by_cases hc:c∈X.fs
    · obtain ⟨sl,q⟩:=slot c o (I.cne x c e) hc nch ho (I.freeC x c e)
      exact ⟨_,q,hd⟩
    · exact ⟨o,keep c o (I.cne x c e) hc nch ho (I.freeC x c e),hd⟩
  refine ⟨I.ok,I.os,hg,⟨fun b o e n hb hx=>?_,fun b o e n hb hx=>?_,fun b o e n hx=>?_,fun b o e hx=>?_,fun b xs e=>tups b xs (I.base.tups b xs e),fun b o xs e=>frzs b o xs (I.base.frzs b o xs e),fun b ps e=>?_⟩,?_,fun x c e=>?_,?_,fun x c e=>?_,fun p hp=>?_,hok,I.len⟩
  · exact keep b o (neL b o e) hb (neC b o e hx) (I.base.keep b o e n hb hx) (I.base.free b o e n hx)
  · obtain ⟨sl,e1⟩:=I.base.slot b o e n hb hx
    obtain ⟨sl',e2⟩:=slot b _ (neL b o e) hb (neC b o e hx) e1 (I.base.free b o e n hx);exact ⟨sl',e2⟩
  · obtain ⟨o',e1⟩:=I.base.there b o e hx
    exact free b o' (neC b o e hx) e1 (I.base.free b o e n hx)
  · obtain ⟨o',e1⟩:=I.base.there b o e hx
    exact there b o' (neC b o e hx) e1
  · obtain ⟨m1,e1⟩:=I.base.tbls b ps e
    obtain ⟨m2,e2⟩:=tbls b _ e1;exact ⟨m1++m2,by rw[e2,Array.append_assoc]⟩
  · obtain ⟨m,hn,hl⟩:=I.loc
    refine ⟨m,ns m hn,fun i x v e1 e2 e3=>?_⟩;obtain ⟨u,r,l⟩:=hl i x v e1 e2 e3;refine ⟨u,r,?_⟩;rcases l with l | ⟨k,c,e,z⟩
    · exact .inl l
    · exact .inr ⟨k,c,e,cellK x c e _ z⟩
  · obtain ⟨v,z⟩:=I.cell x c e
    exact ⟨v,cellK x c e v z⟩
  · obtain ⟨m,⟨o,_,_,ho,_⟩,_⟩:=I.loc
    exact free _ o (fun z=>(hch _ z).2.1 rfl) ho I.free
  · obtain ⟨v,o,ho,hd⟩:=I.cell x c e
    exact free c o (fun z=>(hch c z).2.2.1 x c e rfl) ho (I.freeC x c e)
  · obtain ⟨e,n,ne,nf,d⟩:=I.pin p hp
    have nch:p.1∉ch:=fun z=>(hch p.1 z).2.2.2 p hp rfl;exact ⟨keep p.1 p.2 ne nf nch e n,free p.1 p.2 nch e n,ne,nf,d⟩
theorem Inv.un {t':Nat}(I:Inv X pins σ H s)(u:Un X.fs [] H H' s.heap h')(hok:HOk X.prog X.w H' h'):Inv X pins σ H' { s with heap:=h',toks:=t' }:=by
  obtain ⟨m,⟨o,es,ep,ho,r⟩,_⟩:=id I.loc;obtain ⟨sl,hL⟩:=u.any ho I.free (by simp);exact I.step (g':=s.gens) (d':=s.drawn) (ch:=[]) (fun _ z=>nomatch z) (fun b o _ hb _ e n=>u.keep b o e n hb (by simp)) (fun b o _ hb _ e n=>u.slot b o e n hb (by simp)) (fun b o _ e n=>u.free b o e n (by simp)) (fun b o _ e=>u.there b o e (by simp)) u.tups u.frzs u.tbls (fun m' hm=>by
    obtain ⟨o',es',ep',ho',r'⟩:=hm;rw[ho]at ho';cases ho'
    exact ⟨_,es',ep',hL,r'⟩) hok I.bare
theorem Inv.call {g':Array GenState}{t':Nat}{d':Drawn}{ch:List Addr}(I:Inv X pins σ H s)(u:Un (frs X.stack) ch H H' s.heap h')(hok:HOk X.prog X.w H' h')(hg:AllBare g')
    (hch:∀ b∈ch,(b∈X.ex∨X.s₀.heap.objs.size≤b)∧b≠X.env.locals∧(∀ x c,X.env.cells.lookup x=some c→c≠b)∧∀ p∈X.pn++pins,p.1≠b) :
    Inv X pins σ H' { s with heap:=h',gens:=g',drawn:=d',toks:=t' }:=by
  obtain ⟨m,⟨o,es,ep,ho,r⟩,_⟩:=id I.loc;obtain ⟨sl,hL⟩:=u.any ho I.free fun z=>(hch _ z).2.1 rfl;exact I.step (ch:=ch) hch (fun b o hL hb hc e n=>u.keep b o e n (fun z=>(yaj.mp (I.stkSub b z)).elim hL hb) hc) (fun b o _ _ hc e n=>u.any e n hc) (fun b o hc e n=>u.free b o e n hc) (fun b o hc e=>u.there b o e hc) u.tups u.frzs u.tbls (fun m' hm=>by
    obtain ⟨o',es',ep',ho',r'⟩:=hm;rw[ho]at ho';cases ho'
    exact ⟨_,es',ep',hL,r'⟩) hok hg
theorem Inv.turned {t':Nat}{it:Addr}(I:Inv X pins σ H s)(k:∀ b o,b≠it→s.heap.get? b=some o→h'.get? b=some o)(hn:H it=none)(hL:it≠X.env.locals)
    (h1:it∈X.ex∨X.s₀.heap.objs.size≤it) (h2:∀ x c,X.env.cells.lookup x=some c→c≠it) (h3:∀ p∈X.pn++pins,p.1≠it):Inv X pins σ H { s with heap:=h',toks:=t' }:=by
  have nit:∀ b u,H b=some u→b≠it:=fun b u e z=>by rw[z,hn]at e;cases e
  refine I.step (g':=s.gens) (d':=s.drawn) (ch:=[it]) (fun b hb=>?_) (fun b o _ _ hc e _=>k b o (fun z=>hc (by simp[z])) e) (fun b o _ _ hc e _=>⟨o.slots,k b o (fun z=>hc (by simp[z])) e⟩) (fun _ _ _ _ n=>n)
    (fun b o hc e=>⟨o,k b o (fun z=>hc (by simp[z])) e⟩) (fun _ _ e=>e) (fun _ _ _ e=>e) (fun b ps e=>⟨#[],by rw[e];simp⟩) (fun m hm=>?_) (fun b u e=>?_) I.bare
  · have e:b=it:=by simpa using hb
    subst e;exact ⟨h1,hL,h2,h3⟩
  · obtain ⟨o,es,ep,ho,r⟩:=hm
    exact ⟨o,es,ep,k _ o (Ne.symm hL) ho,r⟩
  · refine (I.hok b u e).stay (fun c v hc q=>k c v ?_ q) (fun _ q=>q) fun _ _ q=>q
    rcases hc with z | z
    · rw[z];exact nit b u e
    · exact nit c _ z
theorem Inv.tok (I:Inv X pins σ H s)(t:Nat):Inv X pins σ H { s with toks:=t }:=I.un (h':=s.heap) (t':=t) Un.refl I.hok
theorem Inv.kept {t':Nat}(I:Inv X pins σ H s)(k:∀ b u,s.heap.get? b=some u→h'.get? b=some u):Inv X pins σ H { s with heap:=h',toks:=t' }:=I.un (Un.kept k) (I.hok.kept k)
theorem Inv.laid {a:Addr}{o:HO}{t':Nat}(I:Inv X pins σ H s)(k:∀ b u,s.heap.get? b=some u→h'.get? b=some u)(hp:s.heap.objs.size≤a)(new:zbK X.prog X.w (upd H a o) h' a o) :
    Inv X pins σ (upd H a o) { s with heap:=h',toks:=t' }:=I.un (Un.laid k hp (I.hok.fresh hp)) (I.hok.laid k hp new)
theorem Inv.write {x e:Addr}{o:HO}{t':Nat}(I:Inv X pins σ H s)(mu:Mut (H x))(he:e=x∨H e=some (.own x))(k:∀ b u,b≠e→s.heap.get? b=some u→h'.get? b=some u)(heo:∃ u,h'.get? e=some u)
    (new:zbK X.prog X.w (upd H x o) h' x o):Inv X pins σ (upd H x o) { s with heap:=h',toks:=t' }:=I.un (Un.write mu he k heo) (I.hok.write mu he k heo new)
theorem Inv.pins_of {pins':List (Addr×Obj)}(I:Inv X pins σ H s)(h:∀ p∈pins',s.heap.get? p.1=some p.2∧H p.1=none∧p.1≠X.env.locals∧p.1∉X.fs∧∀ v,p.2.data≠.cell v):Inv X pins' σ H s:=
  ⟨I.ok,I.os,I.bare,I.base,I.loc,I.cell,I.free,I.freeC,fun p hp=>(yaH.mp hp).elim (fun z=>I.pin p (List.mem_append_left _ z)) (h p),I.hok,I.len⟩
theorem zkw {N:List Str}(hN:N.Nodup){i j:Nat}{x:Str}(a:N[i]?=some x)(b:N[j]?=some x):i=j:=by
  obtain ⟨h1,e1⟩:=yah.mp a;obtain ⟨h2,e2⟩:=yah.mp b;exact (List.getElem_inj hN).mp (e1.trans e2.symm)
theorem zif {M:Model}{A:Around}{E:Value→Shared→Prop}{i:Nat}{x:Str}{v:V}{u:Value}{Q:Unit→Shared→Prop}(I:Inv X pins σ H s)(hN:X.N.Nodup)(hi:X.N[i]?=some x)(hx:Loc X.env.scope x)(r:RelV v u)
    (h:∀ s',Inv X pins (σ.set i (some v)) H s'→(∃ a,Heap.SameBut a s.heap s'.heap∧(a=X.env.locals∨X.env.cells.lookup x=some a))→Q () s') (hf:X.fn x=true∨X.env.scope.names.lookup x=some .local:=by first | exact .inl rfl | exact .inr rfl | assumption):wpAny M A (storeName X.env x u) Q E s:=by
  obtain ⟨m,hn,hl⟩:=id I.loc;have hcls:(X.env.scope.kind == .class || (X.env.scope.kind == .module && X.env.locals != X.env.globals))=false:=by rw[I.ok.kind];rfl
  have hiσ:i < σ.length:=by rw[I.len];exact (yah.mp hi).1
  have cne:=I.cne;have tracked:∀{a:Addr} {h':Heap},(∃ o,s.heap.get? a=some o∧H a=none)→Heap.SameBut a s.heap h'→HOk X.prog X.w H h':=fun {a h'} ha hs b ob e=>by
    obtain ⟨_,_,hfree⟩:=ha;refine (I.hok b ob e).stay (fun c w' hc q=>(hs.2 c ?_).trans q) (fun _ q=>q) fun _ _ q=>q;rintro rfl;rcases hc with rfl | hc
    · rw[hfree]at e;cases e
    · rw[hfree]at hc;cases hc
  rcases hx with hk | hk
  · refine wpAny_storeName_local hk hn (fun h' hn' hs=>?_) hcls
    obtain ⟨oL,_,_,hoL,_⟩:=id hn;refine h _ ⟨I.ok,I.os,I.bare,⟨fun b o e n hb hx=>?_,fun b o e n hb hx=>?_,I.base.free,fun b o e hx=>?_,I.base.tups,I.base.frzs,I.base.tbls⟩,⟨_,hn',fun j y v' e1 e2 e3=>?_⟩,fun y c e=>?_,I.free,I.freeC,fun p hp=>?_,tracked ⟨oL,hoL,I.free⟩ hs,by simpa using I.len⟩ ⟨_,hs,.inl rfl⟩
    · exact (hs.2 b (yaq (yas (yaf e) I.ok.above))).trans (I.base.keep b o e n hb hx)
    · obtain ⟨sl,e1⟩:=I.base.slot b o e n hb hx
      exact ⟨sl,(hs.2 b (yaq (yas (yaf e) I.ok.above))).trans e1⟩
    · obtain ⟨o',e1⟩:=I.base.there b o e hx
      exact ⟨o',(hs.2 b (yaq (yas (yaf e) I.ok.above))).trans e1⟩
    · by_cases hj:j=i
      · subst hj
        rw[hi]at e1;cases e1
        rw[List.getElem?_set_self hiσ]at e2;cases e2
        exact ⟨u,r,.inl ⟨hk,by simp⟩⟩
      · rw[List.getElem?_set_ne (Ne.symm hj)]at e2
        obtain ⟨u',r',q⟩:=hl j y v' e1 e2 e3;refine ⟨u',r',?_⟩;rcases q with ⟨k,e⟩ | ⟨k,c,e,z⟩
        · refine .inl ⟨k,?_⟩
          have:y≠x:=fun e=>hj (zkw hN e1 (e ▸ hi));simp[this,e]
        · exact .inr ⟨k,c,e,z.sameBut hs (cne y c e)⟩
    · obtain ⟨w',z⟩:=I.cell y c e
      exact ⟨w',z.sameBut hs (cne y c e)⟩
    · obtain ⟨e,n,ne,nf,d⟩:=I.pin p hp
      exact ⟨(hs.2 p.1 ne).trans e,n,ne,nf,d⟩
  · have hfn:X.fn x=true:=by
      rcases hf with z | z
      · exact z
      · rw[z]at hk;cases hk
    obtain ⟨c,hc⟩:=I.ok.has x (.inl hk);obtain ⟨w',z⟩:=I.cell x c hc;refine wpAny_storeName_cell I.ok.kind hk hc z (fun h' hc' hs=>?_);obtain ⟨oc,hoc,hocd⟩:=id z;refine h { s with heap:=h' } ⟨I.ok,I.os,I.bare,⟨fun b o e n hb hx=>?_,fun b o e n hb hx=>?_,I.base.free,fun b o e hx=>?_,I.base.tups,I.base.frzs,I.base.tbls⟩,⟨m,hn.sameBut hs (Ne.symm (cne x c hc)),fun j y v' e1 e2 e3=>?_⟩,fun y c' e=>?_,I.free,I.freeC,fun p hp=>?_,tracked ⟨oc,hoc,I.freeC x c hc⟩ hs,by simpa using I.len⟩ ⟨c,hs,.inr hc⟩
    · exact (hs.2 b (yaq (yas (yaf e) (I.ok.cab x c hfn hc)))).trans (I.base.keep b o e n hb hx)
    · obtain ⟨sl,e1⟩:=I.base.slot b o e n hb hx
      exact ⟨sl,(hs.2 b (yaq (yas (yaf e) (I.ok.cab x c hfn hc)))).trans e1⟩
    · obtain ⟨o',e1⟩:=I.base.there b o e hx
      exact ⟨o',(hs.2 b (yaq (yas (yaf e) (I.ok.cab x c hfn hc)))).trans e1⟩
    · by_cases hj:j=i
      · subst hj
        rw[hi]at e1;cases e1
        rw[List.getElem?_set_self hiσ]at e2;cases e2
        exact ⟨u,r,.inr ⟨.inl hk,c,hc,hc'⟩⟩
      · rw[List.getElem?_set_ne (Ne.symm hj)]at e2
        obtain ⟨u',r',q⟩:=hl j y v' e1 e2 e3;refine ⟨u',r',?_⟩;rcases q with q | ⟨k,c',e,z'⟩
        · exact .inl q
        · refine .inr ⟨k,c',e,z'.sameBut hs ?_⟩
          rintro rfl;exact hj (zkw hN e1 (I.ok.inj _ _ _ e hc ▸ hi))
    · by_cases hcc:c'=c
      · subst hcc;exact ⟨_,hc'⟩
      · obtain ⟨w2,z2⟩:=I.cell y c' e
        exact ⟨w2,z2.sameBut hs hcc⟩
    · obtain ⟨e,n,ne,nf,d⟩:=I.pin p hp
      refine ⟨(hs.2 p.1 ?_).trans e,n,ne,nf,d⟩;intro q;rw[q,hoc]at e;have q':oc=p.2:=yae e;exact d w' (by rw[← q'];exact hocd)
theorem zjY {M:Model}{A:Around}{E:Value→Shared→Prop}{i:Nat}{x:Str}{v:V}{u:Value}{Q:Unit→Shared→Prop}(I:Inv X pins σ H s)(hN:X.N.Nodup)(hi:X.N[i]?=some x)(hx:Loc X.env.scope x)(r:RelV v u)
    (h:∀ s',Inv X pins (σ.set i (some v)) H s'→Q () s') (hf:X.fn x=true∨X.env.scope.names.lookup x=some .local:=by first | exact .inl rfl | exact .inr rfl | assumption):wpAny M A (storeName X.env x u) Q E s:=
  zif I hN hi hx r (fun s' I' _=>h s' I') hf
theorem Inv.call' {s':Shared}{ch:List Addr}(I:Inv X pins σ H s)(ho:s'.os=s.os)(u:Un (frs X.stack) ch H H' s.heap s'.heap)(hok:HOk X.prog X.w H' s'.heap)(hg:AllBare s'.gens)
    (hch:∀ b∈ch,(b∈X.ex∨X.s₀.heap.objs.size≤b)∧b≠X.env.locals∧(∀ x c,X.env.cells.lookup x=some c→c≠b)∧∀ p∈X.pn++pins,p.1≠b):Inv X pins σ H' s':=by
  obtain ⟨h',g',d',t',o'⟩:=s';have e:o'=s.os:=ho;subst e;exact I.call (g':=g') (t':=t') (d':=d') u hok hg hch
end
abbrev XK:=Value→Option Addr→Hp→Prop
abbrev St:=List (Option V)
abbrev VK:=V→Hp→Prop
abbrev TE:=St→Hp→VK→Prop
abbrev TT:=St→Hp→(Bool→Hp→Prop)→Prop
abbrev TA:=St→Hp→(List V→Hp→Prop)→Prop
structure Ends where
  nx:St→Hp→Prop
  rt:VK
  bk:St→Hp→Prop:=fun _ _=>False
  ct:St→Hp→Prop:=fun _ _=>False
abbrev TS:=Ends→St→Hp→Prop
def EP (X:Cx)(pins:List (Addr×Obj))(σ:St)(Q:VK)(u:Value)(s':Shared):Prop:=∃ v H',Inv X pins σ H' s'∧RelV v u∧Q v H'
def TP (X:Cx)(pins:List (Addr×Obj))(σ:St)(Q:Bool→Hp→Prop)(b:Bool)(s':Shared):Prop:=∃ H',Inv X pins σ H' s'∧Q b H'
def AP (X:Cx)(pins:List (Addr×Obj))(σ:St)(Q:List V→Hp→Prop)(us:List Value)(s':Shared):Prop:=∃ vs H',Inv X pins σ H' s'∧Vals vs us∧Q vs H'
def SP (X:Cx)(pins:List (Addr×Obj))(D:Ends)(f:Flow)(s':Shared):Prop:=
  match f with
  | .next=>∃ σ' H',Inv X pins σ' H' s'∧D.nx σ' H'
  | .brk=>∃ σ' H',Inv X pins σ' H' s'∧D.bk σ' H'
  | .cont=>∃ σ' H',Inv X pins σ' H' s'∧D.ct σ' H'
  | .ret u=>∃ v σ' H',Inv X pins σ' H' s'∧RelV v u∧D.rt v H'
def PE (X:Cx)(e:Expr)(t:TE):Prop:=
  ∀(pins:List (Addr×Obj)) (s:Shared) (σ:St) (H:Hp) (Q:VK),Inv X pins σ H s→t σ H Q→wpAny (model X.prog X.w) X.A (eval e X.env) (EP X pins σ Q) X.xe s
def PT (X:Cx)(e:Expr)(t:TT):Prop:=
  ∀(pins:List (Addr×Obj)) (s:Shared) (σ:St) (H:Hp) (Q:Bool→Hp→Prop),Inv X pins σ H s→t σ H Q→wpAny (model X.prog X.w) X.A (isTrue e X.env (eval e X.env)) (TP X pins σ Q) X.xe s
def PW (X:Cx)(e:Expr)(t:TT):Prop:=
  ∀(whole:Sem Value) (pins:List (Addr×Obj)) (s:Shared) (σ:St) (H:Hp) (Q:Bool→Hp→Prop),Inv X pins σ H s→t σ H Q→wpAny (model X.prog X.w) X.A (isTrue e X.env whole) (TP X pins σ Q) X.xe s
theorem PW.pt {X:Cx}{e:Expr}{t:TT}(h:PW X e t):PT X e t:=h _
def PA (X:Cx)(es:List Expr)(t:TA):Prop:=
  ∀(pos:Pos) (pins:List (Addr×Obj)) (s:Shared) (σ:St) (H:Hp) (Q:List V→Hp→Prop),Inv X pins σ H s→t σ H Q→wpAny (model X.prog X.w) X.A (spliced (backTo pos (starEach es X.env))) (AP X pins σ Q) X.xe s
def PS (X:Cx)(st:Stmt)(t:TS):Prop:=
  ∀(pins:List (Addr×Obj)) (s:Shared) (σ:St) (H:Hp) (D:Ends),Inv X pins σ H s→t D σ H→wpAny (model X.prog X.w) X.A (exec st X.env) (SP X pins D) X.xe s
def PSs (X:Cx)(st:List Stmt)(t:TS):Prop:=
  ∀(pins:List (Addr×Obj)) (s:Shared) (σ:St) (H:Hp) (D:Ends),Inv X pins σ H s→t D σ H→wpAny (model X.prog X.w) X.A (execs st X.env) (SP X pins D) X.xe s
theorem thn {α:Type}{t:Sem α}{Q Q':α→Shared→Prop}{M:Model}{A:Around}{E:Value→Shared→Prop}{s:Shared}(h:wpAny M A t Q E s)(hQ:∀ a s,Q a s→Q' a s):wpAny M A t Q' E s:=wpAny_mono h hQ fun _ _ x=>x
end L2
namespace L2
open PySem PySem.Spec PyProof.Rows
section
variable {X:Cx}
def tVar (i:Nat):TE:=fun σ H Q=>∃ v,σ[i]?=some (some v)∧Q v H
def tC (v:V):TE:=fun _ H Q=>Q v H
theorem zrl {i:Nat}{x:Str}{pos:Pos}(hN:X.N[i]?=some x)(hv:Vis X.env.scope x)(hd:(x == ("__debug__" : Str))=false:=by decide)(hcd:(x == ("__classdict__" : Str))=false:=by decide):PE X (.Name x pos) (tVar i):=by
  intro pins s σ H Q I h;obtain ⟨v,e,h⟩:=h;obtain ⟨m,hn,hl⟩:=I.loc;obtain ⟨u,r,l⟩:=hl i x v hN e hv;have fin:EP X pins σ Q u s:=⟨v,H,I,r,h⟩;rcases l with ⟨hk,hm⟩ | ⟨hk,c,hc,hcell⟩
  · exact wpAny_Name (wpAny_loadName_local I.ok.kind hk hn hm fin) hd
  · rcases hk with hk | hk
    · exact wpAny_Name (wpAny_loadName_cell I.ok.kind hk hc hcell fin) hd
    · exact wpAny_Name (wpAny_loadName_free I.ok.kind hk hc hcell fin hcd) hd
theorem zae {i j pos}:PE X (.Constant (.int i) j pos) (tC (.int i)):=fun _ _ _ H _ I h=>wpAny_Constant_int ⟨.int i,H,I.tok _,⟨_,rfl⟩,h⟩
theorem zcf {b j pos}:PE X (.Constant (.bool b) j pos) (tC (.bl b)):=fun _ _ _ H _ I h=>Constant_bool ⟨.bl b,H,I,rfl,h⟩
theorem zrn {j pos}:PE X (.Constant .none j pos) (tC .non):=fun _ _ _ H _ I h=>Constant_none ⟨.non,H,I,rfl,h⟩
theorem zdy {x j pos}:PE X (.Constant (.str x) j pos) (tC (.str x)):=fun _ _ _ H _ I h=>Calls.Constant_str ⟨.str x,H,I.tok _,⟨_,rfl⟩,h⟩
def Gl (X:Cx)(x:Str):Prop:=X.env.kindOf x=some .globalImplicit
theorem zep {E:Value→Shared→Prop}{pins:List (Addr×Obj)}{s:Shared}{σ:St}{H:Hp}{x:Str}{u:Value}{pos:Pos}{Q:Value→Shared→Prop}(I:Inv X pins σ H s)(hg:Gl X x)(hm:X.mg x=some u)(h:Q u s)
    (hd:(x == ("__debug__" : Str))=false:=by decide):wpAny (model X.prog X.w) X.A (eval (.Name x pos) X.env) Q E s:=
  Calls.Name_function_global I.ok.kind hg (Calls.loadGlobal_global (by rw[I.ok.glob];exact I.mod.glob.keeps I.bk) hm h) hd
theorem zft {E:Value→Shared→Prop}{pins:List (Addr×Obj)}{s:Shared}{σ:St}{H:Hp}{x:Str}{u:Value}{pos:Pos}{Q:Value→Shared→Prop}(I:Inv X pins σ H s)(hg:Gl X x)(hm:X.mg x=none)(hv:bootBuiltins x=some u)(h:Q u s)
    (hn:x ≠ "__name__":=by decide) (hd:(x == ("__debug__" : Str))=false:=by decide):wpAny (model X.prog X.w) X.A (eval (.Name x pos) X.env) Q E s:=by
  obtain ⟨mb,h1,h2⟩:=I.mod.blt;exact Calls.Name_function_global I.ok.kind hg (Calls.loadGlobal_builtin (by rw[I.ok.glob];exact I.mod.glob.keeps I.bk) hm (by rw[I.ok.blt];exact h1.keeps I.bk) ((h2 x hn).trans hv) h) hd
theorem zp3 {x:Str}{v:V}{u:Value}{pos:Pos}(hg:Gl X x)(hm:X.mg x=some u)(r:RelV v u)(hd:(x == ("__debug__" : Str))=false:=by decide):PE X (.Name x pos) (tC v):=
  fun _ _ _ H _ I h=>zep I hg hm ⟨v,H,I,r,h⟩ hd
theorem zgj {x:Str}{v:V}{u:Value}{pos:Pos}(hg:Gl X x)(hm:X.mg x=none)(hv:bootBuiltins x=some u)(r:RelV v u)(hn:x ≠ "__name__":=by decide)(hd:(x == ("__debug__" : Str))=false:=by decide):PE X (.Name x pos) (tC v):=
  fun _ _ _ H _ I h=>zft I hg hm hv ⟨v,H,I,r,h⟩ hn hd
variable {a b:Expr}{ta tb:TE}{pos:Pos}
def tB (t:TE):TT:=fun σ H Q=>t σ H fun x H1=>∃ c,x=.bl c∧Q c H1
theorem zdo {e:Expr}{t:TE}(h:PE X e t)(he:∀ whole,isTrue e X.env whole=(do let v ← whole;standAt e.pos;holding [v] (truthy v)):=by intro _;rfl):PT X e (tB t):=by
  intro pins s σ H Q I hw;refine isTrue_plain (thn (h pins s σ H _ I hw) fun v s1 zq0=>?_) (he _);obtain ⟨x,H1,I1,r1,q1⟩:=zq0;obtain ⟨d,rfl,q⟩:=q1;cases r1
  exact wpAny_truthy_bool ⟨H1,I1,q⟩
variable {tA tB':TT}{rest:List Expr}
def tAnd (t u:TT):TT:=fun σ H Q=>t σ H fun c H1=>if c=true then u σ H1 Q else Q false H1
def tOr (t u:TT):TT:=fun σ H Q=>t σ H fun c H1=>if c=true then Q true H1 else u σ H1 Q
def tNot (t:TT):TT:=fun σ H Q=>t σ H fun c H1=>Q (!c) H1
theorem zfe (ha:PT X a tA):PW X (.BoolOp .And [a] pos) tA:=by
  intro wh pins s σ H Q I h;refine isTrue_and (thn (ha pins s σ H Q I h) fun c s1 e=>?_);cases c with
  | true=>exact isTrue_and_nil e
  | false=>exact e
theorem zfm (ha:PT X a tA):PW X (.BoolOp .Or [a] pos) tA:=by
  intro wh pins s σ H Q I h;refine isTrue_or (thn (ha pins s σ H Q I h) fun c s1 e=>?_);cases c with
  | false=>exact isTrue_or_nil e
  | true=>exact e
theorem zg5 (ha:PT X a tA)(hb:PW X (.BoolOp .And (b::rest) pos) tB'):PW X (.BoolOp .And (a::b::rest) pos) (tAnd tA tB'):=by
  intro wh pins s σ H Q I h;refine isTrue_and (thn (ha pins s σ H _ I h) fun c s1 zq0=>?_);obtain ⟨H1,I1,q1⟩:=zq0;cases c with
  | true=>exact hb wh pins s1 σ H1 Q I1 q1
  | false=>exact ⟨H1,I1,q1⟩
theorem ziq (ha:PT X a tA)(hb:PW X (.BoolOp .Or (b::rest) pos) tB'):PW X (.BoolOp .Or (a::b::rest) pos) (tOr tA tB'):=by
  intro wh pins s σ H Q I h;refine isTrue_or (thn (ha pins s σ H _ I h) fun c s1 zq0=>?_);obtain ⟨H1,I1,q1⟩:=zq0;cases c with
  | true=>exact ⟨H1,I1,q1⟩
  | false=>exact hb wh pins s1 σ H1 Q I1 q1
theorem zeb (ha:PT X a tA):PT X (.UnaryOp .Not a pos) (tNot tA):=by
  intro pins s σ H Q I h;exact isTrue_not (ha pins s σ H (fun c H1=>Q (!c) H1) I h)
def zse (ta tb:TE):TE:=fun σ H Q=>ta σ H fun x H1=>∃ c,x=.bl c∧if c=true then tb σ H1 Q else Q (.bl false) H1
def tOrV (ta tb:TE):TE:=fun σ H Q=>ta σ H fun x H1=>∃ c,x=.bl c∧if c=true then Q (.bl true) H1 else tb σ H1 Q
def zr9 (ta:TE):TE:=fun σ H Q=>ta σ H fun x H1=>∃ c,x=.bl c∧Q (.bl (!c)) H1
theorem zkm {op}{t:TE}(h:PE X a t):PE X (.BoolOp op [a] pos) t:=fun pins s σ H Q I hw=>BoolOp_one (h pins s σ H Q I hw)
theorem zms (ha:PE X a ta)(hb:PE X (.BoolOp .And (b::rest) pos) tb):PE X (.BoolOp .And (a::b::rest) pos) (zse ta tb):=by
  intro pins s σ H Q I h;refine BoolOp_and (thn (ha pins s σ H _ I h) fun v s1 zq0=>?_);obtain ⟨x,H1,I1,r1,q1⟩:=zq0;obtain ⟨c,rfl,q1⟩:=q1;cases r1
  refine wpAny_truthy_bool ?_;cases c with
  | true=>exact hb pins s1 σ H1 Q I1 q1
  | false=>exact ⟨.bl false,H1,I1,rfl,q1⟩
theorem zsh (ha:PE X a ta)(hb:PE X (.BoolOp .Or (b::rest) pos) tb):PE X (.BoolOp .Or (a::b::rest) pos) (tOrV ta tb):=by
  intro pins s σ H Q I h;refine BoolOp_or (thn (ha pins s σ H _ I h) fun v s1 zq0=>?_);obtain ⟨x,H1,I1,r1,q1⟩:=zq0;obtain ⟨c,rfl,q1⟩:=q1;cases r1
  refine wpAny_truthy_bool ?_;cases c with
  | false=>exact hb pins s1 σ H1 Q I1 q1
  | true=>exact ⟨.bl true,H1,I1,rfl,q1⟩
theorem zrm (ha:PE X a ta):PE X (.UnaryOp .Not a pos) (zr9 ta):=by
  intro pins s σ H Q I h;refine UnaryOp_ (thn (ha pins s σ H _ I h) fun v s1 zq0=>?_);obtain ⟨x,H1,I1,r1,q1⟩:=zq0;obtain ⟨c,rfl,q1⟩:=q1;cases r1
  exact not_of (wpAny_truthy_bool ⟨.bl (!c),H1,I1,rfl,q1⟩)
def tIf (t:TT)(ta tb:TE):TE:=fun σ H Q=>t σ H fun c H1=>if c=true then ta σ H1 Q else tb σ H1 Q
theorem zkn {c:Expr}(hc:PT X c tA)(ha:PE X a ta)(hb:PE X b tb):PE X (.IfExp c a b pos) (tIf tA ta tb):=by
  intro pins s σ H Q I h;refine wpAny_IfExp (thn (hc pins s σ H _ I h) fun d s1 zq0=>?_);obtain ⟨H1,I1,q1⟩:=zq0;cases d with
  | true=>exact ha pins s1 σ H1 Q I1 q1
  | false=>exact hb pins s1 σ H1 Q I1 q1
end
end L2
namespace L2
open PySem PySem.Spec PyProof.Rows
def SqL (K:Frag)(H:Hp)(a:Addr)(xs:List V):Prop:=
  Rd H a (.lst xs)∨
    ∃(o:Obj) (its:Array Value) (n:Nat),K.lookup a=some o∧o.cls=.type "list"∧o.dict=none∧o.data=.seq its n∧its.size≤sizeLine∧Vals xs its.toList
def SqT (K:Frag)(H:Hp)(a:Addr)(xs:List V):Prop:=
  Rd H a (.tup xs)∨
    ∃(o:Obj) (its:Array Value) (n:Nat),K.lookup a=some o∧o.cls=.type "tuple"∧o.data=.seq its n∧its.size≤sizeLine∧Vals xs its.toList
def absV:Value→Option V
  | .none=>some .non
  | .bool b=>some (.bl b)
  | .int i _=>some (.int i)
  | .str x _=>some (.str x)
  | .bytes b _=>some (.byt b)
  | .float b _=>some (.flt b)
  | .ref a=>some (.ref a)
  | .type n=>some (.ty n)
  | _=>none
theorem RelV.abs {x:V}{u:Value}(r:RelV x u):absV u=some x:=by
  cases x with
  | non=>cases r;rfl
  | bl _=>cases r;rfl
  | int _=>obtain ⟨t,rfl⟩:=r;rfl
  | str _=>obtain ⟨t,rfl⟩:=r;rfl
  | byt _=>obtain ⟨t,rfl⟩:=r;rfl
  | flt _=>obtain ⟨t,rfl⟩:=r;rfl
  | ref _=>cases r;rfl
  | ty _=>cases r;rfl
theorem RelV.inj {x y:V}{u:Value}(r:RelV x u)(q:RelV y u):x=y:=yae (r.abs.symm.trans q.abs)
theorem Vals.inj:∀{xs ys:List V} {us:List Value},Vals xs us→Vals ys us→xs=ys
  | _,_,_,.nil,.nil=>rfl
  | _,_,_,.cons r t,.cons r' t'=>by rw[r.inj r',Vals.inj t t']
section
variable {X:Cx}{pins:List (Addr×Obj)}{σ:St}{H:Hp}{s:Shared}{a:Addr}{xs ys:List V}
theorem SqL.of {K:Frag}(h:H a=some (.lst xs)):SqL K H a xs:=.inl (.inl h)
theorem SqT.of {K:Frag}(h:H a=some (.tup xs)):SqT K H a xs:=.inl (.inl h)
theorem Inv.list (I:Inv X pins σ H s)(h:SqL X.K H a xs):∃ its:List Value,Vals xs its∧PlainL s.heap a its.toArray∧xs.length≤sizeLine:=by
  rcases h with h | ⟨o,its,n,hk,hc,hd,hs,hz,r⟩
  · obtain ⟨z,its,n,r,e⟩:=h.ok I.hok
    exact ⟨its,r,⟨_,n,e,rfl,rfl,rfl⟩,z⟩
  · refine ⟨its.toList,r,⟨o,n,I.kIn a o hk,hc,hd,by simpa using hs⟩,?_⟩
    have e:=r.length;simp only[ybv]at e;omega
theorem Inv.tuple (I:Inv X pins σ H s)(h:SqT X.K H a xs):∃ its:List Value,Vals xs its∧IsTup s.heap a its.toArray∧xs.length≤sizeLine:=by
  rcases h with h | ⟨o,its,n,hk,hc,hs,hz,r⟩
  · obtain ⟨z,its,r,p⟩:=h.ok I.hok
    exact ⟨its,r,p,z⟩
  · refine ⟨its.toList,r,⟨o,I.kIn a o hk,hc,n,by simpa using hs⟩,?_⟩
    have e:=r.length;simp only[ybv]at e;omega
theorem Inv.list_inj (I:Inv X pins σ H s)(h:SqL X.K H a xs)(h':SqL X.K H a ys):xs=ys:=by
  obtain ⟨its,r,⟨o,n,e,_,_,d⟩,_⟩:=I.list h;obtain ⟨its',r',⟨o',n',e',_,_,d'⟩,_⟩:=I.list h';rw[e]at e';cases e'
  rw[d]at d';injection d' with d1 _;have:its=its':=by simpa using congrArg Array.toList d1
  subst this;exact r.inj r'
theorem Inv.tuple_inj (I:Inv X pins σ H s)(h:SqT X.K H a xs)(h':SqT X.K H a ys):xs=ys:=by
  obtain ⟨its,r,⟨o,e,_,n,d⟩,_⟩:=I.tuple h;obtain ⟨its',r',⟨o',e',_,n',d'⟩,_⟩:=I.tuple h';rw[e]at e';cases e'
  rw[d]at d';injection d' with d1 _;have:its=its':=by simpa using congrArg Array.toList d1
  subst this;exact r.inj r'
end
abbrev Cx.wish (X:Cx)(E:Value→Shared→Prop):Cx:={ X with xe:=E }
abbrev Cx.nox (X:Cx):Cx:=X.wish fun _ _=>False
theorem Cx.Ok.wish {X:Cx}(ok:X.Ok)(E:Value→Shared→Prop):(X.wish E).Ok:=
  ⟨ok.mod,ok.kind,ok.glob,ok.blt,ok.above,ok.inj,ok.has,ok.cab,ok.hd,ok.frames,ok.stk,ok.exf,ok.bs,ok.bsz,ok.noex,ok.exfs,ok.funs,ok.frf⟩
theorem Cx.Ok.unwish {X:Cx}{E:Value→Shared→Prop}(ok:(X.wish E).Ok):X.Ok:=
  ⟨ok.mod,ok.kind,ok.glob,ok.blt,ok.above,ok.inj,ok.has,ok.cab,ok.hd,ok.frames,ok.stk,ok.exf,ok.bs,ok.bsz,ok.noex,ok.exfs,ok.funs,ok.frf⟩
section
variable {X:Cx}{pins:List (Addr×Obj)}{σ:St}{H:Hp}{s:Shared}{E:Value→Shared→Prop}
theorem Inv.wish (I:Inv X pins σ H s)(E:Value→Shared→Prop):Inv (X.wish E) pins σ H s:=⟨I.ok.wish E,I.os,I.bare,I.base,I.loc,I.cell,I.free,I.freeC,I.pin,I.hok,I.len⟩
theorem Inv.unwish (I:Inv (X.wish E) pins σ H s):Inv X pins σ H s:=⟨I.ok.unwish,I.os,I.bare,I.base,I.loc,I.cell,I.free,I.freeC,I.pin,I.hok,I.len⟩
theorem SP.unwish {D:Ends}{f:Flow}{s':Shared}(h:SP (X.wish E) pins D f s'):SP X pins D f s':=by
  cases f with
  | next=>obtain ⟨σ',H',I,q⟩:=h;exact ⟨σ',H',I.unwish,q⟩
  | brk=>obtain ⟨σ',H',I,q⟩:=h;exact ⟨σ',H',I.unwish,q⟩
  | cont=>obtain ⟨σ',H',I,q⟩:=h;exact ⟨σ',H',I.unwish,q⟩
  | ret u=>obtain ⟨v,σ',H',I,r,q⟩:=h;exact ⟨v,σ',H',I.unwish,r,q⟩
theorem PSs.nox {st:List Stmt}{t:TS}(h:PSs X.nox st t):PSs X st t:=fun pins s σ H D I hw=>
  wpAny_mono (h pins s σ H D (I.wish _) hw) (fun _ _ q=>q.unwish) fun _ _ z=>False.elim z
end
section
variable {X:Cx}{st:Stmt}{rest:List Stmt}{t u:TS}{e:Expr}{te:TE}{pos:Pos}
def zsa:TS:=fun D σ H=>D.nx σ H
def tSeq (t u:TS):TS:=fun D σ H=>t { D with nx:=u D } σ H
theorem zaI:PSs X [] zsa:=fun _ _ σ H _ I h=>wpAny_execs_nil ⟨σ,H,I,h⟩
theorem zaj (h1:PS X st t)(h2:PSs X rest u):PSs X (st::rest) (tSeq t u):=by
  intro pins s σ H D I h;refine wpAny_execs_cons (thn (h1 pins s σ H { D with nx:=u D } I h) fun f s1 q=>?_);cases f with
  | next=>
    obtain ⟨σ',H',I',q⟩:=q;exact h2 pins s1 σ' H' D I' q
  | ret v=>exact q
  | brk=>exact q
  | cont=>exact q
theorem zag (h1:PS X st t):PSs X [st] t:=by
  intro pins s σ H D I h;refine wpAny_execs_cons (thn (h1 pins s σ H D I h) fun f s1 q=>?_);cases f with
  | next=>exact wpAny_execs_nil q
  | ret v=>exact q
  | brk=>exact q
  | cont=>exact q
theorem Inv.quiet {pins:List (Addr×Obj)}{σ:St}{H:Hp}{s:Shared}(I:Inv X pins σ H s):interactive X.env=false:=by simp[interactive,I.ok.kind]
def zsb (te:TE):TS:=fun D σ H=>te σ H fun _ H1=>D.nx σ H1
theorem zaW (he:PE X e te)(hs:swapsWith e none pos.line X.env=pure false:=by rfl):PS X (.Expr e pos) (zsb te):=by
  intro pins s σ H D I h;exact wpAny_Expr_any (thn (he pins s σ H _ I h) fun v s1 zq0=>(by obtain ⟨x,H1,I1,r1,q1⟩:=zq0;exact ⟨σ,H1,I1,q1⟩)) I.quiet hs
def tRet (te:TE):TS:=fun D σ H=>te σ H D.rt
theorem zas (he:PE X e te):PS X (.Return (some e) pos) (tRet te):=by
  intro pins s σ H D I h;exact wpAny_Return_some (thn (he pins s σ H _ I h) fun v s1 zq0=>(by obtain ⟨x,H1,I1,r1,q1⟩:=zq0;exact ⟨x,σ,H1,I1,r1,q1⟩))
def tIfS (c:TT)(t u:TS):TS:=fun D σ H=>c σ H fun b H1=>if b=true then t D σ H1 else u D σ H1
theorem zbu {c:Expr}{a b:List Stmt}{tc:TT}(hc:PT X c tc)(ha:PSs X a t)(hb:PSs X b u):PS X (.If c a b pos) (tIfS tc t u):=by
  intro pins s σ H D I h;refine wpAny_If (thn (hc pins s σ H _ I h) fun d s1 zq0=>?_);obtain ⟨H1,I1,q1⟩:=zq0;cases d with
  | true=>exact ha pins s1 σ H1 D I1 q1
  | false=>exact hb pins s1 σ H1 D I1 q1
def zqW:TS:=fun _ _ _=>False
theorem zoe:PS X st zqW:=fun _ _ _ _ _ _ h=>h.elim
end
abbrev TG:=V→St→Hp→(St→Hp→Prop)→Prop
abbrev TGs:=List V→St→Hp→(St→Hp→Prop)→Prop
def PG (X:Cx)(target:Expr)(t:TG):Prop:=
  ∀(pins:List (Addr×Obj)) (s:Shared) (σ:St) (H:Hp) (v:V) (u:Value) (Q:St→Hp→Prop),Inv X pins σ H s→RelV v u→t v σ H Q→
    wpAny (model X.prog X.w) X.A (assign target X.env u) (fun _ s'=>∃ σ' H',Inv X pins σ' H' s'∧Q σ' H') X.xe s
def PGs (X:Cx)(ts:List Expr)(t:TGs):Prop:=
  ∀(pins:List (Addr×Obj)) (s:Shared) (σ:St) (H:Hp) (vs:List V) (us:List Value) (Q:St→Hp→Prop),Inv X pins σ H s→Vals vs us→t vs σ H Q→
    wpAny (model X.prog X.w) X.A (assignInOrder ((assignEach ts X.env).map (·.2)) us) (fun _ s'=>∃ σ' H',Inv X pins σ' H' s'∧Q σ' H') X.xe s
abbrev TSet:=V→V→V→Hp→(Hp→Prop)→Prop
def PSet (X:Cx)(t:TSet):Prop:=
  ∀(pins:List (Addr×Obj)) (s:Shared) (σ:St) (H:Hp) (o i v:V) (ov iv u:Value) (Q:Hp→Prop),Inv X pins σ H s→RelV o ov→RelV i iv→RelV v u→t o i v H Q→
    wpAny (model X.prog X.w) X.A (setItem ov iv u) (fun _ s'=>∃ H',Inv X pins σ H' s'∧Q H') X.xe s
section
variable {X:Cx}{pos:Pos}
def zgR (i:Nat):TG:=fun v σ H Q=>Q (σ.set i (some v)) H
theorem zan {i:Nat}{x:Str}(hN:X.N.Nodup)(hi:X.N[i]?=some x)(hx:Loc X.env.scope x)(hf:X.fn x=true∨X.env.scope.names.lookup x=some .local:=by first | exact .inl rfl | exact .inr rfl | assumption):PG X (.Name x pos) (zgR i):=by
  intro pins s σ H v u Q I r h;exact wpAny_assign_Name (zjY I hN hi hx r (fun s' I'=>⟨_,H,I',h⟩) hf)
def gNil:TGs:=fun vs σ H Q=>vs=[]∧Q σ H
def zqA (t:TG)(u:TGs):TGs:=fun vs σ H Q=>∃ v r,vs=v::r∧t v σ H fun σ' H'=>u r σ' H' Q
theorem zce:PGs X [] gNil:=by
  intro pins s σ H vs us Q I r h;obtain ⟨e,h⟩:=h;subst e;cases r
  exact assignInOrder_nil ⟨σ,H,I,h⟩
theorem zaG {e:Expr}{es:List Expr}{t:TG}{u:TGs}(h1:PG X e t)(h2:PGs X es u)
    (hs:(assignEach (e::es) X.env).map (·.2)=assign e X.env::(assignEach es X.env).map (·.2):=by rfl):PGs X (e::es) (zqA t u):=by
  intro pins s σ H vs us Q I r h;obtain ⟨v,vr,e1,h⟩:=h;subst e1;cases r with
  | cons r rr=>
    rw[hs];refine assignInOrder_cons (thn (h1 pins s σ H _ _ _ I r h) fun _ s1 zq0=>?_);obtain ⟨σ1,H1,I1,q1⟩:=zq0;exact h2 pins s1 σ1 H1 _ _ Q I1 rr q1
def gTup (K:Frag)(n:Nat)(t:TGs):TG:=fun v σ H Q=>∃ a xs,v=.ref a∧SqT K H a xs∧xs.length=n∧t xs σ H Q
theorem zfn {es:List Expr}{k:Nat}{t:TGs}{n:Nat}(hc:X.calm=true)(h:PGs X es t)
    (hn:(assignEach es X.env).length=n:=by rfl) (hst:(assignEach es X.env).findIdx? (·.1)=none:=by rfl):PG X (.Tuple es k pos) (gTup X.K n t):=by
  intro pins s σ H v u Q I r hw;obtain ⟨a,xs,e1,hq,hl,hw⟩:=hw;subst e1;cases r
  obtain ⟨its,rv,ht,hz⟩:=I.tuple hq;refine assign_Tuple_tuple (I.ok.hd hc) ht (by simp[hn,← hl,rv.length]) hst fun h' hx=>?_;have I1:Inv X pins σ H { s with heap:=h' }:=I.kept (t':=s.toks) fun b o e=>hx b o (yaq (yaf e)) e;exact h pins _ σ H xs _ Q I1 (by simpa using rv) hw
def gSub (to ti:TE)(t:TSet):TG:=fun v σ H Q=>to σ H fun o H1=>ti σ H1 fun i H2=>t o i v H2 fun H3=>Q σ H3
theorem zps {o i:Expr}{to ti:TE}{t:TSet}(ho:PE X o to)(hi:PE X i ti)(hs:PSet X t)
    (ha:∀ v,assign (.Subscript o i pos) X.env v=(do
      let ov ← holding [v] (eval o X.env)
      let iv ← holding [v,ov] (eval i X.env)
      standAt pos
      holding [v,ov,iv] (setItem ov iv v)
      release [v,ov,iv] []):=by intro _;rfl):PG X (.Subscript o i pos) (gSub to ti t):=by
  intro pins s σ H v u Q I r h;rw[ha];refine wpAny_bind (wpAny_holding (thn (ho pins s σ H _ I h) fun ov s1 zq0=>?_));obtain ⟨x,H1,I1,r1,q1⟩:=zq0;refine wpAny_bind (wpAny_holding (thn (hi pins s1 σ H1 _ I1 q1) fun iv s2 zq0=>?_));obtain ⟨y,H2,I2,r2,q2⟩:=zq0;refine wpAny_bind (wpAny_standAt (wpAny_bind (wpAny_holding (thn (hs pins s2 σ H2 x y v ov iv u _ I2 r1 r2 r q2) fun _ s3 zq0=>?_))));obtain ⟨H3,I3,q3⟩:=zq0;exact wpAny_release ⟨σ,H3,I3,q3⟩
def tAsg (te:TE)(g:TG):TS:=fun D σ H=>te σ H fun x H1=>g x σ H1 D.nx
theorem zkl {tg e:Expr}{te:TE}{g:TG}(he:PE X e te)(hg:PG X tg g)(hs:swapsWithSole [tg] e pos.line X.env=pure false:=by rfl)(hw:swappedStores [tg] e X.env=pure none:=by rfl)
    (h1:(assignEach [tg] X.env).map (·.2)=[assign tg X.env]:=by rfl):PS X (.Assign [tg] e pos) (tAsg te g):=by
  intro pins s σ H D I h;refine wpAny_Assign_stores (thn (he pins s σ H _ I h) fun v s1 zq0=>?_) hs hw;obtain ⟨x,H1,I1,r1,q1⟩:=zq0;rw[h1];exact thn (hg pins s1 σ H1 x v _ I1 r1 q1) fun _ s2 q=>q
theorem zat {i:Nat}{x:Str}{e:Expr}{te:TE}{pos':Pos}(hN:X.N.Nodup)(hi:X.N[i]?=some x)(hx:Loc X.env.scope x)(he:PE X e te)(hs:swapsWith e (some (.Name x pos')) pos.line X.env=pure false:=by rfl)(hf:X.fn x=true∨X.env.scope.names.lookup x=some .local:=by first | exact .inl rfl | exact .inr rfl | assumption) :
    PS X (.Assign [.Name x pos'] e pos) (tAsg te (zgR i)):=by
  intro pins s σ H D I h;refine wpAny_Assign_Name (thn (he pins s σ H _ I h) fun v s1 zq0=>?_) hs;obtain ⟨y,H1,I1,r1,q1⟩:=zq0;exact zjY I1 hN hi hx r1 (fun s2 I2=>⟨_,H1,I2,q1⟩) hf
end
section
variable {X:Cx}{pos:Pos}
def zlX (c:TT)(tb:TS):TS:=fun D σ H=>∃ W:Nat→St→Hp→Prop,(∃ m,W m σ H)∧∀ m σ H,W m σ H→
  c σ H fun b H1=>if b=true then ∃ N:St→Hp→Prop,(∀ σ' H',N σ' H'→∃ m',m' < m∧W m' σ' H')∧tb { D with nx:=N,ct:=N,bk:=D.nx } σ H1 else D.nx σ H1
theorem zhE {c:Expr}{body:List Stmt}{tc:TT}{tb:TS}(hp:PassesOwn (model X.prog X.w) X.A X.env X.xe)(hc:PT X c tc)(hb:PSs X body tb):PS X (.While c body [] pos) (zlX tc tb):=by
  intro pins s σ H D I h;obtain ⟨W,⟨m0,w0⟩,turn⟩:=h;refine wpAny_While (codeAny_whileLoop (fun n s'=>∃ σ' H',Inv X pins σ' H' s'∧W n σ' H') ?_ m0 ⟨σ,H,I,w0⟩);rintro n s1 ⟨σ1,H1,I1,w1⟩;refine wpAny_passesOwn hp (thn (hc pins s1 σ1 H1 _ I1 (turn n σ1 H1 w1)) fun b s2 zq0=>?_);obtain ⟨H2,I2,q2⟩:=zq0;cases b with
  | true=>
    obtain ⟨N,hN,q2⟩:=q2;rw[if_pos rfl];refine wpAny_passesOwn hp (thn (hb pins s2 σ1 H2 _ I2 q2) fun f s3 q3=>?_);cases f with
    | next=>
      obtain ⟨σ3,H3,I3,n3⟩:=q3;obtain ⟨m',hm,w3⟩:=hN σ3 H3 n3;exact ⟨m',hm,σ3,H3,I3,w3⟩
    | cont=>
      obtain ⟨σ3,H3,I3,n3⟩:=q3;obtain ⟨m',hm,w3⟩:=hN σ3 H3 n3;exact ⟨m',hm,σ3,H3,I3,w3⟩
    | brk=>exact q3
    | ret v=>exact q3
  | false=>
    rw[if_neg yay];exact wpAny_execs_nil ⟨σ1,H2,I2,q2⟩
end
structure It where
  go:Nat→Hp→Prop
  yld:Nat→Hp→V→Hp→Prop
  stop:Nat→Hp→Prop
def FpOk (X:Cx)(pins:List (Addr×Obj))(H:Hp)(b:Addr):Prop:=
  H b=none∧b≠X.env.locals∧b∉X.fs∧(b∈X.ex∨X.s₀.heap.objs.size≤b)∧(∀ x c,X.env.cells.lookup x=some c→c≠b)∧∀ p∈X.pn++pins,p.1≠b
theorem Inv.fpOk {X:Cx}{pins:List (Addr×Obj)}{σ:St}{H H':Hp}{s:Shared}{b:Addr}(I:Inv X pins σ H s)(hb:s.heap.objs.size≤b)(hn:H' b=none):FpOk X pins H' b:=by
  refine ⟨hn,ybh (yas I.lt hb),I.nofs hb,.inr (yat I.sz hb),fun x c e z=>?_,fun p hp z=>?_⟩
  · obtain ⟨v,q⟩:=I.cell x c e
    exact absurd (yas q.lt (by rw[z];exact hb)) (yaM _)
  · exact absurd (yas (yaf (I.pin p hp).1) (by rw[z];exact hb)) (yaM _)
structure Turn (P:Program)(w:World)(K:Frag)(tg:Expr)(J:It)(fp:List Addr)(it:Addr)(tn:Nat→Heap→Prop):Prop where
  mem:it∈fp
  obj:∀ i h,tn i h→∀ b∈fp,∃ o,h.get? b=some o∧∀ v,o.data≠.cell v
  keep:∀ i h h',tn i h→(∀ b∈fp,∀ o,h.get? b=some o→h'.get? b=some o)→tn i h'
  item:∀(X:Cx),X.prog=P→X.w=w→X.K=K→X.calm=true→∀(i:Nat) (pins:List (Addr×Obj)) (s:Shared) (σ:St) (H:Hp) (E:Value→Shared→Prop),Inv X pins σ H s→(∀ b∈fp,FpOk X pins H b)→tn i s.heap→J.go i H→
    wpAny (model P w) X.A (pyNext (.ref it)) (fun r s1=>∃ u,r=some u∧
      wpAny (model P w) X.A (letOwnedTupleGo tg (.ref it) u) (fun _ s2=>∃ x H',Inv X pins σ H' s2∧RelV x u∧J.yld i H x H'∧tn (i+1) s2.heap∧∀ b∈fp,H' b=none) E s1) E s
  done:∀(X:Cx),X.prog=P→X.w=w→X.K=K→X.calm=true→∀(i:Nat) (pins:List (Addr×Obj)) (s:Shared) (σ:St) (H:Hp) (E:Value→Shared→Prop),Inv X pins σ H s→(∀ b∈fp,FpOk X pins H b)→tn i s.heap→J.stop i H→
    wpAny (model P w) X.A (pyNext (.ref it)) (fun r s1=>r=none∧Inv X pins σ H s1) E s
  self:∀(A:Around) (i:Nat) (s:Shared) (Q:Value→Shared→Prop) (E:Value→Shared→Prop),tn i s.heap→Q (.ref it) s→wpAny (model P w) A (pyIter (.ref it)) Q E s
abbrev TI:=St→Hp→(It→Hp→Prop)→Prop
def PIE (X:Cx)(pins:List (Addr×Obj))(σ:St)(tg:Expr)(R:It→Hp→Prop)(itv:Value)(s2:Shared):Prop:=
  ∃(it:Addr) (fp:List Addr) (tn:Nat→Heap→Prop) (J:It) (H':Hp),itv=.ref it∧Inv X pins σ H' s2∧Turn X.prog X.w X.K tg J fp it tn∧tn 0 s2.heap∧(∀ b∈fp,FpOk X pins H' b)∧R J H'
def PI (X:Cx)(tg iter:Expr)(wi:TI):Prop:=
  ∀(pins:List (Addr×Obj)) (s:Shared) (σ:St) (H:Hp) (R:It→Hp→Prop),Inv X pins σ H s→wi σ H R→
    wpAny (model X.prog X.w) X.A (eval iter X.env) (fun v s1=>wpAny (model X.prog X.w) X.A (pyIter v) (PIE X pins σ tg R) X.xe s1) X.xe s
theorem zoX {M:Model}{A:Around}{E:Value→Shared→Prop}{s:Shared}{tg:Expr}{it:Addr}{u:Value}{o:Obj}{n:String}{vs:Array Value}{Q:Unit→Shared→Prop}(ho:s.heap.get? it=some o)(hc:o.cls=.type n)(hd:o.data=.fields vs)
    (hn:["enumerate","zip","dict_itemiterator","dict_reverseitemiterator","odict_iterator","itertools.zip_longest","itertools.pairwise"].contains n=false) (hQ:Q () s):wpAny M A (letOwnedTupleGo tg (.ref it) u) Q E s:=by
  unfold letOwnedTupleGo;cases tg <;> first
    | exact wpAny_pure hQ
    | (cases u <;> first
        | exact wpAny_pure hQ
        | (refine wpAny_bind (wpAny_load ho ?_)
           rw[hc,hd];show wpAny M A (if (["enumerate","zip","dict_itemiterator","dict_reverseitemiterator","odict_iterator","itertools.zip_longest","itertools.pairwise"].contains n && vs[0]? == some (rawInt _))=true then _ else _) Q E s
           rw[if_neg (by intro h;rw[hn,Bool.false_and]at h;cases h)]
           exact wpAny_pure hQ))
def Itl (K:Frag)(a:Addr):It:=
  ⟨fun i H=>∃ xs x,SqL K H a xs∧xs[i]?=some x,fun i H x H'=>H'=H∧∀ xs,SqL K H a xs→xs[i]?=some x,fun i H=>∃ xs,SqL K H a xs∧xs.length≤i⟩
def Itt (K:Frag)(a:Addr):It:=
  ⟨fun i H=>∃ xs x,SqT K H a xs∧xs[i]?=some x,fun i H x H'=>H'=H∧∀ xs,SqT K H a xs→xs[i]?=some x,fun i H=>∃ xs,SqT K H a xs∧xs.length≤i⟩
def Itr (lo:Int)(n:Nat):It:=⟨fun i _=>i < n,fun i H x H'=>H'=H∧x=.int (lo+i),fun i _=>n≤i⟩
theorem zib {P:Program}{w:World}{K:Frag}{tg:Expr}(a it:Addr):Turn P w K tg (Itl K a) [it] it (fun i h=>h.IsListIter it a i) where
  mem:=by simp
  obj:=fun i h st b hb=>by
    have e:b=it:=by simpa using hb
    subst e;obtain ⟨o,e,c,d⟩:=st;exact ⟨o,e,fun v z=>by rw[d]at z;cases z⟩
  keep:=fun i h h' st k=>st.at fun o e=>k it (by simp) o e
  item:=by
    intro X hP hw hK hc i pins s σ H E I hf st hg;subst hP hw hK;obtain ⟨xs,x,hq,hx⟩:=hg;obtain ⟨its,rv,p,hz⟩:=I.list hq;obtain ⟨u,hu,ru⟩:=rv.get hx;obtain ⟨f0,f1,f2,f3,f4,f5⟩:=hf it (by simp);refine wpAny_pyNext_list_item st p.isList (x:=u) (by simpa using hu) fun h' st' sb=>?_;have I1:Inv X pins σ H { s with heap:=h' }:=I.turned (t':=s.toks) (fun b o hb e=>(sb.2 b hb).trans e) f0 f1 f3 f4 f5;obtain ⟨o,e,c,d⟩:=id st';exact ⟨u,rfl,zoX (s:={ s with heap:=h' }) e c d (by decide) ⟨x,H,I1,ru,⟨rfl,fun ys hy=>by rw[I.list_inj hy hq];exact hx⟩,st',fun b hb=>(hf b hb).1⟩⟩
  done:=by
    intro X hP hw hK hc i pins s σ H E I hf st hg;subst hP hw hK;obtain ⟨xs,hq,hx⟩:=hg;obtain ⟨its,rv,p,hz⟩:=I.list hq;obtain ⟨f0,f1,f2,f3,f4,f5⟩:=hf it (by simp);have hl:=rv.length;exact wpAny_pyNext_list_end (I.ok.hd hc) st p.isList (by simp;omega) fun h' eb=>⟨rfl,I.turned (t':=s.toks) (fun b o hb e=>eb b o hb e) f0 f1 f3 f4 f5⟩
  self:=fun _ _ _ _ _ st h=>wpAny_pyIter_listiter st h
theorem zgY {P:Program}{w:World}{K:Frag}{tg:Expr}(a it:Addr):Turn P w K tg (Itt K a) [it] it (fun i h=>h.IsTupleIter it a i) where
  mem:=by simp
  obj:=fun i h st b hb=>by
    have e:b=it:=by simpa using hb
    subst e;obtain ⟨o,e,c,d⟩:=st;exact ⟨o,e,fun v z=>by rw[d]at z;cases z⟩
  keep:=fun i h h' st k=>st.at fun o e=>k it (by simp) o e
  item:=by
    intro X hP hw hK hc i pins s σ H E I hf st hg;subst hP hw hK;obtain ⟨xs,x,hq,hx⟩:=hg;obtain ⟨its,rv,p,hz⟩:=I.tuple hq;obtain ⟨u,hu,ru⟩:=rv.get hx;obtain ⟨f0,f1,f2,f3,f4,f5⟩:=hf it (by simp);refine wpAny_pyNext_tuple_item st (show s.heap.IsTuple a its.toArray from p) (x:=u) (by simpa using hu) fun h' st' sb=>?_;have I1:Inv X pins σ H { s with heap:=h' }:=I.turned (t':=s.toks) (fun b o hb e=>(sb.2 b hb).trans e) f0 f1 f3 f4 f5;obtain ⟨o,e,c,d⟩:=id st';exact ⟨u,rfl,zoX (s:={ s with heap:=h' }) e c d (by decide) ⟨x,H,I1,ru,⟨rfl,fun ys hy=>by rw[I.tuple_inj hy hq];exact hx⟩,st',fun b hb=>(hf b hb).1⟩⟩
  done:=by
    intro X hP hw hK hc i pins s σ H E I hf st hg;subst hP hw hK;obtain ⟨xs,hq,hx⟩:=hg;obtain ⟨its,rv,p,hz⟩:=I.tuple hq;obtain ⟨f0,f1,f2,f3,f4,f5⟩:=hf it (by simp);have hl:=rv.length;exact wpAny_pyNext_tuple_end (I.ok.hd hc) st (show s.heap.IsTuple a its.toArray from p) (by simp;omega) fun h' eb=>⟨rfl,I.turned (t':=s.toks) (fun b o hb e=>eb b o hb e) f0 f1 f3 f4 f5⟩
  self:=fun _ _ _ _ _ st h=>wpAny_pyIter_tupleiter st h
theorem zkY {P:Program}{w:World}{K:Frag}{tg:Expr}(it:Addr)(lo:Int)(n:Nat):Turn P w K tg (Itr lo n) [it] it (fun i h=>IsRangeIter h it (lo+(i:Nat) * 1) ((n:Int) - (i:Nat)) 1) where
  mem:=by simp
  obj:=fun i h st b hb=>by
    have e:b=it:=by simpa using hb
    subst e;exact ⟨_,st,fun v z=>by
      have z':Data.fields _=Data.cell v:=z;cases z'⟩
  keep:=fun i h h' st k=>k it (by simp) _ st
  item:=by
    intro X hP hw hK hc i pins s σ H E I hf st hg;subst hP hw hK;obtain ⟨f0,f1,f2,f3,f4,f5⟩:=hf it (by simp);have W:=Walks.range (prog:=X.prog) (w:=X.w) (I.ok.hd hc) it lo 1 n;refine W.item i s _ _ hg st fun v h' tk hv st' kk=>?_;obtain ⟨t,rfl⟩:=hv;have I1:Inv X pins σ H { s with heap:=h',toks:=tk }:=I.turned (fun b o hb e=>kk b o (by simpa using hb) e) f0 f1 f3 f4 f5;refine ⟨_,rfl,zoX (s:={ s with heap:=h',toks:=tk }) (n := "range_iterator") st' rfl rfl (by decide) ⟨.int (lo+i),H,I1,⟨t,?_⟩,⟨rfl,rfl⟩,st',fun b hb=>(hf b hb).1⟩⟩;rw[Int.mul_one]
  done:=by
    intro X hP hw hK hc i pins s σ H E I hf st hg;subst hP hw hK;obtain ⟨f0,f1,f2,f3,f4,f5⟩:=hf it (by simp);exact wpAny_pyNext_range_end (I.ok.hd hc) st (by have:n≤i:=hg;omega) fun h' eb=>⟨rfl,I.turned (t':=s.toks) (fun b o hb e=>eb b o hb e) f0 f1 f3 f4 f5⟩
  self:=fun _ _ _ _ _ st h=>wpAny_pyIter_rangeiter st h
end L2
namespace L2
open PySem PySem.Spec PyProof.Rows
section
variable {X:Cx}{tg:Expr}
def zqs (K:Frag)(tl:TE):TI:=fun σ H R=>tl σ H fun x H1=>∃ a,x=.ref a∧(∃ xs,SqL K H1 a xs)∧R (Itl K a) H1
def iTup (K:Frag)(tl:TE):TI:=fun σ H R=>tl σ H fun x H1=>∃ a,x=.ref a∧(∃ xs,SqT K H1 a xs)∧R (Itt K a) H1
theorem za1 {l:Expr}{tl:TE}(hl:PE X l tl):PI X tg l (zqs X.K tl):=by
  intro pins s σ H R I h;refine thn (hl pins s σ H _ I h) fun v s1 zq0=>?_;obtain ⟨x,H1,I1,r1,q1⟩:=zq0;obtain ⟨a,e,⟨xs,hq⟩,q⟩:=q1;subst e;cases r1
  obtain ⟨its,rv,p,hz⟩:=I1.list hq;refine wpAny_pyIter_list p.isList ?_;refine ⟨s1.heap.objs.size,[s1.heap.objs.size],_,_,H1,rfl,I1.kept (t':=s1.toks) fun b o e=>yam _ e,zib a _,⟨_,yaD _ rfl,rfl,rfl⟩,fun b hb=>?_,q⟩;have e:b=s1.heap.objs.size:=by simpa using hb
  subst e;exact I1.fpOk (yab _) (I1.hok.fresh (yab _))
theorem zg7 {l:Expr}{tl:TE}(hl:PE X l tl):PI X tg l (iTup X.K tl):=by
  intro pins s σ H R I h;refine thn (hl pins s σ H _ I h) fun v s1 zq0=>?_;obtain ⟨x,H1,I1,r1,q1⟩:=zq0;obtain ⟨a,e,⟨xs,hq⟩,q⟩:=q1;subst e;cases r1
  obtain ⟨its,rv,p,hz⟩:=I1.tuple hq;refine wpAny_pyIter_tuple (show s1.heap.IsTuple a its.toArray from p) ?_;refine ⟨s1.heap.objs.size,[s1.heap.objs.size],_,_,H1,rfl,I1.kept (t':=s1.toks) fun b o e=>yam _ e,zgY a _,⟨_,yaD _ rfl,rfl,rfl⟩,fun b hb=>?_,q⟩;have e:b=s1.heap.objs.size:=by simpa using hb
  subst e;exact I1.fpOk (yab _) (I1.hok.fresh (yab _))
theorem zki {pins:List (Addr×Obj)}{σ:St}{H:Hp}{s:Shared}{R:It→Hp→Prop}{E:Value→Shared→Prop}{lo hi:Int}{t u v:Tok}{tk:Nat}(I:Inv X pins σ H s)(h1:-(2 ^ 62)≤lo)(h2:lo < 2 ^ 62)(h3:-(2 ^ 62)≤hi)(h4:hi < 2 ^ 62)
    (q:R (Itr lo (hi - lo).toNat) H):wpAny (model X.prog X.w) X.A (pyIter (.ref s.heap.objs.size)) (PIE X pins σ tg R) E { s with heap:=s.heap.push { cls:=.type "range",data:=.fields #[.int lo t,.int hi u,.int 1 v] },toks:=tk }:=by
  refine wpAny_pyIter_range (IsRange.new ..) (small_one h1 h2 h3 h4) ?_;have I1:Inv X pins σ H { s with heap:=s.heap.push { cls:=.type "range",data:=.fields #[.int lo t,.int hi u,.int 1 v] },toks:=tk }:=I.kept fun b o e=>yam _ e;refine ⟨(s.heap.push { cls:=.type "range",data:=.fields #[.int lo t,.int hi u,.int 1 v] }).objs.size,[(s.heap.push { cls:=.type "range",data:=.fields #[.int lo t,.int hi u,.int 1 v] }).objs.size],_,_,H,rfl,
    I1.kept (t':=tk) fun b o e=>yam _ e,zkY _ lo (hi - lo).toNat,?_,fun b hb=>?_,q⟩
  · have e1:lo+((0:Nat):Int) * 1=lo:=by simp
    have e2:(((hi - lo).toNat:Nat):Int) - ((0:Nat):Int)=Builtin.Range.rangeSize lo hi 1:=by rw[rangeSize_one];split <;> omega
    show IsRangeIter _ _ (lo+((0:Nat):Int) * 1) ((((hi - lo).toNat:Nat):Int) - ((0:Nat):Int)) 1;rw[e1,e2];exact yaD _ rfl
  · have e:b=(s.heap.push { cls:=.type "range",data:=.fields #[.int lo t,.int hi u,.int 1 v] }).objs.size:=by simpa using hb
    subst e;exact I1.fpOk (yab _) (I1.hok.fresh (yab _))
def zsk (ta:TA):TI:=fun σ H R=>ta σ H fun vs H1=>∃ j:Int,vs=[.int j]∧-(2 ^ 62)≤j∧j < 2 ^ 62∧R (Itr 0 j.toNat) H1
def zsj (ta:TA):TI:=fun σ H R=>ta σ H fun vs H1=>∃ i j:Int,vs=[.int i,.int j]∧(-(2 ^ 62)≤i∧i < 2 ^ 62∧-(2 ^ 62)≤j∧j < 2 ^ 62)∧R (Itr i (j - i).toNat) H1
theorem zb4 {a:Expr}{ta:TA}{p pos:Pos}(hg:Gl X "range")(hm:X.mg "range" = none)(ha:PA X [a] ta)(hs:starEach [a] X.env=[(false,eval a X.env)]:=by rfl):PI X tg (.Call (.Name "range" p) [a] [] pos) (zsk ta):=by
  intro pins s σ H R I h;refine Call_ (zft I hg hm boot_range (PyProof.Rows.callWith_type1 (thn (ha pos pins s σ H _ I h) fun us s1 zq0=>?_) hs rfl));obtain ⟨vs,H1,I1,r1,q1⟩:=zq0;obtain ⟨j,e,q1,q2,q⟩:=q1;subst e;cases r1 with
  | cons r rr=>
    cases rr
    obtain ⟨t,rfl⟩:=r;exact call_range_1 (zki I1 (by omega) (by omega) q1 q2 (by simpa using q))
theorem zdw {a b:Expr}{ta:TA}{p pos:Pos}(hg:Gl X "range")(hm:X.mg "range" = none)(ha:PA X [a,b] ta)(hs:starEach [a,b] X.env=[(false,eval a X.env),(false,eval b X.env)]:=by rfl)(hs2:starEach [b] X.env=[(false,eval b X.env)]:=by rfl) :
    PI X tg (.Call (.Name "range" p) [a,b] [] pos) (zsj ta):=by
  intro pins s σ H R I h;refine Call_ (zft I hg hm boot_range (PyProof.Rows.callWith_type1 (thn (ha pos pins s σ H _ I h) fun us s1 zq0=>?_) (by rw[hs,hs2]) (by rw[hs2];rfl)));obtain ⟨vs,H1,I1,r1,q1⟩:=zq0;obtain ⟨i,j,e,⟨q1,q2,q3,q4⟩,q⟩:=q1;subst e;cases r1 with
  | cons r rr=>
    cases rr with
    | cons r' rr=>
      cases rr
      obtain ⟨t,rfl⟩:=r;obtain ⟨t',rfl⟩:=r';exact call_range_2 (zki I1 q1 q2 q3 q4 q)
def tFor (wi:TI)(g:TG)(tb:TS):TS:=fun D σ H=>wi σ H fun J H1=>∃ W:Nat→Nat→St→Hp→Prop,(∃ m,W 0 m σ H1)∧∀ i m σ H,W i m σ H→
  (J.stop i H∧D.nx σ H)∨(J.go i H∧∃ N:St→Hp→Prop,(∀ σ' H',N σ' H'→∃ m',m' < m∧W (i+1) m' σ' H')∧∀ x H',J.yld i H x H'→g x σ H' fun σ2 H2=>tb { D with nx:=N,ct:=N,bk:=D.nx } σ2 H2)
def zg6 (fp:List Addr)(h:Heap):List (Addr×Obj):=fp.filterMap fun b=>(h.get? b).map fun o=>(b,o)
theorem zcx {fp:List Addr}{h:Heap}{b:Addr}{o:Obj}(hb:b∈fp)(e:h.get? b=some o):(b,o)∈zg6 fp h:=List.mem_filterMap.mpr ⟨b,hb,by rw[e];rfl⟩
theorem zmK {fp:List Addr}{h:Heap}{p:Addr×Obj}(hp:p∈zg6 fp h):p.1∈fp∧h.get? p.1=some p.2:=by
  obtain ⟨b,hb,e⟩:=List.mem_filterMap.mp hp;cases q:h.get? b with
  | none=>rw[q]at e;cases e
  | some o=>
    rw[q]at e;have e':(b,o)=p:=yae e;subst e';exact ⟨hb,q⟩
theorem Inv.pinned {pins:List (Addr×Obj)}{σ:St}{H:Hp}{s:Shared}{fp:List Addr}(I:Inv X pins σ H s)(hf:∀ b∈fp,FpOk X pins H b)(ho:∀ b∈fp,∃ o,s.heap.get? b=some o∧∀ v,o.data≠.cell v):Inv X (pins++zg6 fp s.heap) σ H s:=
  I.pins_of fun p hp=>(yaH.mp hp).elim (fun z=>I.pin p (yaO _ z)) fun z=>by
    obtain ⟨hb,e⟩:=zmK z;obtain ⟨f0,f1,f2,_⟩:=hf p.1 hb;obtain ⟨o,e',d⟩:=ho p.1 hb;rw[e]at e';cases e'
    exact ⟨e,f0,f1,f2,d⟩
theorem Inv.unpinned {pins pl:List (Addr×Obj)}{σ:St}{H:Hp}{s:Shared}(I:Inv X (pins++pl) σ H s):Inv X pins σ H s:=I.pins_of fun p hp=>I.pin p (yaO _ (List.mem_append_left _ hp))
theorem zbb {iter:Expr}{body:List Stmt}{wi:TI}{g:TG}{tb:TS}{pos:Pos}(hp:PassesOwn (model X.prog X.w) X.A X.env X.xe)(hc:X.calm=true)(hi:PI X tg iter wi)(hg:PG X tg g)(hb:PSs X body tb)
    (hs:∀ x,foldedSetIterable iter X.env x=pure x:=by intro _;rfl):PS X (.For tg iter body [] pos) (tFor wi g tb):=by
  intro pins s σ H D I h;refine wpAny_For (thn (hi pins s σ H _ I h) fun v s1 h1=>thn h1 fun itv s2 h2=>?_) hs;obtain ⟨it,fp,tn,J,H2,e,I2,T,st2,f2,W,⟨m0,w0⟩,turn⟩:=h2;subst e;have stat:∀{H':Hp},(∀ b∈fp,H' b=none)→∀ b∈fp,FpOk X pins H' b:=fun hn b hb=>⟨hn b hb,(f2 b hb).2⟩;refine codeAny_forLoop_any (fun n s'=>∃ i σ' H',Inv X pins σ' H' s'∧tn i s'.heap∧(∀ b∈fp,H' b=none)∧W i n σ' H') ?_ m0 ⟨0,σ,H2,I2,st2,fun b hb=>(f2 b hb).1,w0⟩;rintro n s3 ⟨i,σ3,H3,I3,st3,fr3,w3⟩;rcases turn i n σ3 H3 w3 with ⟨stop,qn⟩ | ⟨go,N,hN,step⟩
  · refine wpAny_passesOwn hp (thn (T.done X rfl rfl rfl hc i pins s3 σ3 H3 X.xe I3 (stat fr3) st3 stop) fun r s4 zq0=>?_)
    obtain ⟨hr,I4⟩:=zq0;subst hr;exact wpAny_execs_nil ⟨σ3,H3,I4,qn⟩
  · refine wpAny_passesOwn hp (thn (T.item X rfl rfl rfl hc i pins s3 σ3 H3 X.xe I3 (stat fr3) st3 go) fun r s4 zq0=>?_)
    obtain ⟨u,hr,h4⟩:=zq0;subst hr;refine wpAny_passesOwn hp (thn h4 fun _ s5 zq0=>?_);obtain ⟨x,H5,I5,r5,y5,st5,fr5⟩:=zq0;have I5':=I5.pinned (stat fr5) (T.obj _ _ st5);refine wpAny_passesOwn hp (thn (hg _ s5 σ3 H5 x u _ I5' r5 (step x H5 y5)) fun _ s6 zq0=>?_);obtain ⟨σ6,H6,I6,q6⟩:=zq0;refine wpAny_passesOwn hp (thn (hb _ s6 σ6 H6 _ I6 q6) fun f s7 q7=>?_);have again:∀{σ7:St} {H7:Hp},Inv X (pins++zg6 fp s5.heap) σ7 H7 s7→N σ7 H7→∃ m,m < n∧∃ i σ' H',Inv X pins σ' H' s7∧tn i s7.heap∧(∀ b∈fp,H' b=none)∧W i m σ' H':=fun {σ7 H7} I7 n7=>by
      obtain ⟨m',hm,w7⟩:=hN σ7 H7 n7;refine ⟨m',hm,i+1,σ7,H7,I7.unpinned,T.keep _ _ _ st5 fun b hb o e=>(I7.pin (b,o) (yaO _ (yaO _ (zcx hb e)))).1,fun b hb=>?_,w7⟩;obtain ⟨o,e,d⟩:=T.obj _ _ st5 b hb;exact (I7.pin (b,o) (yaO _ (yaO _ (zcx hb e)))).2.1
    cases f with
    | next=>obtain ⟨σ7,H7,I7,n7⟩:=q7;exact again I7 n7
    | cont=>obtain ⟨σ7,H7,I7,n7⟩:=q7;exact again I7 n7
    | brk=>obtain ⟨σ7,H7,I7,q7⟩:=q7;exact ⟨σ7,H7,I7.unpinned,q7⟩
    | ret v=>obtain ⟨x7,σ7,H7,I7,r7,q7⟩:=q7;exact ⟨x7,σ7,H7,I7.unpinned,r7,q7⟩
end
theorem zdk {K:Frag}{a:Addr}{xs:List V}{g:TG}{tb:TS}{D:Ends}{σ:St}{H:Hp}(Pv:Nat→St→Hp→Prop)(h0:Pv 0 σ H)(hl:∀ i σ H,i≤xs.length→Pv i σ H→SqL K H a xs)
    (hs:∀ i x σ H,xs[i]?=some x→Pv i σ H→g x σ H fun σ2 H2=>tb { D with nx:=Pv (i+1),ct:=Pv (i+1),bk:=D.nx } σ2 H2) (hd:∀ σ H,Pv xs.length σ H→D.nx σ H) :
    ∃ W:Nat→Nat→St→Hp→Prop,(∃ m,W 0 m σ H)∧∀ i m σ H,W i m σ H→
      ((Itl K a).stop i H∧D.nx σ H)∨((Itl K a).go i H∧∃ N:St→Hp→Prop,(∀ σ' H',N σ' H'→∃ m',m' < m∧W (i+1) m' σ' H')∧∀ x H',(Itl K a).yld i H x H'→g x σ H' fun σ2 H2=>tb { D with nx:=N,ct:=N,bk:=D.nx } σ2 H2):=by
  refine ⟨fun i m σ H=>m=xs.length - i∧i≤xs.length∧Pv i σ H,⟨xs.length,by simp,yaC _,h0⟩,?_⟩;rintro i m σ H ⟨rfl,hi,p⟩;have q:=hl i σ H hi p;by_cases hlt:i < xs.length
  · refine .inr ⟨⟨xs,xs[i],q,by simp[hlt]⟩,Pv (i+1),fun σ' H' p'=>⟨xs.length - (i+1),by omega,rfl,hlt,p'⟩,fun x H' y=>?_⟩
    obtain ⟨e,y⟩:=y;subst e;exact hs i x σ _ (y xs q) p
  · have e:i=xs.length:=by omega
    subst e;exact .inl ⟨⟨xs,q,yab _⟩,hd σ H p⟩
theorem zjD {K:Frag}{a:Addr}{xs:List V}{g:TG}{tb:TS}{D:Ends}{σ:St}{H:Hp}(Pv:Nat→St→Hp→Prop)(h0:Pv 0 σ H)(hl:∀ i σ H,i≤xs.length→Pv i σ H→SqT K H a xs)
    (hs:∀ i x σ H,xs[i]?=some x→Pv i σ H→g x σ H fun σ2 H2=>tb { D with nx:=Pv (i+1),ct:=Pv (i+1),bk:=D.nx } σ2 H2) (hd:∀ σ H,Pv xs.length σ H→D.nx σ H) :
    ∃ W:Nat→Nat→St→Hp→Prop,(∃ m,W 0 m σ H)∧∀ i m σ H,W i m σ H→
      ((Itt K a).stop i H∧D.nx σ H)∨((Itt K a).go i H∧∃ N:St→Hp→Prop,(∀ σ' H',N σ' H'→∃ m',m' < m∧W (i+1) m' σ' H')∧∀ x H',(Itt K a).yld i H x H'→g x σ H' fun σ2 H2=>tb { D with nx:=N,ct:=N,bk:=D.nx } σ2 H2):=by
  refine ⟨fun i m σ H=>m=xs.length - i∧i≤xs.length∧Pv i σ H,⟨xs.length,by simp,yaC _,h0⟩,?_⟩;rintro i m σ H ⟨rfl,hi,p⟩;have q:=hl i σ H hi p;by_cases hlt:i < xs.length
  · refine .inr ⟨⟨xs,xs[i],q,by simp[hlt]⟩,Pv (i+1),fun σ' H' p'=>⟨xs.length - (i+1),by omega,rfl,hlt,p'⟩,fun x H' y=>?_⟩
    obtain ⟨e,y⟩:=y;subst e;exact hs i x σ _ (y xs q) p
  · have e:i=xs.length:=by omega
    subst e;exact .inl ⟨⟨xs,q,yab _⟩,hd σ H p⟩
theorem zby {lo:Int}{n:Nat}{g:TG}{tb:TS}{D:Ends}{σ:St}{H:Hp}(Pv:Nat→St→Hp→Prop)(h0:Pv 0 σ H)
    (hs:∀ i σ H,i < n→Pv i σ H→g (.int (lo+i)) σ H fun σ2 H2=>tb { D with nx:=Pv (i+1),ct:=Pv (i+1),bk:=D.nx } σ2 H2) (hd:∀ σ H,Pv n σ H→D.nx σ H) :
    ∃ W:Nat→Nat→St→Hp→Prop,(∃ m,W 0 m σ H)∧∀ i m σ H,W i m σ H→
      ((Itr lo n).stop i H∧D.nx σ H)∨((Itr lo n).go i H∧∃ N:St→Hp→Prop,(∀ σ' H',N σ' H'→∃ m',m' < m∧W (i+1) m' σ' H')∧∀ x H',(Itr lo n).yld i H x H'→g x σ H' fun σ2 H2=>tb { D with nx:=N,ct:=N,bk:=D.nx } σ2 H2):=by
  refine ⟨fun i m σ H=>m=n - i∧i≤n∧Pv i σ H,⟨n,by simp,yaC _,h0⟩,?_⟩;rintro i m σ H ⟨rfl,hi,p⟩;by_cases hlt:i < n
  · refine .inr ⟨hlt,Pv (i+1),fun σ' H' p'=>⟨n - (i+1),by omega,rfl,hlt,p'⟩,fun x H' y=>?_⟩
    obtain ⟨e,y⟩:=y;subst e y;exact hs i σ _ hlt p
  · have e:i=n:=by omega
    subst e;exact .inl ⟨yab _,hd σ H p⟩
theorem znT {c:TT}{tb:TS}{D:Ends}{σ:St}{H:Hp}(Pv:St→Hp→Prop)(μ:St→Hp→Nat)(h0:Pv σ H)
    (hs:∀ σ H,Pv σ H→c σ H fun b H1=>if b=true then tb { D with nx:=fun σ' H'=>Pv σ' H'∧μ σ' H' < μ σ H,ct:=fun σ' H'=>Pv σ' H'∧μ σ' H' < μ σ H,bk:=D.nx } σ H1 else D.nx σ H1)
    (mono:∀ σ H Q Q',(∀ b H1,Q b H1→Q' b H1)→c σ H Q→c σ H Q'):zlX c tb D σ H:=by
  refine ⟨fun m σ H=>m=μ σ H∧Pv σ H,⟨_,rfl,h0⟩,?_⟩;rintro m σ H ⟨rfl,p⟩;refine mono σ H _ _ (fun b H1 q=>?_) (hs σ H p);cases b with
  | true=>exact ⟨_,fun σ' H' ⟨p',l⟩=>⟨_,l,rfl,p'⟩,q⟩
  | false=>exact q
end L2
namespace L2
open PySem PySem.Spec PyProof.Rows
abbrev R2:=V→V→Hp→VK→Prop
def OpR (X:Cx)(f:Value→Value→Sem Value)(r:R2):Prop:=
  ∀(pins:List (Addr×Obj)) (s:Shared) (σ:St) (H:Hp) (x y:V) (v u:Value) (Q:VK),Inv X pins σ H s→RelV x v→RelV y u→r x y H Q→
    wpAny (model X.prog X.w) X.A (f v u) (EP X pins σ Q) X.xe s
def UnR (X:Cx)(f:Value→Sem Value)(r:V→Hp→VK→Prop):Prop:=
  ∀(pins:List (Addr×Obj)) (s:Shared) (σ:St) (H:Hp) (x:V) (v:Value) (Q:VK),Inv X pins σ H s→RelV x v→r x H Q→
    wpAny (model X.prog X.w) X.A (f v) (EP X pins σ Q) X.xe s
def ze8 (X:Cx)(f:Value)(r:List V→Hp→VK→Prop):Prop:=
  ∀(pins:List (Addr×Obj)) (s:Shared) (σ:St) (H:Hp) (xs:List V) (us:List Value) (Q:VK),Inv X pins σ H s→Vals xs us→r xs H Q→
    wpAny (model X.prog X.w) X.A (call f us) (EP X pins σ Q) X.xe s
def tOp (r:R2)(ta tb:TE):TE:=fun σ H Q=>ta σ H fun x H1=>tb σ H1 fun y H2=>r x y H2 Q
def tUn (r:V→Hp→VK→Prop)(ta:TE):TE:=fun σ H Q=>ta σ H fun x H1=>r x H1 Q
def rI (C:Int→Int→Prop)(g:Int→Int→V):R2:=fun x y H Q=>∃ i j,x=.int i∧y=.int j∧C i j∧Q (g i j) H
def rI0 (g:Int→Int→V):R2:=fun x y H Q=>∃ i j,x=.int i∧y=.int j∧Q (g i j) H
def rU (g:Int→V):V→Hp→VK→Prop:=fun x H Q=>∃ i,x=.int i∧Q (g i) H
section
variable {X:Cx}{a b c:Expr}{ta tb tc:TE}{pos:Pos}
theorem binT (ha:PE X a ta)(hb:PE X b tb){pins:List (Addr×Obj)}{s:Shared}{σ:St}{H:Hp}{R:V→V→Hp→Prop}(I:Inv X pins σ H s)
    (h:ta σ H fun x H1=>tb σ H1 fun y H2=>R x y H2) {Q:Value→Shared→Prop} {f:Value→Value→Sem Value}
    (hf:∀ v u s2 x y H2,Inv X pins σ H2 s2→RelV x v→RelV y u→R x y H2→wpAny (model X.prog X.w) X.A (f v u) Q X.xe s2) :
    wpAny (model X.prog X.w) X.A (eval a X.env) (fun v s₁=>wpAny (model X.prog X.w) X.A (eval b X.env) (fun u s₂=>wpAny (model X.prog X.w) X.A (f v u) Q X.xe s₂) X.xe s₁) X.xe s:=by
  refine thn (ha pins s σ H _ I h) fun v s1 zq0=>?_;obtain ⟨x,H1,I1,r1,q1⟩:=zq0;refine thn (hb pins s1 σ H1 _ I1 q1) fun u s2 zq0=>?_;obtain ⟨y,H2,I2,r2,q2⟩:=zq0;exact hf v u s2 x y H2 I2 r1 r2 q2
theorem zaz {op:Operator}{r:R2}(ho:OpR X (binaryOp op) r)(ha:PE X a ta)(hb:PE X b tb):PE X (.BinOp a op b pos) (tOp r ta tb):=by
  intro pins s σ H Q I h;exact wpAny_BinOp (binT ha hb I h fun v u s2 x y H2 I2 rx ry q=>ho pins s2 σ H2 x y v u Q I2 rx ry q)
theorem zgh {op:UnaryOp}{r:V→Hp→VK→Prop}(ho:UnR X (unaryOp op) r)(ha:PE X a ta):PE X (.UnaryOp op a pos) (tUn r ta):=by
  intro pins s σ H Q I h;exact UnaryOp_ (thn (ha pins s σ H _ I h) fun v s1 zq0=>(by obtain ⟨x,H1,I1,r1,q1⟩:=zq0;exact ho pins s1 σ H1 x v Q I1 r1 q1))
theorem opI {f:Value→Value→Sem Value}{C:Int→Int→Prop}{g:Int→Int→Int}
    (rule:∀(i j:Int) (t u:Tok) (s:Shared) (Q:Value→Shared→Prop) (E:Value→Shared→Prop),C i j→Q (.int (g i j) s.toks) { s with toks:=s.toks+1 }→wpAny (model X.prog X.w) X.A (f (.int i t) (.int j u)) Q E s) :
    OpR X f (rI C fun i j=>.int (g i j)):=by
  intro pins s σ H x y v u Q I rx ry h;obtain ⟨i,j,rfl,rfl,hc,q⟩:=h;obtain ⟨t,rfl⟩:=rx;obtain ⟨t',rfl⟩:=ry;exact rule i j t t' s _ _ hc ⟨.int (g i j),H,I.tok _,⟨_,rfl⟩,q⟩
theorem opI0 {f:Value→Value→Sem Value}{g:Int→Int→Int}
    (rule:∀(i j:Int) (t u:Tok) (s:Shared) (Q:Value→Shared→Prop) (E:Value→Shared→Prop),Q (.int (g i j) s.toks) { s with toks:=s.toks+1 }→wpAny (model X.prog X.w) X.A (f (.int i t) (.int j u)) Q E s) :
    OpR X f (rI0 fun i j=>.int (g i j)):=by
  intro pins s σ H x y v u Q I rx ry h;obtain ⟨i,j,rfl,rfl,q⟩:=h;obtain ⟨t,rfl⟩:=rx;obtain ⟨t',rfl⟩:=ry;exact rule i j t t' s _ _ ⟨.int (g i j),H,I.tok _,⟨_,rfl⟩,q⟩
theorem opB0 {f:Value→Value→Sem Value}{g:Int→Int→Bool}
    (rule:∀(i j:Int) (t u:Tok) (s:Shared) (Q:Value→Shared→Prop) (E:Value→Shared→Prop),Q (.bool (g i j)) s→wpAny (model X.prog X.w) X.A (f (.int i t) (.int j u)) Q E s) :
    OpR X f (rI0 fun i j=>.bl (g i j)):=by
  intro pins s σ H x y v u Q I rx ry h;obtain ⟨i,j,rfl,rfl,q⟩:=h;obtain ⟨t,rfl⟩:=rx;obtain ⟨t',rfl⟩:=ry;exact rule i j t t' s _ _ ⟨.bl (g i j),H,I,rfl,q⟩
def CDiv (i j:Int):Prop:=0 < j∧j < 1073741824
def CPow (i j:Int):Prop:=0≤j∧j≤1000000∧i.natAbs < 2 ^ 64
def CMul (i j:Int):Prop:=(-(2 ^ 64) < i∧i < 2 ^ 64)∨(-(2 ^ 64) < j∧j < 2 ^ 64)
theorem CMul.ok {i j:Int}(h:CMul i j):IntMulOk i j:=by
  rcases h with ⟨h1,h2⟩ | ⟨h1,h2⟩
  · exact .of_left (intBits_le_64 h1 h2)
  · exact .of_right (intBits_le_64 h1 h2)
theorem zkX (k:Nat):(0:Int)≤2 ^ k:=by
  rw[two_pow_cast];exact ybi _
theorem za4:OpR X (binaryOp .Add) (rI0 fun i j=>.int (i+j)):=opI0 fun _ _ _ _ _ _ _ q=>add_int q
theorem zck:OpR X (binaryOp .Sub) (rI0 fun i j=>.int (i - j)):=opI0 fun _ _ _ _ _ _ _ q=>sub_int q
theorem zc1:OpR X (binaryOp .Mult) (rI CMul fun i j=>.int (i * j)):=opI fun _ _ _ _ _ _ _ hc q=>mul_int q hc.ok
theorem zjk:OpR X (binaryOp .FloorDiv) (rI CDiv fun i j=>.int (i / j)):=opI fun i j _ _ _ _ _ hc q=>by
  have h1:(0:Int) < j:=hc.1;have h2:j < 1073741824:=hc.2;exact floordiv_int (by omega) (by rw[Int.fdiv_eq_ediv_of_nonneg i (by omega)];exact q) (.inl (PyProof.noPylong_small (by omega)))
theorem zfp:OpR X (binaryOp .Mod) (rI (fun _ j=>0 < j) fun i j=>.int (i % j)):=opI fun i j _ _ _ _ _ hc q=>by
  have h1:(0:Int) < j:=hc;exact mod_int' (by omega) (by rw[Int.fmod_eq_emod_of_nonneg i (by omega)];exact q)
theorem zgk:OpR X (binaryOp .Pow) (rI CPow fun i j=>.int (i ^ j.toNat)):=opI fun _ _ _ _ _ _ _ hc q=>pow_int_small hc.1 hc.2.1 hc.2.2 q
theorem zrs:OpR X (binaryOp .RShift) (rI (fun _ j=>0≤j) fun i j=>.int (i / 2 ^ j.toNat)):=opI fun i j _ _ _ _ _ hc q=>
  rshift_int hc (by rw[Int.fdiv_eq_ediv_of_nonneg i (zkX _)];exact q)
theorem zpu:OpR X (binaryOp .BitAnd) (rI0 fun i j=>.int (Builtin.bitAnd i j)):=opI0 fun _ _ _ _ _ _ _ q=>and_int q
theorem zrr:OpR X (binaryOp .BitXor) (rI0 fun i j=>.int (Builtin.bitXor i j)):=opI0 fun _ _ _ _ _ _ _ q=>xor_int q
theorem unI {f:Value→Sem Value}{g:Int→Int}
    (rule:∀(i:Int) (t:Tok) (s:Shared) (Q:Value→Shared→Prop) (E:Value→Shared→Prop),Q (.int (g i) s.toks) { s with toks:=s.toks+1 }→wpAny (model X.prog X.w) X.A (f (.int i t)) Q E s) :
    UnR X f (rU fun i=>.int (g i)):=by
  intro pins s σ H x v Q I rx h;obtain ⟨i,rfl,q⟩:=h;obtain ⟨t,rfl⟩:=rx;exact rule i t s _ _ ⟨.int (g i),H,I.tok _,⟨_,rfl⟩,q⟩
theorem zdt:UnR X (unaryOp .USub) (rU fun i=>.int (-i)):=unI fun _ _ _ _ _ q=>neg_int q
end
def scal:V→V→Bool
  | .non,.non=>true | .non,.int _=>true | .int _,.non=>true | .non,.bl _=>true | .bl _,.non=>true | .non,.str _=>true | .str _,.non=>true
  | .int _,.int _=>true | .bl _,.bl _=>true | .str _,.str _=>true | .byt _,.byt _=>true
  | .int _,.str _=>true | .str _,.int _=>true | .bl _,.str _=>true | .str _,.bl _=>true
  | _,_=>false
def rEq:R2:=fun x y H Q=>scal x y=true∧Q (.bl (decide (x=y))) H
def rNe:R2:=fun x y H Q=>scal x y=true∧Q (.bl (!decide (x=y))) H
theorem znv {i j:Int}:decide (V.int i=V.int j)=(i == j):=by
  rw[ybP];simp
theorem zpF {i j:Bool}:decide (V.bl i=V.bl j)=(i == j):=by
  rw[ybP];simp
theorem znu {i j:Str}:decide (V.str i=V.str j)=(i == j):=by
  rw[ybP];simp
theorem znw {i j:Array UInt8}:decide (V.byt i=V.byt j)=(i.toList == j.toList):=by
  rw[ybP];cases i
  cases j
  simp
section
variable {X:Cx}{a b c:Expr}{ta tb tc:TE}{pos:Pos}
theorem zaV {pins:List (Addr×Obj)}{σ:St}{H:Hp}{s:Shared}{Q:VK}{k k':Bool}(I:Inv X pins σ H s)(q:Q (.bl k) H)(e:k=k'):EP X pins σ Q (.bool k') s:=by
  subst e;exact ⟨.bl k,H,I,rfl,q⟩
theorem zeo:OpR X (compareOp .Eq) rEq:=by
  intro pins s σ H x y v u Q I rx ry h;obtain ⟨hs,q⟩:=h;cases x with
  | non=>
    cases rx
    cases y with
    | non=>cases ry;exact PySem.EqNone.eq_none_none (zaV I q (by simp))
    | bl j=>cases ry;exact PySem.EqNone.eq_none_bool (zaV I q (by simp))
    | int j=>obtain ⟨t',rfl⟩:=ry;exact PySem.EqNone.eq_none_int (zaV I q (by simp))
    | str j=>obtain ⟨t',rfl⟩:=ry;exact PySem.EqNone.eq_none_str (zaV I q (by simp))
    | _=>exact absurd (show false=true from hs) yay
  | bl i=>
    cases rx
    cases y with
    | non=>cases ry;exact PySem.EqNone.eq_bool_none (zaV I q (by simp))
    | bl j=>cases ry;exact eq_bool (zaV I q zpF)
    | str j=>obtain ⟨t',rfl⟩:=ry;exact PySem.EqMixed.eq_bool_str (zaV I q (by simp))
    | _=>exact absurd (show false=true from hs) yay
  | int i=>
    obtain ⟨t,rfl⟩:=rx;cases y with
    | non=>cases ry;exact PySem.EqNone.eq_int_none (zaV I q (by simp))
    | int j=>obtain ⟨t',rfl⟩:=ry;exact eq_int (zaV I q znv)
    | str j=>obtain ⟨t',rfl⟩:=ry;exact PySem.EqMixed.eq_int_str (zaV I q (by simp))
    | _=>exact absurd (show false=true from hs) yay
  | str i=>
    obtain ⟨t,rfl⟩:=rx;cases y with
    | non=>cases ry;exact PySem.EqNone.eq_str_none (zaV I q (by simp))
    | bl j=>cases ry;exact PySem.EqMixed.eq_str_bool (zaV I q (by simp))
    | int j=>obtain ⟨t',rfl⟩:=ry;exact PySem.EqMixed.eq_str_int (zaV I q (by simp))
    | str j=>obtain ⟨t',rfl⟩:=ry;exact eq_str (zaV I q znu)
    | _=>exact absurd (show false=true from hs) yay
  | byt i=>
    obtain ⟨t,rfl⟩:=rx;cases y with
    | byt j=>obtain ⟨t',rfl⟩:=ry;exact PySem.W.eq_bytes (zaV I q znw)
    | _=>exact absurd (show false=true from hs) yay
  | _=>cases y <;> exact absurd (show false=true from hs) yay
theorem zop:OpR X (compareOp .NotEq) rNe:=by
  intro pins s σ H x y v u Q I rx ry h;obtain ⟨hs,q⟩:=h;cases x with
  | non=>
    cases rx
    cases y with
    | non=>cases ry;exact PySem.EqNone.ne_none_none (zaV I q (by simp))
    | bl j=>cases ry;exact PySem.EqNone.ne_none_bool (zaV I q (by simp))
    | int j=>obtain ⟨t',rfl⟩:=ry;exact PySem.EqNone.ne_none_int (zaV I q (by simp))
    | str j=>obtain ⟨t',rfl⟩:=ry;exact PySem.EqNone.ne_none_str (zaV I q (by simp))
    | _=>exact absurd (show false=true from hs) yay
  | bl i=>
    cases rx
    cases y with
    | non=>cases ry;exact PySem.EqNone.ne_bool_none (zaV I q (by simp))
    | bl j=>cases ry;exact ne_bool (zaV I q (congrArg not zpF))
    | str j=>obtain ⟨t',rfl⟩:=ry;exact PySem.EqMixed.ne_bool_str (zaV I q (by simp))
    | _=>exact absurd (show false=true from hs) yay
  | int i=>
    obtain ⟨t,rfl⟩:=rx;cases y with
    | non=>cases ry;exact PySem.EqNone.ne_int_none (zaV I q (by simp))
    | int j=>obtain ⟨t',rfl⟩:=ry;exact ne_int (zaV I q (congrArg not znv))
    | str j=>obtain ⟨t',rfl⟩:=ry;exact PySem.EqMixed.ne_int_str (zaV I q (by simp))
    | _=>exact absurd (show false=true from hs) yay
  | str i=>
    obtain ⟨t,rfl⟩:=rx;cases y with
    | non=>cases ry;exact PySem.EqNone.ne_str_none (zaV I q (by simp))
    | bl j=>cases ry;exact PySem.EqMixed.ne_str_bool (zaV I q (by simp))
    | int j=>obtain ⟨t',rfl⟩:=ry;exact PySem.EqMixed.ne_str_int (zaV I q (by simp))
    | str j=>obtain ⟨t',rfl⟩:=ry;exact ne_str (zaV I q (congrArg not znu))
    | _=>exact absurd (show false=true from hs) yay
  | byt i=>
    obtain ⟨t,rfl⟩:=rx;cases y with
    | byt j=>obtain ⟨t',rfl⟩:=ry;exact PySem.W.ne_bytes (zaV I q (congrArg not znw))
    | _=>exact absurd (show false=true from hs) yay
  | _=>cases y <;> exact absurd (show false=true from hs) yay
theorem zgm:OpR X (compareOp .Lt) (rI0 fun i j=>.bl (decide (i < j))):=opB0 fun _ _ _ _ _ _ _ q=>lt_int q
theorem zmv:OpR X (compareOp .LtE) (rI0 fun i j=>.bl (decide (i≤j))):=opB0 fun _ _ _ _ _ _ _ q=>le_int q
theorem zjj:OpR X (compareOp .Gt) (rI0 fun i j=>.bl (decide (j < i))):=opB0 fun _ _ _ _ _ _ _ q=>gt_int q
theorem zoq:OpR X (compareOp .GtE) (rI0 fun i j=>.bl (decide (j≤i))):=opB0 fun _ _ _ _ _ _ _ q=>ge_int q
theorem zaA (b:Expr){op:CmpOp}(h:op≠.In:=by decide)(h2:op≠.NotIn:=by decide):behindInMarks op b=false:=by
  have e1:(op == CmpOp.In)=false:=by cases op <;> first | rfl | exact absurd rfl h
  have e2:(op == CmpOp.NotIn)=false:=by cases op <;> first | rfl | exact absurd rfl h2
  cases b <;> simp[behindInMarks,e1,e2]
theorem zdf {op:CmpOp}{r:R2}(ho:OpR X (compareOp op) r)(ha:PE X a ta)(hb:PE X b tb)(hm:behindInMarks op b=false):PE X (.Compare a [op] [b] pos) (tOp r ta tb):=by
  intro pins s σ H Q I h;exact wpAny_Compare1 (binT ha hb I h fun v u s2 x y H2 I2 rx ry q=>ho pins s2 σ H2 x y v u Q I2 rx ry q) hm
def zn0 (t:TE):TT:=fun σ H Q=>t σ H fun x H'=>∃ k,x=.bl k∧Q k H'
theorem zay {op:CmpOp}{r:R2}(ho:OpR X (compareOp op) r)(ha:PE X a ta)(hb:PE X b tb)(hm:behindInMarks op b=false):PT X (.Compare a [op] [b] pos) (zn0 (tOp r ta tb)):=by
  intro pins s σ H Q I h;refine wpAny_isTrue_Compare1 (thn (ha pins s σ H _ I h) fun v s1 ⟨x,H1,I1,r1,q1⟩=>thn (hb pins s1 σ H1 _ I1 q1) fun u s2 ⟨y,H2,I2,r2,q2⟩=>
    thn (ho pins s2 σ H2 x y v u _ I2 r1 r2 q2) fun c s3 ⟨z,H3,I3,r3,k,e,q3⟩=>?_) hm
  subst e;cases r3
  exact wpAny_truthy_bool ⟨H3,I3,q3⟩
def zpf (r r':R2)(ta tb tc:TE):TE:=fun σ H Q=>ta σ H fun x H1=>tb σ H1 fun y H2=>r x y H2 fun z H3=>∃ k,z=.bl k∧
  (if k=true then tc σ H3 fun w' H4=>r' y w' H4 Q else Q (.bl false) H3)
theorem zkp {op op':CmpOp}{r r':R2}(ho:OpR X (compareOp op) r)(ho':OpR X (compareOp op') r')(ha:PE X a ta)(hb:PE X b tb)(hc:PE X c tc)
    (hm:lastMarks [op,op'] [b,c]=false:=by with_unfolding_all rfl):PE X (.Compare a [op,op'] [b,c] pos) (zpf r r' ta tb tc):=by
  intro pins s σ H Q I h;refine Compare_chain (thn (ha pins s σ H _ I h) fun v s1 ⟨x,H1,I1,r1,q1⟩=>chain_link (thn (hb pins s1 σ H1 _ I1 q1) fun u s2 ⟨y,H2,I2,r2,q2⟩=>
    thn (ho pins s2 σ H2 x y v u _ I2 r1 r2 q2) fun d s3 ⟨z,H3,I3,r3,k,e,q3⟩=>?_)) hm
  subst e;cases r3
  refine wpAny_truthy_bool ?_;cases k with
  | false=>exact ite_ff ⟨.bl false,H3,I3,rfl,q3⟩
  | true=>exact ite_tt (chain_last (thn (hc pins s3 σ H3 _ I3 q3) fun w' s4 ⟨z',H4,I4,r4,q4⟩=>ho' pins s4 σ H4 y z' u w' Q I4 r2 r4 q4))
theorem zod {op op':CmpOp}{r r':R2}(ho:OpR X (compareOp op) r)(ho':OpR X (compareOp op') r')(ha:PE X a ta)(hb:PE X b tb)(hc:PE X c tc)
    (hm:lastMarks [op,op'] [b,c]=false:=by with_unfolding_all rfl):PT X (.Compare a [op,op'] [b,c] pos) (zn0 (zpf r r' ta tb tc)):=by
  intro pins s σ H Q I h;refine isTrue_chain (thn (ha pins s σ H _ I h) fun v s1 ⟨x,H1,I1,r1,q1⟩=>test_link (thn (hb pins s1 σ H1 _ I1 q1) fun u s2 ⟨y,H2,I2,r2,q2⟩=>
    thn (ho pins s2 σ H2 x y v u _ I2 r1 r2 q2) fun d s3 ⟨z,H3,I3,r3,k,e,q3⟩=>?_)) hm
  subst e;cases r3
  refine wpAny_truthy_bool ?_;cases k with
  | false=>
    obtain ⟨k',e',q'⟩:=q3;cases e'
    exact ite_ff ⟨H3,I3,q'⟩
  | true=>
    refine ite_tt (test_last (thn (hc pins s3 σ H3 _ I3 q3) fun w' s4 zq0=>?_));obtain ⟨z',H4,I4,r4,q4⟩:=zq0;refine thn (ho' pins s4 σ H4 y z' u w' _ I4 r2 r4 q4) fun d' s5 zq1=>?_;obtain ⟨z2,H5,I5,r5,k2,e2,q5⟩:=zq1;subst e2;cases r5
    exact wpAny_truthy_bool ⟨H5,I5,q5⟩
theorem zkz:(sizeLine:Nat) < 2 ^ 63:=by rw[sizeLine_eq];decide
theorem zhr {x:V}{us:List Value}(r:Vals [x] us):∃ u,us=[u]∧RelV x u:=by
  cases r with
  | cons r1 r2=>cases r2;exact ⟨_,rfl,r1⟩
theorem zh9 {x y:V}{us:List Value}(r:Vals [x,y] us):∃ u w',us=[u,w']∧RelV x u∧RelV y w':=by
  cases r with
  | cons r1 r2=>
    cases r2 with
    | cons r3 r4=>cases r4;exact ⟨_,_,rfl,r1,r3⟩
theorem zkV:ze8 X (.builtin "abs") (fun xs H Q=>∃ i,xs=[.int i]∧Q (.int (if i < 0 then -i else i)) H):=by
  intro pins s σ H xs us Q I r h;obtain ⟨i,rfl,q⟩:=h;obtain ⟨u,rfl,t,rfl⟩:=zhr r;exact call_abs_int fun u tk=>⟨.int (if i < 0 then -i else i),H,I.tok _,⟨_,rfl⟩,q⟩
theorem ze5 (hc:X.calm=true):ze8 X (.builtin "max") (fun xs H Q=>∃ i j,xs=[.int i,.int j]∧Q (.int (if j > i then j else i)) H):=by
  intro pins s σ H xs us Q I r h;obtain ⟨i,j,rfl,q⟩:=h;obtain ⟨u,w',rfl,⟨t,rfl⟩,⟨t',rfl⟩⟩:=zh9 r;refine max_two_ints (I.ok.hd hc) fun h' tk k=>⟨_,H,I.kept k,?_,q⟩;by_cases hj:j > i
  · rw[if_pos hj,if_pos hj];exact ⟨_,rfl⟩
  · rw[if_neg hj,if_neg hj];exact ⟨_,rfl⟩
theorem zgH (hc:X.calm=true):ze8 X (.builtin "min") (fun xs H Q=>∃ i j,xs=[.int i,.int j]∧Q (.int (if j < i then j else i)) H):=by
  intro pins s σ H xs us Q I r h;obtain ⟨i,j,rfl,q⟩:=h;obtain ⟨u,w',rfl,⟨t,rfl⟩,⟨t',rfl⟩⟩:=zh9 r;refine min_two_ints (I.ok.hd hc) fun h' tk k=>⟨_,H,I.kept k,?_,q⟩;by_cases hj:j < i
  · rw[if_pos hj,if_pos hj];exact ⟨_,rfl⟩
  · rw[if_neg hj,if_neg hj];exact ⟨_,rfl⟩
end
end L2
namespace L2
open PySem PySem.Spec PyProof.Rows
structure ObjM (h:Heap)(x dx C:Addr)(mA:Str→Option Value):Prop where
  obj:h.get? x=some (PySem.W.instObj C dx)
  ns:h.Ns1 dx mA
  ne:dx≠x
theorem zmV {h:Heap}{dx:Addr}{mA:Str→Option Value}(n:h.Ns1 dx mA):∃ od,h.get? dx=some od∧∀ name,PySem.W.lookIn name od=some (mA name):=by
  obtain ⟨o,es,ep,ho,hd,hk,_,hm⟩:=n;refine ⟨o,ho,fun name=>?_⟩;have e:=hm name;unfold nsFind findBy at e;rw[← Array.find?_toList]at e;unfold PySem.W.lookIn;rw[hd];dsimp only;split
  · rename_i y q
    rw[q]at e;exact congrArg some e
  · rename_i q
    rw[q]at e;have a:es.toList.any (·.refKey)=false:=by
      rw[List.any_eq_false];intro y hy;obtain ⟨z,t,hkey⟩:=hk y (Array.mem_toList_iff.mp hy);simp[DictEntry.refKey,hkey]
    have a':¬ es.toList.any (·.refKey)=true:=by rw[a];exact yay
    rw[if_neg a'];exact congrArg some e
theorem ObjM.look {h:Heap}{x dx C:Addr}{mA:Str→Option Value}(I:ObjM h x dx C mA):∃ od,PySem.W.InstAt h x (PySem.W.instObj C dx) C (some od)∧∀ name,PySem.W.lookIn name od=some (mA name):=
  let ⟨od,ho,hl⟩:=zmV I.ns
  ⟨od,⟨I.obj,rfl,rfl,ho⟩,hl⟩
section
variable {prog:Program}{w:World}{A:Around}{E:Value→Shared→Prop}{s:Shared}{K:Frag}{x dx C f:Addr}{mA:Str→Option Value}{name:Str}{v:Value}
theorem zqz {expr:Bool}{Q:Value→Shared→Prop}(X:K.In s.heap)(I:ObjM s.heap x dx C mA)(hg:PySem.W.plainGet K C name=true)(hh:PySem.W.hasDictIn K C=true)
    (ha:findIn K (.ref C) name=some none) (hv:mA name=some v) (hv':PySem.W.handedIn v=true) (h:Q v { s with toks:=s.toks+1 }) :
    wpAny (model prog w) A (getAttr (.ref x) name expr) Q E s:=by
  obtain ⟨od,J,hl⟩:=I.look;exact PySem.W.get_value X J (PySem.W.plainGet_of hg).1 (PySem.W.findObj_own hh ha rfl (by rw[hl,hv])) hv' h
theorem zoY {pl:Sem Bool}{Q:Value×List Value→Shared→Prop}(X:K.In s.heap)(I:ObjM s.heap x dx C mA)(hg:PySem.W.plainGet K C name=true)
    (hf:findIn K (.ref C) name=some (some (.ref f))) (ht:PySem.W.isFn K (.ref f)=true) (hv:mA name=none) (h:Q (.ref f,[.ref x]) s) :
    wpAny (model prog w) A (getMethod (.ref x) name pl) Q E s:=by
  obtain ⟨od,J,hl⟩:=I.look;exact PySem.W.method_fn X J (PySem.W.plainGet_of hg).1 (PySem.W.plainGet_of hg).2 hf (beq_iff_eq.mp ht) (by show (PySem.W.lookIn name od).map (·.isSome)=some false;rw[hl,hv];rfl) h
theorem zpV {ns:List Str}{Q:Unit→Shared→Prop}(X:K.In s.heap)(I:ObjM s.heap x dx C mA)
    (hs:findIn K (.ref C) "__setattr__" = some (some (.builtin "object.__setattr__"))) (hp:PySem.W.plainOver K C=true) (ht:PySem.W.takerIn K C name=some none) (hh:PySem.W.hasDictIn K C=true)
    (hw:PySem.Within mA ns) (hsz:ns.length≤sizeLine)
    (h:∀ h',ObjM h' x dx C (fun y=>if y=name then some v else mA y)→Heap.SameBut dx s.heap h'→Q () { s with heap:=h',toks:=s.toks+2 }) :
    wpAny (model prog w) A (setAttr (.ref x) name v) Q E s:=by
  obtain ⟨od,J,hl⟩:=I.look;refine PySem.W.set_plain X J hs (PySem.W.osa_open (s:={ s with toks:=s.toks+1 }) (r:=none) X J hp ht fun b=>?_);obtain ⟨cd,hc,hd'⟩:=PySem.W.any_some hh;have hx:s.heap.get? x=some ⟨.ref C,some dx,.plain,#[]⟩:=I.obj;refine wpAny_bind (wpAny_pure (wpAny_bind (wpAny_bind (wpAny_loadPart hx (wpAny_bind (PySem.W.Looks.here (s:={ s with toks:=s.toks+1 }) (PySem.W.looks_clsIn X hc) ?_))))));rw[hd'];refine wpAny_pure (a:=some dx) (wpAny_bind (wpAny_pure (wpAny_bind ?_)));refine wpAny_nsSet1 (s:={ s with toks:=s.toks+1 }) I.ns fun h' hn2 hs2=>?_;obtain ⟨oD,esD,epD,hoD,hdD,hcD⟩:=hn2.count (PySem.Within.cons name v hw);refine wpAny_bind (wpAny_lookBehind hoD (by rw[hdD];exact pastItsLine_dict (yat hcD (by rw[yaI];omega))) ?_);exact wpAny_pure (h _ ⟨(hs2.2 _ (Ne.symm I.ne)).trans I.obj,hn2,I.ne⟩ hs2)
theorem zoL {R:Result→Shared→Prop}{vs:List Value}{kw:List (Str×Value)}(X:K.In s.heap)(hm:PySem.W.makesIn K C=true)
    (hi:findIn K (.ref C) "__init__" = some (some (.ref f))) (hf:PySem.W.typeIn K (.ref f)=some (.type "function"))
    (h:codeAny (model prog w) (A.under (.builtin "type.__call__" ⟨.ref C::vs,kw⟩)) (.call (.ref f) ⟨.ref (s.heap.objs.size+1)::vs,kw⟩) (PySem.W.InitBack (s.heap.objs.size+1) R)
      { s with heap:=(s.heap.push PySem.W.emptyDict).push (PySem.W.instObj C s.heap.objs.size) }) :
    codeAny (model prog w) A (.call (.ref C) ⟨vs,kw⟩) R s:=by
  obtain ⟨hh,g,d,t,os⟩:=s;exact PySem.W.make_core (PySem.W.makes_of X hm) (PySem.W.looks_findIn X hi) (fun self=>PySem.W.bind_fn X self hf) (.inl rfl) h
end
def putF (f:Str)(v:V):List (Str×V)→List (Str×V)
  | []=>[(f,v)]
  | (g,x)::r=>if g=f then (g,v)::r else (g,x)::putF f v r
theorem zgq (f g:Str)(v:V):∀ fs:List (Str×V),(putF f v fs).lookup g=if g=f then some v else fs.lookup g
  | []=>by
    show List.lookup g [(f,v)]=_;by_cases h:g=f
    · have hb:(g == f)=true:=beq_iff_eq.mpr h
      simp only[List.lookup,hb,if_pos h]
    · have hb:(g == f)=false:=beq_eq_false_iff_ne.mpr h
      simp only[List.lookup,hb,if_neg h]
  | (k,x)::r=>by
    have ih:=zgq f g v r;rw[show putF f v ((k,x)::r)=(if k=f then (k,v)::r else (k,x)::putF f v r) from rfl]
    by_cases hk:k=f
    · rw[if_pos hk]
      by_cases h:g=k
      · have hb:(g == k)=true:=beq_iff_eq.mpr h
        simp only[List.lookup,hb,if_pos (h.trans hk)]
      · have hb:(g == k)=false:=beq_eq_false_iff_ne.mpr h
        simp only[List.lookup,hb,if_neg (fun e:g=f=>h (e.trans hk.symm))]
    · rw[if_neg hk]
      by_cases h:g=k
      · have hb:(g == k)=true:=beq_iff_eq.mpr h
        simp only[List.lookup,hb,if_neg (fun e:g=f=>hk (h.symm.trans e))]
      · have hb:(g == k)=false:=beq_eq_false_iff_ne.mpr h
        simp only[List.lookup,hb];exact ih
theorem zgs (f:Str)(v:V):∀ fs:List (Str×V),f∈(putF f v fs).map (·.1)∧∀ g,g∈fs.map (·.1)→g∈(putF f v fs).map (·.1)
  | []=>⟨by simp[putF],fun g h=>by simp at h⟩
  | (k,x)::r=>by
    obtain ⟨i1,i2⟩:=zgs f v r;rw[show putF f v ((k,x)::r)=(if k=f then (k,v)::r else (k,x)::putF f v r) from rfl]
    by_cases hk:k=f
    · rw[if_pos hk]
      subst hk;exact ⟨by simp,fun g h=>by simpa using h⟩
    · rw[if_neg hk]
      refine ⟨?_,fun g h=>?_⟩
      · rw[yaw]
        exact yau _ i1
      · rw[yaw]at h ⊢
        rcases yaj.mp h with e | e
        · exact yaj.mpr (.inl e)
        · exact yau _ (i2 g e)
theorem zgr (f:Str)(v:V):∀ fs:List (Str×V),(putF f v fs).length≤fs.length+1
  | []=>by simp[putF]
  | (k,x)::r=>by
    have ih:=zgr f v r;rw[show putF f v ((k,x)::r)=(if k=f then (k,v)::r else (k,x)::putF f v r) from rfl]
    by_cases hk:k=f
    · rw[if_pos hk,yaI,yaI];omega
    · rw[if_neg hk,yaI,yaI];omega
theorem RelO.some_of {v:V}{o:Option Value}(r:RelO (some v) o):∃ u,o=some u∧RelV v u:=by
  cases o with
  | none=>exact (show False from r).elim
  | some u=>exact ⟨u,rfl,r⟩
theorem RelO.none_of {o:Option Value}(r:RelO none o):o=none:=by
  cases o with
  | none=>rfl
  | some u=>exact (show False from r).elim
theorem zno {v:V}{u:Value}(r:RelV v u):PySem.W.handedIn u=true:=by
  cases v with
  | non=>cases (show u=Value.none from r);rfl
  | bl b=>cases (show u=Value.bool b from r);rfl
  | int i=>obtain ⟨t,e⟩:=(show ∃ t,u=Value.int i t from r);cases e;rfl
  | str x=>obtain ⟨t,e⟩:=(show ∃ t,u=Value.str x t from r);cases e;rfl
  | byt b=>obtain ⟨t,e⟩:=(show ∃ t,u=Value.bytes b t from r);cases e;rfl
  | flt b=>obtain ⟨t,e⟩:=(show ∃ t,u=Value.float b t from r);cases e;rfl
  | ref a=>cases (show u=Value.ref a from r);rfl
  | ty n=>cases (show u=Value.type n from r);rfl
section
variable {P:Program}{w:World}{H H':Hp}{h h':Heap}{a C dx:Addr}{fs fs':List (Str×V)}
theorem zhR (hok:HOk P w H h)(e:H a=some (.ins C dx fs)):∃ mA,ObjM h a dx C mA∧(∀ f,RelO (fs.lookup f) (mA f))∧PySem.Within mA (fs.map (·.1))∧fs.length≤1000∧H dx=some (.own a):=by
  obtain ⟨d,z,ne,ob,mA,n,r,q⟩:=(show zbK P w H h a (.ins C dx fs) from hok a _ e);exact ⟨mA,⟨ob,n,ne⟩,r,q,z,d⟩
end
structure Cls (K:Frag)(C:Addr):Prop where
  pg:PySem.W.plainGet K C Str.empty=true
  hd:PySem.W.hasDictIn K C=true
  po:PySem.W.plainOver K C=true
  sa:findIn K (.ref C) "__setattr__" = some (some (.builtin "object.__setattr__"))
theorem Cls.get {K:Frag}{C:Addr}(c:Cls K C)(f:Str):PySem.W.plainGet K C f=true:=c.pg
def zfA (K:Frag)(C:Addr)(f:Str):Prop:=findIn K (.ref C) f=some none
theorem zfA.taker {K:Frag}{C:Addr}{f:Str}(n:zfA K C f):PySem.W.takerIn K C f=some none:=by
  unfold PySem.W.takerIn;rw[show findIn K (.ref C) f=some none from n];rfl
structure Meth (K:Frag)(C:Addr)(m:Str)(f:Addr):Prop where
  at_:findIn K (.ref C) m=some (some (.ref f))
  fn:PySem.W.isFn K (.ref f)=true
  kp:keepIn K (.ref f)=true
section
variable {X:Cx}{pins:List (Addr×Obj)}{σ:St}{H:Hp}{s:Shared}{a C dx:Addr}{fs:List (Str×V)}{f:Str}{v:V}{A:Around}{E:Value→Shared→Prop}
theorem zlr {b:Bool}{Q:Value→Shared→Prop}(I:Inv X pins σ H s)(e:H a=some (.ins C dx fs))(c:Cls X.K C)(n:zfA X.K C f)(l:fs.lookup f=some v)
    (h:∀ u s',Inv X pins σ H s'→RelV v u→Q u s'):wpAny (model X.prog X.w) A (getAttr (.ref a) f b) Q E s:=by
  obtain ⟨mA,O,r,_,_,_⟩:=zhR I.hok e;obtain ⟨u,hu,ru⟩:=RelO.some_of (v:=v) (o:=mA f) (by rw[← l];exact r f);exact zqz I.kIn O (c.get f) c.hd n hu (zno ru) (h u _ (I.tok _) ru)
theorem zlq {m:Str}{g:Addr}{pl:Sem Bool}{Q:Value×List Value→Shared→Prop}(I:Inv X pins σ H s)(e:H a=some (.ins C dx fs))(c:Cls X.K C)(k:Meth X.K C m g)(l:fs.lookup m=none)
    (h:Q (.ref g,[.ref a]) s):wpAny (model X.prog X.w) A (getMethod (.ref a) m pl) Q E s:=by
  obtain ⟨mA,O,r,_,_,_⟩:=zhR I.hok e;have hn:mA m=none:=RelO.none_of (by rw[← l];exact r m);exact zoY I.kIn O (c.get m) k.at_ k.fn hn h
theorem zk4 {y:V}{u:Value}{Q:Unit→Shared→Prop}(I:Inv X pins σ H s)(e:H a=some (.ins C dx fs))(c:Cls X.K C)(n:zfA X.K C f)(hl:fs.length < 1000)(ry:RelV y u)
    (h:∀ s',Inv X pins σ (upd H a (.ins C dx (putF f y fs))) s'→Q () s'):wpAny (model X.prog X.w) A (setAttr (.ref a) f u) Q E s:=by
  obtain ⟨mA,O,r,wi,_,ho⟩:=zhR I.hok e;have hz:(fs.map (·.1)).length≤sizeLine:=by rw[yaa,sizeLine_eq];omega
  refine zpV I.kIn O c.sa c.po n.taker c.hd wi hz fun h' O' sb=>h _ ?_;have hd:∃ o,h'.get? dx=some o:=let ⟨o,_,_,e',_⟩:=O'.ns;⟨o,e'⟩;refine I.write (x:=a) (e:=dx) (by rw[e];exact True.intro) (.inr ho) (fun b q hb z=>(sb.2 b hb).trans z) hd ?_;refine ⟨by rw[zaf O.ne];exact ho,?_,O.ne,O'.obj,_,O'.ns,fun g=>?_,fun g hg=>?_⟩
  · have:=zgr f y fs;omega
  · show RelO ((putF f y fs).lookup g) (if g=f then some u else mA g)
    rw[zgq];by_cases q:g=f
    · rw[if_pos q,if_pos q];exact ry
    · rw[if_neg q,if_neg q];exact r g
  · by_cases q:g=f
    · rw[q];exact (zgs f y fs).1
    · refine (zgs f y fs).2 g (wi g fun z=>hg ?_)
      show (if g=f then some u else mA g)=none
      rw[if_neg q];exact z
theorem Inv.made (I:Inv X pins σ H s):Inv X pins σ (upd (upd H s.heap.objs.size (.own (s.heap.objs.size+1))) (s.heap.objs.size+1) (.ins C s.heap.objs.size []))
    { s with heap:=(s.heap.push PySem.W.emptyDict).push (PySem.W.instObj C s.heap.objs.size) }:=by
  have e1:(s.heap.push PySem.W.emptyDict).get? s.heap.objs.size=some PySem.W.emptyDict:=yaD s.heap rfl;have e2:((s.heap.push PySem.W.emptyDict).push (PySem.W.instObj C s.heap.objs.size)).get? (s.heap.objs.size+1)=some (PySem.W.instObj C s.heap.objs.size):=by
    have:=yaD (s.heap.push PySem.W.emptyDict) (o:=PySem.W.instObj C s.heap.objs.size) rfl;rwa[ybj]at this
  have e3:(s.heap.push PySem.W.emptyDict).Ns s.heap.objs.size (fun _=>none):=⟨PySem.W.emptyDict,#[],_,e1,rfl,(fun e he=>absurd he (by simp)),fun _=>rfl⟩;have I1:=I.laid (a:=s.heap.objs.size) (o:=.own (s.heap.objs.size+1)) (h':=s.heap.push PySem.W.emptyDict) (t':=s.toks) (fun b u q=>yam _ q) (yab _) ⟨_,e1⟩;refine I1.laid (a:=s.heap.objs.size+1) (o:=.ins C s.heap.objs.size []) (t':=s.toks) (fun b u q=>yam _ q) (ybQ (ybj _ _)) ?_;have ne:s.heap.objs.size≠s.heap.objs.size+1:=yaq (ybw _);refine ⟨by rw[zaf ne,zac],yaC _,ne,e2,fun _=>none,(Heap.Ns1.of_empty e3).at fun o q=>yam _ q,fun _=>True.intro,fun y hy=>absurd rfl hy⟩
theorem zqN {prog:Program}{w:World}{env:Env}{e:Expr}{f:Str}{pos:Pos}{s:Shared}{Q:Value→Shared→Prop}(hb:attributeBase e f env (eval e env)=eval e env)
    (h:wpAny (model prog w) A (eval e env) (fun o s₁=>wpAny (model prog w) A (getAttr o f true) Q E s₁) E s):wpAny (model prog w) A (eval (.Attribute e f pos) env) Q E s:=
  Attribute_any_ h (by rw[arm_eval_Attribute,hb])
end
def tFld (K:Frag)(ta:TE)(f:Str):TE:=fun σ H Q=>ta σ H fun x H1=>∃ a C dx fs v,x=.ref a∧H1 a=some (.ins C dx fs)∧Cls K C∧zfA K C f∧fs.lookup f=some v∧Q v H1
def sFld (K:Frag)(ta tv:TE)(f:Str):TS:=fun D σ H=>tv σ H fun y H1=>ta σ H1 fun x H2=>∃ a C dx fs,x=.ref a∧H2 a=some (.ins C dx fs)∧Cls K C∧zfA K C f∧fs.length < 1000∧
  D.nx σ (upd H2 a (.ins C dx (putF f y fs)))
section
variable {X:Cx}{o e value:Expr}{f:Str}{pos pos' tpos:Pos}{ta tv:TE}
theorem zmq (he:PE X e ta)(hb:attributeBase e f X.env (eval e X.env)=eval e X.env):PE X (.Attribute e f pos) (tFld X.K ta f):=by
  intro pins s σ H Q I h;refine zqN hb (thn (he pins s σ H _ I h) fun u s1 zq0=>?_);obtain ⟨x,H1,I1,rx,a,C,dx,fs,v,ex,ea,c,n,l,q⟩:=zq0;subst ex;obtain rfl:u=Value.ref a:=rx;exact zlr I1 ea c n l fun u' s2 I2 ru=>⟨v,H1,I2,ru,q⟩
theorem zpr (ha:PE X o ta)(hv:PE X value tv)(hs:swapsWith value (some (.Attribute o f pos')) pos.line X.env=pure false):PS X (.Assign [.Attribute o f pos'] value pos) (sFld X.K ta tv f):=by
  intro pins s σ H D I h;refine plainObj_wpAny_Assign_Attribute (thn (hv pins s σ H _ I h) fun u s1 zq0=>?_) hs;obtain ⟨y,H1,I1,ry,q⟩:=zq0;refine thn (ha pins s1 σ H1 _ I1 q) fun ov s2 zq1=>?_;obtain ⟨x,H2,I2,rx,a,C,dx,fs,ex,ea,c,n,l,q2⟩:=zq1;subst ex;obtain rfl:ov=Value.ref a:=rx;exact zk4 I2 ea c n l ry fun s3 I3=>⟨σ,_,I3,q2⟩
end
section
variable {X:Cx}{pins:List (Addr×Obj)}{σ:St}{H:Hp}{s:Shared}{A:Around}{E:Value→Shared→Prop}{Q:Value→Shared→Prop}{c:Value}{b:Bool}
inductive TyOf (K:Frag)(H:Hp):V→Value→Prop where
  | non:TyOf K H .non (.type "NoneType")
  | bl (x:Bool):TyOf K H (.bl x) (.type "bool")
  | int (i:Int):TyOf K H (.int i) (.type "int")
  | str (x:Str):TyOf K H (.str x) (.type "str")
  | flt (x:UInt64):TyOf K H (.flt x) (.type "float")
  | lst {a:Addr} {xs:List V} (e:H a=some (.lst xs)):TyOf K H (.ref a) (.type "list")
  | frz {a:Addr} {o:Obj} {xs:List V} (e:H a=some (.frz o (.lst xs))):TyOf K H (.ref a) (.type "list")
  | tup {a:Addr} {xs:List V} (e:H a=some (.tup xs)):TyOf K H (.ref a) (.type "tuple")
  | dK {a:Addr} {kvs:List (Key×V)} (e:H a=some (.dK kvs)):TyOf K H (.ref a) (.type "dict")
  | dT {a:Addr} {kvs:List (List Key×V)} (e:H a=some (.dT kvs)):TyOf K H (.ref a) (.type "dict")
  | ins {a C dx:Addr} {fs:List (Str×V)} (e:H a=some (.ins C dx fs)) (cl:Cls K C) (ha:findIn K (.ref C) "__class__" = some (some (.builtin "object.__class__")))
      (hn:PySem.W.specialIn K (.builtin "object.__class__") "__get__" = some (some (.builtin "getset_descriptor.__get__"))) (htk:PySem.W.takesIn K (.builtin "object.__class__")=some true)
      (hm:mroIn K C (.type "object")=some true):TyOf K H (.ref a) (.ref C)
theorem znf {x:V}{u t:Value}(I:Inv X pins σ H s)(rx:RelV x u)(ty:TyOf X.K H x t)(e:kitOne X.K t c=some b)(h:∀ tk,Q (.bool b) { s with toks:=tk }) :
    wpAny (model X.prog X.w) A (call (.builtin "isinstance") [u,c]) Q E s:=by
  cases ty with
  | non=>cases (show u=Value.none from rx);exact PySem.W.kia_one PySem.W.kitx_none I.kIn True.intro e (fun z=>nomatch z) h
  | bl y=>cases (show u=Value.bool y from rx);exact PySem.W.kia_one PySem.W.kitx_bool I.kIn True.intro e (fun z=>nomatch z) h
  | int i=>obtain ⟨t,q⟩:=(show ∃ t,u=Value.int i t from rx);cases q;exact PySem.W.kia_one PySem.W.kitx_int I.kIn True.intro e (fun z=>nomatch z) h
  | str y=>obtain ⟨t,q⟩:=(show ∃ t,u=Value.str y t from rx);cases q;exact PySem.W.kia_one PySem.W.kitx_str I.kIn True.intro e (fun z=>nomatch z) h
  | flt y=>obtain ⟨t,q⟩:=(show ∃ t,u=Value.float y t from rx);cases q;exact PySem.W.kia_one PySem.W.kitx_float I.kIn True.intro e (fun z=>nomatch z) h
  | @lst a xs ea=>
    cases (show u=Value.ref a from rx)
    obtain ⟨_,_,n,_,h1⟩:=(show zbK X.prog X.w H s.heap a (.lst xs) from I.hok a _ ea);exact PySem.W.kia_one PySem.W.kitx_list I.kIn ⟨_,h1,rfl⟩ e (fun z=>nomatch z) h
  | @frz a ob xs ea=>
    cases (show u=Value.ref a from rx)
    obtain ⟨_,_,_,n,_,h1⟩:=(show zbK X.prog X.w H s.heap a (.frz ob (.lst xs)) from I.hok a _ ea);exact PySem.W.kia_one PySem.W.kitx_list I.kIn ⟨_,h1,rfl⟩ e (fun z=>nomatch z) h
  | @tup a xs ea=>
    cases (show u=Value.ref a from rx)
    obtain ⟨_,_,_,p⟩:=(show zbK X.prog X.w H s.heap a (.tup xs) from I.hok a _ ea);obtain ⟨o,h1,h2,_⟩:=p;exact PySem.W.kia_one PySem.W.kitx_tuple I.kIn ⟨o,h1,h2⟩ e (fun z=>nomatch z) h
  | @dK a kvs ea=>
    cases (show u=Value.ref a from rx)
    obtain ⟨_,_,vs,_,p⟩:=(show zbK X.prog X.w H s.heap a (.dK kvs) from I.hok a _ ea);obtain ⟨o,es,ep,h1,h2,_⟩:=p;exact PySem.W.kia_one PySem.W.kitx_dict I.kIn ⟨o,h1,h2.1⟩ e (fun z=>nomatch z) h
  | @dT a kvs ea=>
    cases (show u=Value.ref a from rx)
    obtain ⟨_,_,xs,_,o,es,ep,h1,h2,_⟩:=(show zbK X.prog X.w H s.heap a (.dT kvs) from I.hok a _ ea);exact PySem.W.kia_one PySem.W.kitx_dict I.kIn ⟨o,h1,h2.1⟩ e (fun z=>nomatch z) h
  | @ins a C dx fs ea cl ha hn htk hm=>
    cases (show u=Value.ref a from rx)
    obtain ⟨mA,O,_⟩:=zhR I.hok ea;obtain ⟨od,J,_⟩:=O.look;exact PySem.W.kia_one (PySem.W.kitx_own (cl.get _) cl.hd ha hn htk hm) I.kIn J e (fun z=>nomatch z) h
end
end L2
namespace L2
open PySem PySem.Spec PyProof.Rows
structure Room (k:Nat)(A:Around):Prop where
  hd:A.handled=none
  dp:A.depth+3 * k+5 < recursionLimit
  un:A.units+16 * k+200 < cLine
  gd:A.guards=some []
theorem Room.mono {j k:Nat}{A:Around}(r:Room k A)(h:j≤k):Room j A:=⟨r.hd,by have:=r.dp;omega,by have:=r.un;omega,r.gd⟩
theorem Room.deeper {k:Nat}{A:Around}(r:Room (k+1) A)(env:Env):Room k (A.deeper env):=
  ⟨r.hd,by have:=r.dp;show A.depth+1+3 * k+5 < _;omega,by have:=r.un;show A.units+3+16 * k+200 < _;omega,r.gd⟩
theorem zln {A:Around}{C:Addr}{us:List Value}{kw:List (Str×Value)}:(A.under (.builtin "type.__call__" ⟨.ref C::us,kw⟩)).depth=A.depth+1:=by
  first | rfl | simp[Around.under,Code.weight,Code.isCreation,Code.isGuard,Code.isCaller,Code.frames,Code.isFrame,guardIds]
theorem zlm {A:Around}{C:Addr}{us:List Value}{kw:List (Str×Value)}:(A.under (.builtin "type.__call__" ⟨.ref C::us,kw⟩)).units=A.units+1:=by
  first | rfl | simp[Around.under,Code.cUnits,Code.frames,Code.isFrame]
theorem Room.make {k:Nat}{A:Around}(r:Room (k+1) A)(C:Addr)(us:List Value)(kw:List (Str×Value)):Room k (A.under (.builtin "type.__call__" ⟨.ref C::us,kw⟩)):=
  ⟨r.hd,by have:=r.dp;rw[zln];omega,by have:=r.un;rw[zlm];omega,by have h:=r.gd;simp[Around.under,Code.guards,Code.isGuard,guardIds,pushGuards,h]⟩
theorem Room.depth {k:Nat}{A:Around}(r:Room k A):A.depth < recursionLimit:=by have:=r.dp;omega
theorem Room.units {k:Nat}{A:Around}(r:Room k A):A.units+64 < cLine:=by have:=r.un;omega
def tNil:TA:=fun _ H Q=>Q [] H
def zn1 (ta:TE)(tr:TA):TA:=fun σ H Q=>ta σ H fun x H1=>tr σ H1 fun xs H2=>Q (x::xs) H2
section
variable {X:Cx}{e:Expr}{es:List Expr}{te:TE}{t:TA}{pos:Pos}
theorem zad:PA X [] tNil:=fun _ _ _ _ H Q I h=>Calls.spliced_nil ⟨[],H,I,.nil,h⟩
theorem zaa (ha:PE X e te)(hr:PA X es t)(hs:starEach (e::es) X.env=(false,eval e X.env)::starEach es X.env:=by rfl):PA X (e::es) (zn1 te t):=by
  intro pos pins s σ H Q I h;rw[hs];show wpAny _ _ (spliced ((false,eval e X.env)::backTo pos (starEach es X.env))) _ _ s;refine Calls.spliced_cons (thn (ha pins s σ H _ I h) fun u s1 zq0=>?_);obtain ⟨x,H1,I1,r1,q1⟩:=zq0;exact thn (hr pos pins s1 σ H1 _ I1 q1) fun us s2 zq0=>(by obtain ⟨xs,H2,I2,r2,q2⟩:=zq0;exact ⟨x::xs,H2,I2,.cons r1 r2,q2⟩)
def tTup (t:TA):TE:=fun σ H Q=>t σ H fun xs H1=>xs.length≤sizeLine∧∀ p,H1 p=none→Q (.ref p) (upd H1 p (.tup xs))
def tLst (t:TA):TE:=fun σ H Q=>t σ H fun xs H1=>xs.length≤sizeLine∧∀ p,H1 p=none→Q (.ref p) (upd H1 p (.lst xs))
theorem zbv {x1}(h:PA X es t):PE X (.Tuple es x1 pos) (tTup t):=by
  intro pins s σ H Q I hq;refine wpAny_Tuple_spliced (thn (h pos pins s σ H _ I hq) fun us s1 zq0=>?_);obtain ⟨xs,H1,I1,r,z,q⟩:=zq0;refine ⟨by rw[← r.length];exact z,?_⟩;have hf:H1 s1.heap.objs.size=none:=I1.hok.fresh (yab _);refine ⟨.ref s1.heap.objs.size,upd H1 s1.heap.objs.size (.tup xs),I1.laid (t':=s1.toks) (fun b u e=>yam _ e) (yab _) ?_,rfl,q _ hf⟩;exact ⟨z,us,r,⟨_,yaD _ rfl,rfl,_,rfl⟩⟩
theorem zbg (h:PA X es t):PE X (.List es pos) (tLst t):=by
  intro pins s σ H Q I hq;refine wpAny_List_spliced (thn (h pos pins s σ H _ I hq) fun us s1 zq0=>?_);obtain ⟨xs,H1,I1,r,z,q⟩:=zq0;refine ⟨by rw[← r.length];exact z,?_⟩;have hf:H1 s1.heap.objs.size=none:=I1.hok.fresh (yab _);refine ⟨.ref s1.heap.objs.size,upd H1 s1.heap.objs.size (.lst xs),I1.laid (t':=s1.toks) (fun b u e=>yam _ e) (yab _) ?_,rfl,q _ hf⟩;exact ⟨z,us,0,r,yaD _ rfl⟩
end
abbrev Sp:=List V→Hp→VK→XK→Prop
abbrev CXT:=List Env→Hp→Shared→XK→Value→Shared→Prop
structure Env0 (P:Program)(w:World)(K:Frag)(mg:Str→Option Value)(base:Heap)(A:Around)(outer:List Env)(s:Shared)(H:Hp):Prop where
  frames:A.frames=some outer
  mod:Mod K mg base
  bs:∀ b o,base.get? b=some o→s.heap.get? b=some o∧H b=none
  bsz:base.objs.size≤s.heap.objs.size
  funs:s.heap.FunFrames base outer
  frf:∀ b∈frs outer,H b=none
  hok:HOk P w H s.heap
  bare:AllBare s.gens
def CE (outer:List Env)(P:Program)(w:World)(H:Hp)(s:Shared)(Q:VK)(u:Value)(s':Shared):Prop:=
  ∃ v H',s'.os=s.os∧AllBare s'.gens∧Un (frs outer) [] H H' s.heap s'.heap∧HOk P w H' s'.heap∧RelV v u∧Q v H'
def CR (CX:CXT)(outer:List Env)(P:Program)(w:World)(H:Hp)(s:Shared)(Q:VK)(E:XK)(r:Result)(s':Shared):Prop:=
  match r with
  | .ok (.ret u)=>CE outer P w H s Q u s'
  | .ok _=>False
  | .error e=>CX outer H s E e s'
structure FnOk (P:Program)(w:World)(K:Frag)(mg:Str→Option Value)(base:Heap)(CX:CXT)(k:Nat)(f:Addr)(fd:FuncData)(ps:List Str)(sp:Sp):Prop where
  len:∀ vs H Q E,sp vs H Q E→vs.length=ps.length
  run:∀(A:Around) (outer:List Env) (s:Shared) (H:Hp) (args:Args) (us:List Value) (vs:List V) (Q:VK) (E:XK),Room k A→Env0 P w K mg base A outer s H→BindsTo s fd args (ps.zip us)→Vals vs us→sp vs H Q E→
    codeAny (model P w) A (.call (.ref f) args) (CR CX outer P w H s Q E) s
theorem FnOk.mono {P:Program}{w:World}{K:Frag}{mg:Str→Option Value}{base:Heap}{CX:CXT}{j k:Nat}{f:Addr}{fd:FuncData}{ps:List Str}{sp:Sp}(F:FnOk P w K mg base CX j f fd ps sp)(h:j≤k) :
    FnOk P w K mg base CX k f fd ps sp:=⟨F.len,fun A outer s H args us vs Q E hr=>F.run A outer s H args us vs Q E (hr.mono h)⟩
theorem Env0.make {P:Program}{w:World}{K:Frag}{mg:Str→Option Value}{base:Heap}{A:Around}{outer:List Env}{s:Shared}{H:Hp}(e:Env0 P w K mg base A outer s H)(C:Addr)(us:List Value)(kw:List (Str×Value)) :
    Env0 P w K mg base (A.under (.builtin "type.__call__" ⟨.ref C::us,kw⟩)) outer s H:=⟨by first | exact e.frames | (simpa [Around.under,Code.envs,Code.isFrame,pushEnvs] using e.frames),e.mod,e.bs,e.bsz,e.funs,e.frf,e.hok,e.bare⟩
section
variable {X:Cx}{pins:List (Addr×Obj)}{σ:St}{H:Hp}{s s':Shared}
theorem Inv.env0 (I:Inv X pins σ H s):Env0 X.prog X.w X.K X.mg X.base X.A X.stack s H:=
  ⟨I.ok.frames,I.ok.mod,I.bs,yat I.ok.bsz I.sz,I.stack,I.stkFree,I.hok,I.bare⟩
theorem Inv.after {Q:VK}{u:Value}(I:Inv X pins σ H s)(h:CE X.stack X.prog X.w H s Q u s'):EP X pins σ Q u s':=by
  obtain ⟨v,H',os,bare,un,hok,r,q⟩:=h;obtain ⟨hh,g,d,t,os'⟩:=s';obtain rfl:os'=s.os:=os;exact ⟨v,H',I.call (h':=hh) (g':=g) (d':=d) (t':=t) (ch:=[]) un hok bare (fun b z=>absurd z (by simp)),r,q⟩
end
def zq7 (sp:Sp)(dvs:List V)(E:XK)(t:TA):TE:=fun σ H Q=>t σ H fun vs H1=>sp (vs++dvs) H1 Q E
def zqX (C:Addr)(m:Str)(sp:Sp)(dvs:List V)(E:XK)(ta:TE)(t:TA):TE:=fun σ H Q=>ta σ H fun x H1=>∃ a dx fs,x=.ref a∧H1 a=some (.ins C dx fs)∧fs.lookup m=none∧
  t σ H1 fun vs H2=>sp (x::(vs++dvs)) H2 Q E
def zqY (C:Addr)(sp:Sp)(dvs:List V)(E:XK)(t:TA):TE:=fun σ H Q=>t σ H fun vs H1=>∀ x dx,H1 x=none→H1 dx=none→dx≠x→
  sp (.ref x::(vs++dvs)) (upd (upd H1 dx (.own x)) x (.ins C dx [])) (fun v H2=>v=.non∧Q (.ref x) H2) E
def zd9 (K:Frag)(fd:FuncData)(ps:List Str)(ds:List Value):Prop:=
  ∀(s:Shared) (us:List Value),K.In s.heap→(us++ds).length=ps.length→BindsTo s fd ⟨us,[]⟩ (ps.zip (us++ds))
theorem zd9.all {K:Frag}{fd:FuncData}{ps:List Str}(h:∀ us:List Value,us.length=ps.length→bindArgs fd ⟨us,[]⟩=pure (ps.zip us)):zd9 K fd ps []:=fun s us _ hl=>by
  rw[yaN]at hl ⊢;exact .of_eq (h us hl)
def zho (CX:CXT)(X:Cx)(E:XK):Prop:=∀(pins:List (Addr×Obj)) (σ:St) (H:Hp) (s:Shared) (e:Value) (s':Shared),Inv X pins σ H s→CX X.stack H s E e s'→X.xe e s'
section
variable {X:Cx}{CX:CXT}{k:Nat}{f C:Addr}{fd:FuncData}{ps:List Str}{sp:Sp}{dvs:List V}{ds:List Value}{E:XK}{x m:Str}{p pos apos:Pos}{e o:Expr}{es:List Expr}{ta:TE}{t:TA}
theorem zmh {pins:List (Addr×Obj)}{σ:St}{H:Hp}{s:Shared}{Q:VK}{us:List Value}{vs:List V}(F:FnOk X.prog X.w X.K X.mg X.base CX k f fd ps sp)(hr:Room k X.A)(hb:zd9 X.K fd ps ds)(hd:Vals dvs ds)(hx:zho CX X E)
    (I:Inv X pins σ H s) (r:Vals vs us) (h:sp (vs++dvs) H Q E):wpAny (model X.prog X.w) X.A (call (.ref f) us) (EP X pins σ Q) X.xe s:=by
  have r2:Vals (vs++dvs) (us++ds):=r.append hd;have hl:(us++ds).length=ps.length:=by rw[← r2.length];exact F.len _ _ _ _ h
  refine wpAny_call (codeAny_mono (F.run X.A X.stack s H ⟨us,[]⟩ (us++ds) (vs++dvs) Q E hr I.env0 (hb s us I.kIn hl) r2 h) fun r s' hq=>?_);cases r with
  | error e=>exact hx pins σ H s e s' I hq
  | ok fl=>
    cases fl with
    | ret u=>exact I.after hq
    | next=>exact False.elim hq
    | brk=>exact False.elim hq
    | cont=>exact False.elim hq
theorem zp5 (F:FnOk X.prog X.w X.K X.mg X.base CX k f fd ps sp)(hr:Room k X.A)(hg:Gl X x)(hm:X.mg x=some (.ref f))(hk:keepIn X.K (.ref f)=true)(hb:zd9 X.K fd ps ds)(hd:Vals dvs ds)(hx:zho CX X E)
    (ha:PA X (e::es) t) (hdb:(x == ("__debug__" : Str))=false:=by decide) (he:starEach (e::es) X.env=(false,eval e X.env)::starEach es X.env:=by rfl) (hpl:(backTo pos (starEach es X.env)).any (·.1)=false:=by rfl) :
    PE X (.Call (.Name x p) (e::es) [] pos) (zq7 sp dvs E t):=by
  intro pins s σ H Q I h;refine wpAny_Call_Name_kw (zep I hg hm ?_ hdb);refine PySem.W.callWith_K (h₀:=X.base) I.ok.mod.kin hk (thn (ha pos pins s σ H _ I h) fun us s1 zq0=>?_) he hpl;obtain ⟨vs,H1,I1,r,q⟩:=zq0;refine ⟨I1.kIn,?_⟩;exact zmh F hr hb hd hx I1 r q
theorem zp1 {pl:Sem Bool}(he:PE X o ta)(c:Cls X.K C)(hm:Meth X.K C m f)(F:FnOk X.prog X.w X.K X.mg X.base CX k f fd ps sp)(hr:Room k X.A)(hb:zd9 X.K fd ps ds)(hd:Vals dvs ds)(hx:zho CX X E)(ha:PA X (e::es) t)
    (hst:starEach (e::es) X.env=(false,eval e X.env)::starEach es X.env:=by rfl) (hpl:(backTo pos (starEach es X.env)).any (·.1)=false:=by rfl)
    (ht:eval (.Call (.Attribute o m apos) (e::es) [] pos) X.env=(do
      let ov ← eval o X.env
      standAt apos.atName
      let (f,first) ← holding [ov] (getMethod ov m pl)
      callWith pos f first (backTo pos (starEach (e::es) X.env)) (backToKw pos (keywordEach [] X.env))):=by rfl) :
    PE X (.Call (.Attribute o m apos) (e::es) [] pos) (zqX C m sp dvs E ta t):=by
  intro pins s σ H Q I h;refine PySem.W.methodCall_KW (pl:=pl) (thn (he pins s σ H _ I h) fun u s1 zq0=>?_) ht;obtain ⟨x,H1,I1,rx,a,dx,fs,ex,ea,l,q⟩:=zq0;subst ex;obtain rfl:u=Value.ref a:=rx;refine zlq I1 ea c hm l ?_;refine PySem.W.callWith_K (first:=[.ref a]) (h₀:=X.base) I.ok.mod.kin hm.kp (thn (ha pos pins s1 σ H1 _ I1 q) fun us s2 zq0=>?_) hst hpl
  obtain ⟨vs,H2,I2,r,q2⟩:=zq0;refine ⟨I2.kIn,?_⟩;exact zmh (us:=.ref a::us) (vs:=.ref a::vs) F hr hb hd hx I2 (.cons rfl r) q2
structure Mk (K:Frag)(C f:Addr):Prop where
  makes:PySem.W.makesIn K C=true
  init:findIn K (.ref C) "__init__" = some (some (.ref f))
  fn:PySem.W.isFn K (.ref f)=true
  kp:keepIn K (.ref C)=true
theorem zoa {pins:List (Addr×Obj)}{σ:St}{H:Hp}{s:Shared}{Q:VK}{us:List Value}{vs:List V}(M:Mk X.K C f)(F:FnOk X.prog X.w X.K X.mg X.base CX k f fd ps sp)(hr:Room (k+1) X.A)(hb:zd9 X.K fd ps ds)(hd:Vals dvs ds)
    (hx:zho CX X E) (I:Inv X pins σ H s) (r:Vals vs us)
    (h:∀ x dx,H x=none→H dx=none→dx≠x→sp (.ref x::(vs++dvs)) (upd (upd H dx (.own x)) x (.ins C dx [])) (fun v H2=>v=.non∧Q (.ref x) H2) E) :
    wpAny (model X.prog X.w) X.A (call (.ref C) us) (EP X pins σ Q) X.xe s:=by
  have hq:=h (s.heap.objs.size+1) s.heap.objs.size (I.hok.fresh (yaX _)) (I.hok.fresh (yab _)) (yaq (ybw _));have I2:=Inv.made (C:=C) I;have r2:Vals (V.ref (s.heap.objs.size+1)::(vs++dvs)) (Value.ref (s.heap.objs.size+1)::(us++ds)):=.cons rfl (r.append hd);have hl:(Value.ref (s.heap.objs.size+1)::us++ds).length=ps.length:=by
    have e:=r2.length;rw[F.len _ _ _ _ hq]at e;exact e.symm
  refine wpAny_call (zoL (f:=f) I.kIn M.makes M.init (beq_iff_eq.mp M.fn) (codeAny_mono (F.run _ X.stack _ _ ⟨Value.ref (s.heap.objs.size+1)::us,[]⟩ (Value.ref (s.heap.objs.size+1)::(us++ds)) _ _ E (hr.make C us [])
    (I2.env0.make C us []) (hb _ (Value.ref (s.heap.objs.size+1)::us) I2.kIn hl) r2 hq) fun r s' hq'=>?_))
  cases r with
  | error e=>exact hx pins σ _ _ e s' I2 hq'
  | ok fl=>
    cases fl with
    | ret u=>
      obtain ⟨v,H',I3,rv,ev,q3⟩:=I2.after hq';subst ev;exact ⟨rv,⟨V.ref (s.heap.objs.size+1),H',I3,rfl,q3⟩⟩
    | next=>exact False.elim hq'
    | brk=>exact False.elim hq'
    | cont=>exact False.elim hq'
theorem zp2 (M:Mk X.K C f)(F:FnOk X.prog X.w X.K X.mg X.base CX k f fd ps sp)(hr:Room (k+1) X.A)(hg:Gl X x)(hm:X.mg x=some (.ref C))(hb:zd9 X.K fd ps ds)(hd:Vals dvs ds)(hx:zho CX X E)
    (ha:PA X (e::es) t) (hdb:(x == ("__debug__" : Str))=false:=by decide) (he:starEach (e::es) X.env=(false,eval e X.env)::starEach es X.env:=by rfl) (hpl:(backTo pos (starEach es X.env)).any (·.1)=false:=by rfl) :
    PE X (.Call (.Name x p) (e::es) [] pos) (zqY C sp dvs E t):=by
  intro pins s σ H Q I h;refine wpAny_Call_Name_kw (zep I hg hm ?_ hdb);refine PySem.W.callWith_K (h₀:=X.base) I.ok.mod.kin M.kp (thn (ha pos pins s σ H _ I h) fun us s1 zq0=>?_) he hpl;obtain ⟨vs,H1,I1,r,q⟩:=zq0;refine ⟨I1.kIn,?_⟩;exact zoa M F hr hb hd hx I1 r q
end
def PK (X:Cx)(kws:List Keyword)(t:TA):Prop:=
  ∀(pos:Pos) (pins:List (Addr×Obj)) (s:Shared) (σ:St) (H:Hp) (Q:List V→Hp→Prop),Inv X pins σ H s→t σ H Q→wpAny (model X.prog X.w) X.A (evalAll ((backToKw pos (keywordEach kws X.env)).map (·.2))) (AP X pins σ Q) X.xe s
structure zap (N P:List Str)(sc:Scope):Prop where
  kind:sc.kind=.function
  co:sc.isCoroutine=false
  gen:sc.isGenerator=false
  nd:N.Nodup
  pre:N.take P.length=P
  par:∀ x∈P,sc.names.lookup x=some .local∨sc.names.lookup x=some .cell
  nofree:∀ y∈sc.names,y.2≠.free
theorem zi2 {kindOf:Str→Option NameKind}{x:Str}:∀{binds:List (Str×Value)} {m:Str→Option Value},(∀ v,(x,v)∉binds)→bindL kindOf binds m x=m x
  | [],_,_=>rfl
  | (n,v)::r,m,h=>by
    unfold bindL;rw[zi2 fun w hw=>h w (yau _ hw)];split
    · have:x≠n:=by rintro rfl;exact h v yav
      simp[this]
    · rfl
theorem zi4 {kindOf:Str→Option NameKind}{x:Str}:∀{binds:List (Str×Value)} {m:Str→Option Value},(∀ v,(x,v)∉binds)→bindC kindOf binds m x=m x
  | [],_,_=>rfl
  | (n,v)::r,m,h=>by
    unfold bindC;rw[zi4 fun w hw=>h w (yau _ hw)];split
    · rfl
    · have:x≠n:=by rintro rfl;exact h v yav
      simp[this]
theorem zi3 {kindOf:Str→Option NameKind}{x:Str}{v:Value}:∀{P:List Str} {vs:List Value} {i:Nat} {m:Str→Option Value},P.Nodup→P[i]?=some x→vs[i]?=some v→kindOf x=some .local→
    bindL kindOf (P.zip vs) m x=some v
  | [],_,_,_,_,h,_,_=>by simp at h
  | _::_,[],_,_,_,_,h,_=>by simp at h
  | p::P,w::vs,0,m,nd,h1,h2,hk=>by
    simp at h1 h2;subst h1;subst h2;show bindL kindOf ((p,w)::P.zip vs) m p=_;unfold bindL;rw[zi2 fun v hv=>(yaK.mp nd).1 (ybR hv).1,if_pos hk];simp
  | p::P,w::vs,i+1,m,nd,h1,h2,hk=>by
    show bindL kindOf ((p,w)::P.zip vs) m x=_;unfold bindL;exact zi3 (i:=i) (yaK.mp nd).2 (by simpa using h1) (by simpa using h2) hk
theorem zi5 {kindOf:Str→Option NameKind}{x:Str}{v:Value}:∀{P:List Str} {vs:List Value} {i:Nat} {m:Str→Option Value},P.Nodup→P[i]?=some x→vs[i]?=some v→kindOf x≠some .local→
    bindC kindOf (P.zip vs) m x=some v
  | [],_,_,_,_,h,_,_=>by simp at h
  | _::_,[],_,_,_,_,h,_=>by simp at h
  | p::P,w::vs,0,m,nd,h1,h2,hk=>by
    simp at h1 h2;subst h1;subst h2;show bindC kindOf ((p,w)::P.zip vs) m p=_;unfold bindC;rw[zi4 fun v hv=>(yaK.mp nd).1 (ybR hv).1,if_neg hk];simp
  | p::P,w::vs,i+1,m,nd,h1,h2,hk=>by
    show bindC kindOf ((p,w)::P.zip vs) m x=_;unfold bindC;exact zi5 (i:=i) (yaK.mp nd).2 (by simpa using h1) (by simpa using h2) hk
def zcW (N:List Str)(vs:List V):St:=vs.map some++List.replicate (N.length - vs.length) none
def cxOf (CX:CXT)(P:Program)(w:World)(K:Frag)(mg:Str→Option Value)(base:Heap)(N:List Str)(qual:Str)(scope:Scope)(f:Addr)(cd:Value)(A:Around)(outer:List Env)(s:Shared)(H:Hp)(E:XK):Cx where
  prog:=P
  w:=w
  K:=K
  mg:=mg
  base:=base
  A:=A.deeper (envOfC qual scope s.heap.objs.size f cd)
  N:=N
  s₀:=s
  H₀:=H
  env:=envOfC qual scope s.heap.objs.size f cd
  outer:=outer
  stack:=envOfC qual scope s.heap.objs.size f cd::outer
  ex:=[]
  calm:=true
  fn:=fun _=>true
  pn:=[]
  xe:=fun e s'=>wpAny (model P w) (A.deeper (envOfC qual scope s.heap.objs.size f cd)) (leaving (envOfC qual scope s.heap.objs.size f cd) e) (fun _ s''=>CX outer H s E e s'') (fun e' s''=>CX outer H s E e' s'') s'
theorem zkU {sc:Scope}{n:Nat}{x:Str}(h:sc.names.lookup x=some .cell):∃ c,(cellsFrom n sc.names []).lookup x=some c:=by
  have q:=PySem.W.cellsFrom_some sc.names n [] (.inl h);exact yb0.mp q
theorem zng {CX:CXT}{P:Program}{w:World}{K:Frag}{mg:Str→Option Value}{base:Heap}{N ps:List Str}{qual:Str}{scope:Scope}{f:Addr}{cd:Value}{A:Around}{outer:List Env}{s s1:Shared}{H:Hp}{E:XK}{us:List Value}{vs:List V}
    (S:zap N ps scope) (hd:A.handled=none) (e0:Env0 P w K mg base A outer s H) (hl:vs.length=ps.length) (r:Vals vs us)
    (x:InCallC s s.heap.objs.size (bindL (envOfC qual scope s.heap.objs.size f cd).kindOf (ps.zip us) fun _=>none) (cellsFrom (s.heap.objs.size+1) scope.names []) (bindC (envOfC qual scope s.heap.objs.size f cd).kindOf (ps.zip us) fun _=>none) s1) :
    Inv (cxOf CX P w K mg base N qual scope f cd A outer s H E) [] (zcW N vs) H s1:=by
  have hpl:ps.length≤N.length:=by have:=congrArg List.length S.pre;rw[yao]at this;omega
  obtain ⟨h1,tk,rfl,hk⟩:=x.done;have noA:∀ b:Addr,b∉(cxOf CX P w K mg base N qual scope f cd A outer s H E).ex:=fun b z=>absurd (show b∈([]:List Addr) from z) (by simp);refine ⟨⟨e0.mod,S.kind,rfl,rfl,yab _,fun y z c h1 h2=>?_,fun y hy=>?_,fun y c _ h=>?_,fun _=>hd,Around.frames_deeper e0.frames,.inr ⟨rfl,rfl⟩,fun b z=>absurd z (noA b),e0.bs,e0.bsz,fun b _ _=>noA b,fun b z=>absurd z (noA b),e0.funs,e0.frf⟩,
    rfl,e0.bare,Un.kept hk,⟨_,x.toInCall.ns,fun i y v h1 h2 h3=>?_⟩,fun y c h=>⟨_,x.cell y c h⟩,e0.hok.fresh (yab _),fun y c h=>?_,fun p hp=>absurd (show p∈([]:List (Addr×Obj)) from hp) (by simp),e0.hok.kept hk,?_⟩
  · exact name_of_addr x.apart (PySem.mem_of_lookup h1) (PySem.mem_of_lookup h2)
  · have hy:scope.names.lookup y=some .cell∨scope.names.lookup y=some .free:=hy
    rcases hy with hy | hy
    · exact zkU hy
    · exact absurd rfl (S.nofree _ (PySem.mem_of_lookup hy))
  · exact ya5 (x.above y c (PySem.mem_of_lookup h))
  · have hi:i < vs.length:=by
      unfold zcW at h2;by_cases hi:i < vs.length
      · exact hi
      · rw[ya0 (by simpa using hi)]at h2
        rw[ycf]at h2;split at h2 <;> cases h2
    have ha:vs[i]?=some v:=by
      unfold zcW at h2;rw[ybk (by simpa using hi),yal]at h2;cases e:vs[i]? with
      | none=>rw[e]at h2;cases h2
      | some a=>rw[e]at h2;cases h2;rfl
    obtain ⟨u,hu,rv⟩:=r.get ha;have hp:ps[i]?=some y:=by
      rw[← S.pre,List.getElem?_take_of_lt (by omega)];exact h1
    have ndP:ps.Nodup:=by rw[← S.pre];exact S.nd.sublist (List.take_sublist _ _)
    refine ⟨u,rv,?_⟩;rcases S.par y (yaP hp) with k | k
    · exact .inl ⟨k,zi3 ndP hp hu k⟩
    · obtain ⟨c,e⟩:=zkU (n:=s.heap.objs.size+1) k
      refine .inr ⟨.inl k,c,e,?_⟩;have q:=x.cell y c e;rw[zi5 ndP hp hu (by show scope.names.lookup y≠_;rw[k];decide)]at q;exact q
  · exact e0.hok.fresh (ya5 (x.above y c (PySem.mem_of_lookup h)))
  · unfold zcW
    show _=N.length;rw[yak,yaa,ya1];omega
theorem zrS {CX:CXT}{P:Program}{w:World}{K:Frag}{mg:Str→Option Value}{base:Heap}{k:Nat}{f:Addr}{name qual:Str}{params:Arguments}{body:List Stmt}{scope:Scope}{dV kV doc pm cdv ct oc:Value}{an od:Option Addr}
    {osl:Array (Option Value)} {N ps:List Str} {sp:Sp} (lk:K.lookup f=some ⟨oc,od,.func (fnOf name qual params body scope dV kV doc pm an cdv ct),osl⟩) (hcd:codeIn K cdv qual=true) (S:zap N ps scope)
    (len:∀ vs H Q E,sp vs H Q E→vs.length=ps.length)
    (hbody:∀(A:Around) (outer:List Env) (s:Shared) (H:Hp) (vs:List V) (Q:VK) (E:XK),Room k (A.deeper (envOfC qual scope s.heap.objs.size f cdv))→sp vs H Q E→
      ∃ t,PSs (cxOf CX P w K mg base N qual scope f cdv A outer s H E) body t∧t { nx:=fun _ H'=>Q .non H',rt:=Q } (zcW N vs) H) :
    FnOk P w K mg base CX (k+1) f (fnOf name qual params body scope dV kV doc pm an cdv ct) ps sp:=by
  refine ⟨len,fun A outer s H args us vs Q E hr e0 hb r hsp=>?_⟩;have hl:=len _ _ _ _ hsp;have KX:K.In s.heap:=e0.mod.kin.keeps fun b o e=>(e0.bs b o e).1;have lim:s.heap.NoLimit:=e0.mod.nolimit.keeps fun b o e=>(e0.bs b o e).1;have hkind:∀ y∈ps.zip us,scope.names.lookup y.1=some .local∨(scope.names.lookup y.1=some .cell∧((cellsFrom (s.heap.objs.size+1) scope.names []).lookup y.1).isSome=true):=fun ⟨n,v⟩ hy=>by
    rcases S.par n (ybR hy).1 with q | q
    · exact .inl q
    · exact .inr ⟨q,PySem.W.cellsFrom_some _ _ _ (.inl q)⟩
  refine codeAny_call_function hr.depth (KX _ _ lk) rfl S.co S.gen rfl (PySem.W.codeRec_of KX hcd) (hb _ _ _ _ ?_);refine wpAny_newFunctionEnv_cells S.kind hkind fun env he s1 x=>?_;subst he;refine ⟨lim.keeps x.toInCall.keep,codeAny_func ?_⟩;obtain ⟨t,ht,hq⟩:=hbody A outer s H vs Q E (hr.deeper _) hsp;have I:Inv (cxOf CX P w K mg base N qual scope f cdv A outer s H E) [] (zcW N vs) H s1:=zng S hr.hd e0 hl r x;refine wpAny_mono (ht [] s1 (zcW N vs) H _ I hq) (fun fl s' hs=>?_) fun e s' hs=>hs;have fin:∀{σ':St} {H':Hp} {v:V} {u:Value},Inv (cxOf CX P w K mg base N qual scope f cdv A outer s H E) [] σ' H' s'→RelV v u→Q v H'→CE outer P w H s Q u s':=
    fun {σ' H' v u} J rv q=>⟨v,H',J.os,J.bare,J.base,J.hok,rv,q⟩
  cases fl with
  | ret u=>
    obtain ⟨v,σ',H',J,rv,q⟩:=hs;exact fin J rv q
  | next=>
    obtain ⟨σ',H',J,q⟩:=hs;exact fin (v:=V.non) (u:=Value.none) J rfl q
  | brk=>
    obtain ⟨_,_,_,q⟩:=hs;exact False.elim q
  | cont=>
    obtain ⟨_,_,_,q⟩:=hs;exact False.elim q
end L2
namespace L2
open PySem PySem.Spec PyProof.Rows
section
variable {X:Cx}{x:Str}{p pos:Pos}{e:Expr}{es:List Expr}{t:TA}{id T:String}{r:List V→Hp→VK→Prop}
def tCB (r:List V→Hp→VK→Prop)(t:TA):TE:=fun σ H Q=>t σ H fun vs H1=>r vs H1 Q
theorem zau (hc:ze8 X (.builtin id) r)(hg:Gl X x)(hm:X.mg x=none)(hv:bootBuiltins x=some (.builtin id))(ha:PA X (e::es) t)(hn:x ≠ "__name__":=by decide)(hdb:(x == ("__debug__" : Str))=false:=by decide)
    (he:starEach (e::es) X.env=(false,eval e X.env)::starEach es X.env:=by rfl) (hpl:(backTo pos (starEach es X.env)).any (·.1)=false:=by rfl):PE X (.Call (.Name x p) (e::es) [] pos) (tCB r t):=by
  intro pins s σ H Q I h;refine wpAny_Call_Name_kw (zft I hg hm hv ?_ hn hdb);exact PyProof.Rows.callWith_builtin1 (thn (ha pos pins s σ H _ I h) fun us s1 zq0=>(by obtain ⟨vs,H1,I1,r1,q1⟩:=zq0;exact hc pins s1 σ H1 vs us Q I1 r1 q1)) he hpl
theorem zbI (hc:ze8 X (.type T) r)(hg:Gl X x)(hm:X.mg x=none)(hv:bootBuiltins x=some (.type T))(ha:PA X (e::es) t)(hn:x ≠ "__name__":=by decide)(hdb:(x == ("__debug__" : Str))=false:=by decide)
    (he:starEach (e::es) X.env=(false,eval e X.env)::starEach es X.env:=by rfl) (hpl:(backTo pos (starEach es X.env)).any (·.1)=false:=by rfl):PE X (.Call (.Name x p) (e::es) [] pos) (tCB r t):=by
  intro pins s σ H Q I h;refine wpAny_Call_Name_kw (zft I hg hm hv ?_ hn hdb);exact PyProof.Rows.callWith_type1 (thn (ha pos pins s σ H _ I h) fun us s1 zq0=>(by obtain ⟨vs,H1,I1,r1,q1⟩:=zq0;exact hc pins s1 σ H1 vs us Q I1 r1 q1)) he hpl
end
end L2
namespace HT
open PySem PyProof.Rows
section
variable {prog:Program}{w:World}{A:Around}{E:Value→Shared→Prop}{s:Shared}
def sIx (n d:Nat):Option Int→Nat
  | none=>d
  | some v=>if v < 0 then (v+(n:Int)).toNat else min v.toNat n
theorem zgc (n d k:Nat):sIx n d (some (k:Int))=min k n:=by
  show (if (k:Int) < 0 then ((k:Int)+(n:Int)).toNat else min (k:Int).toNat n)=min k n
  rw[if_neg (by omega),ya7]
end
end HT
namespace L2
open PySem PySem.Spec PyProof.Rows
abbrev TO:=St→Hp→(Option Int→Hp→Prop)→Prop
def PO (X:Cx)(e:Option Expr)(t:TO):Prop:=
  ∀(pins:List (Addr×Obj)) (s:Shared) (σ:St) (H:Hp) (Q:Option Int→Hp→Prop),Inv X pins σ H s→t σ H Q→
    wpAny (model X.prog X.w) X.A (evalPart e X.env) (fun u s'=>∃ o H',Inv X pins σ H' s'∧IsPart u o∧Q o H') X.xe s
def zpR:TO:=fun _ H Q=>Q none H
def zr8 (t:TE):TO:=fun σ H Q=>t σ H fun x H1=>∃ i,x=.int i∧Q (some i) H1
section
variable {X:Cx}{e:Expr}{te:TE}{lo hi:Option Expr}{tl th:TO}{pos p2:Pos}
theorem zcX:PO X none zpR:=by
  intro pins s σ H Q I h;rw[evalPart_none];exact wpAny_pure ⟨none,H,I,.none,h⟩
theorem zb3 (h:PE X e te):PO X (some e) (zr8 te):=by
  intro pins s σ H Q I hw;rw[evalPart_some];refine thn (h pins s σ H _ I hw) fun u s1 zq0=>?_;obtain ⟨x,H1,I1,r1,q1⟩:=zq0;obtain ⟨i,rfl,q⟩:=q1;obtain ⟨t,rfl⟩:=r1;exact ⟨some i,H1,I1,.int i t,q⟩
def SlR (X:Cx)(r:V→Option Int→Option Int→Hp→VK→Prop):Prop:=
  ∀(pins:List (Addr×Obj)) (s:Shared) (σ:St) (H:Hp) (x:V) (v vl vu:Value) (lo hi:Option Int) (sl:Addr) (Q:VK),Inv X pins σ H s→RelV x v→s.heap.IsSliceOf sl vl vu .none→IsPart vl lo→IsPart vu hi→r x lo hi H Q→
    ∃ T id,typeLookup (.type T) "__getitem__" = pure (some (.builtin id))∧s.TypeIs v T∧wpAny (model X.prog X.w) X.A (getItem v (.ref sl)) (EP X pins σ Q) X.xe s
def tSl (r:V→Option Int→Option Int→Hp→VK→Prop)(te:TE)(tl th:TO):TE:=fun σ H Q=>te σ H fun x H1=>tl σ H1 fun l H2=>th σ H2 fun u H3=>r x l u H3 Q
theorem zbR {r:V→Option Int→Option Int→Hp→VK→Prop}(hr:SlR X r)(he:PE X e te)(hl:PO X lo tl)(hu:PO X hi th):PE X (.Subscript e (.Slice lo hi none p2) pos) (tSl r te tl th):=by
  intro pins s σ H Q I h;refine Subscript_ (thn (he pins s σ H _ I h) fun v s1 zq0=>?_);obtain ⟨x,H1,I1,r1,q1⟩:=zq0;refine wpAny_Slice (thn (hl pins s1 σ H1 _ I1 q1) fun vl s2 zq0=>?_);obtain ⟨l,H2,I2,pl,q2⟩:=zq0;refine thn (hu pins s2 σ H2 _ I2 q2) fun vu s3 zq1=>?_;obtain ⟨u,H3,I3,pu,q3⟩:=zq1;rw[evalPart_none];refine wpAny_pure ?_;have I4:Inv X pins σ H3 { s3 with heap:=s3.heap.push { cls:=.type "slice",data:=.fields #[vl,vu,.none] } }:=I3.kept (t':=s3.toks) fun b ob q=>yam _ q;obtain ⟨T,id,hT,ht,hg⟩:=hr pins { s3 with heap:=s3.heap.push { cls:=.type "slice",data:=.fields #[vl,vu,.none] } } σ H3 x v vl vu l u s3.heap.objs.size Q I4 r1 (Heap.IsSliceOf.new ..) pl pu q3;show wpAny (model X.prog X.w) X.A (subscriptTail e (.Slice lo hi none p2) v (.ref s3.heap.objs.size)) (EP X pins σ Q) X.xe { s3 with heap:=s3.heap.push { cls:=.type "slice",data:=.fields #[vl,vu,.none] } };exact tail_any (ops:=[.ref s3.heap.objs.size,v]) ht hT hg (by with_unfolding_all rfl)
def cutV (xs:List V)(lo hi:Option Int):List V:=(xs.drop (HT.sIx xs.length 0 lo)).take (HT.sIx xs.length xs.length hi - HT.sIx xs.length 0 lo)
theorem zjI (xs:List V)(lo hi:Option Int):(cutV xs lo hi).length≤xs.length:=by
  unfold cutV;rw[yao,yaY];omega
end
end L2
namespace L2
open PySem PySem.Spec PyProof.Rows
def ixN (n:Nat)(i:Int):Option Nat:=if 0≤i then (if i < n then some i.toNat else none) else if -(n:Int)≤i then some (i+n).toNat else none
def atI {α:Type}(xs:List α)(i:Int):Option α:=(ixN xs.length i).bind fun j=>xs[j]?
theorem znd {n:Nat}{i:Int}{j:Nat}(h:ixN n i=some j):seqIndex? i n=some j∧j < n∧-(n:Int)≤i∧i < n:=by
  unfold ixN at h;by_cases h0:0≤i
  · rw[if_pos h0]at h
    by_cases h1:i < n
    · rw[if_pos h1]at h
      have e:i.toNat=j:=yae h;exact ⟨by rw[seqIndex_of h0 h1,e],by omega,by omega,h1⟩
    · rw[if_neg h1]at h;cases h
  · rw[if_neg h0]at h
    by_cases h1:-(n:Int)≤i
    · rw[if_pos h1]at h
      have e:(i+n).toNat=j:=yae h;exact ⟨by rw[seqIndex_neg (by omega) h1,e],by omega,h1,by omega⟩
    · rw[if_neg h1]at h;cases h
theorem znP {α:Type}{xs:List α}{i:Int}{v:α}(h:atI xs i=some v):∃ j,seqIndex? i xs.length=some j∧xs[j]?=some v∧j < xs.length∧-(xs.length:Int)≤i∧i < xs.length:=by
  unfold atI at h;cases e:ixN xs.length i with
  | none=>rw[e]at h;cases h
  | some j=>
    rw[e]at h;obtain ⟨h1,h2,h3,h4⟩:=znd e;exact ⟨j,h1,h,h2,h3,h4⟩
theorem zaP {α:Type}{xs:List α}{j:Nat}{v:α}(h:xs[j]?=some v):atI xs (j:Int)=some v:=by
  have hj:j < xs.length:=(yah.mp h).1;have e:ixN xs.length (j:Int)=some j:=by
    unfold ixN;rw[if_pos (by omega),if_pos (by omega)];simp
  unfold atI;rw[e];exact h
def zqS (b:Expr):Prop:=∀ o i,subscripted b false o i=operate [o,i] (getItem o i)
def IxR (X:Cx)(r:R2):Prop:=
  ∀(value slice:Expr) (pins:List (Addr×Obj)) (s:Shared) (σ:St) (H:Hp) (x y:V) (v u:Value) (Q:VK),Inv X pins σ H s→RelV x v→RelV y u→r x y H Q→
    subscripted slice false v u=operate [v,u] (getItem v u)→wpAny (model X.prog X.w) X.A (subscriptTail value slice v u) (EP X pins σ Q) X.xe s
def MtR (X:Cx)(id:String)(r:V→List V→Hp→VK→Prop):Prop:=
  ∀(pins:List (Addr×Obj)) (s:Shared) (σ:St) (H:Hp) (x:V) (xs:List V) (v:Value) (us:List Value) (Q:VK),Inv X pins σ H s→RelV x v→Vals xs us→r x xs H Q→
    wpAny (model X.prog X.w) X.A (call (.builtin id) (v::us)) (EP X pins σ Q) X.xe s
section
variable {X:Cx}{a b:Expr}{ta tb:TE}{pos:Pos}
theorem zaq {r:R2}(hr:IxR X r)(ha:PE X a ta)(hb:PE X b tb)(hs:zqS b):PE X (.Subscript a b pos) (tOp r ta tb):=by
  intro pins s σ H Q I h;exact Subscript_ (binT ha hb I h fun v u s2 x y H2 I2 rx ry q=>hr a b pins s2 σ H2 x y v u Q I2 rx ry q (hs _ _))
def rIxL (K:Frag):R2:=fun x y H Q=>∃ p xs i v,x=.ref p∧y=.int i∧SqL K H p xs∧atI xs i=some v∧Q v H
def rIxT (K:Frag):R2:=fun x y H Q=>∃ p xs i v,x=.ref p∧y=.int i∧SqT K H p xs∧atI xs i=some v∧Q v H
theorem zax:IxR X (rIxL X.K):=by
  intro value slice pins s σ H x y v u Q I rx ry h hs;obtain ⟨p,xs,i,z,rfl,rfl,hq,he,q⟩:=h;cases rx
  obtain ⟨t,rfl⟩:=ry;obtain ⟨its,r,pl,hz⟩:=I.list hq;obtain ⟨j,h1,h2,h3,h4,h5⟩:=znP he;obtain ⟨w,ew,rw'⟩:=r.get h2;have hl:=r.length;have hn:=zkz;have fin:EP X pins σ Q w s:=⟨z,H,I,rw',q⟩;by_cases h0:0≤i
  · have hj:i.toNat=j:=by
      rw[seqIndex_of h0 h5]at h1;exact yae h1
    exact item_listR pl.isList h0 (by omega) (by rw[hj];simpa using ew) fin hs
  · have hj:(i+(its.toArray.size:Int)).toNat=j:=by
      rw[seqIndex_neg (by omega) h4]at h1;rw[yaz,← hl];exact yae h1
    exact subscriptTail_builtinR (x:=w) pl.isList.typeIs slot_list_getitem.lookup
      (wpAny_getItem_list_neg (Q:=fun r s'=>r=w∧EP X pins σ Q r s') pl.isList (by omega) (by rw[yaz] <;> omega) (by omega) (by rw[hj];simpa using ew) ⟨rfl,fin⟩) hs
theorem zaF:IxR X (rIxT X.K):=by
  intro value slice pins s σ H x y v u Q I rx ry h hs;obtain ⟨p,xs,i,z,rfl,rfl,hq,he,q⟩:=h;cases rx
  obtain ⟨t,rfl⟩:=ry;obtain ⟨its,r,pl,hz⟩:=I.tuple hq;obtain ⟨j,h1,h2,h3,h4,h5⟩:=znP he;obtain ⟨w,ew,rw'⟩:=r.get h2;have hl:=r.length;have hn:=zkz;have fin:EP X pins σ Q w s:=⟨z,H,I,rw',q⟩;exact subscriptTail_builtinR (x:=w) pl.typeIs slot_tuple_getitem.lookup
    (getItem_tuple (j:=j) (Q:=fun r s'=>r=w∧EP X pins σ Q r s') pl (by omega) (by omega) (by rw[yaz,← hl];exact h1) (by simpa using ew) ⟨rfl,fin⟩) hs
theorem zll (its:List Value)(n j:Nat)(u:Value):Obj.mapSeq (·.setIfInBounds j u) { cls:=.type "list",data:=.seq its.toArray n }={ cls:=.type "list",data:=.seq (its.set j u).toArray n }:=by
  simp[Obj.mapSeq]
theorem Inv.lst {pins:List (Addr×Obj)}{σ:St}{H:Hp}{s:Shared}{p:Addr}{xs:List V}(I:Inv X pins σ H s)(h:H p=some (.lst xs)) :
    ∃(its:List Value) (n:Nat),Vals xs its∧s.heap.get? p=some { cls:=.type "list",data:=.seq its.toArray n }∧xs.length≤sizeLine:=by
  obtain ⟨z,its,n,r,e⟩:=I.hok p _ h;exact ⟨its,n,r,e,z⟩
theorem Inv.lstUpd {pins:List (Addr×Obj)}{σ:St}{H:Hp}{s:Shared}{p:Addr}{xs ys:List V}{its its':List Value}{n n':Nat}{f:Obj→Obj}(I:Inv X pins σ H s)(h:H p=some (.lst xs))
    (ho:s.heap.get? p=some { cls:=.type "list",data:=.seq its.toArray n }) (hf:f { cls:=.type "list",data:=.seq its.toArray n }={ cls:=.type "list",data:=.seq its'.toArray n' }) (r:Vals ys its') (hz:ys.length≤sizeLine) (t:Nat) :
    Inv X pins σ (upd H p (.lst ys)) { s with heap:=s.heap.update p f,toks:=t }:=by
  have e:(s.heap.update p f).get? p=some { cls:=.type "list",data:=.seq its'.toArray n' }:=by
    rw[Heap.get?_update_self f ho (by rw[hf] <;> rfl),hf]
  refine I.write (x:=p) (e:=p) (by rw[h];trivial) (.inl rfl) (fun b u hb q=>(ybl _ _ (Ne.symm hb)).trans q) ⟨_,e⟩ ?_;exact ⟨hz,its',n',r,e⟩
def zsg:V→V→V→Hp→(Hp→Prop)→Prop:=fun o i v H Q=>∃ p xs k j,o=.ref p∧i=.int k∧H p=some (.lst xs)∧ixN xs.length k=some j∧Q (upd H p (.lst (xs.set j v)))
theorem zkf:PSet X zsg:=by
  intro pins s σ H o i v ov iv u Q I ro ri rv h;obtain ⟨p,xs,k,j,rfl,rfl,hp,hj,q⟩:=h;cases ro
  obtain ⟨t,rfl⟩:=ri;obtain ⟨its,n,r,ho,hz⟩:=I.lst hp;obtain ⟨h1,h2,h3,h4⟩:=znd hj;have hl:=r.length;have hn:=zkz;have I':Inv X pins σ (upd H p (.lst (xs.set j v))) { s with heap:=s.heap.update p (Obj.mapSeq (·.setIfInBounds j u)) }:=
    I.lstUpd hp ho (zll its n j u) (r.set rv j) (by rw[List.length_set];exact hz) s.toks
  by_cases h0:0≤k
  · have hk:k.toNat=j:=by
      rw[seqIndex_of h0 h4]at h1;exact yae h1
    exact PySem.W.ki_setAt ho h0 (by omega) (by rw[yaz,← hl];exact h4) (by rw[hk];exact ⟨_,I',q⟩)
  · have hk:(k+(its.toArray.size:Int)).toNat=j:=by
      rw[seqIndex_neg (by omega) h3]at h1;rw[yaz,← hl];exact yae h1
    exact PySem.W.ki_setBack ho (by omega) (by rw[yaz,← hl];exact h3) (by omega) (by rw[hk];exact ⟨_,I',q⟩)
theorem zin (lo hi:Option Int)(n:Nat):(sliceBounds lo hi none n).1=((HT.sIx n 0 lo:Nat):Int)∧(sliceBounds lo hi none n).2.1=((HT.sIx n n hi:Nat):Int)∧(sliceBounds lo hi none n).2.2=1:=by
  refine ⟨?_,?_,rfl⟩
  · cases lo with
    | none=>simp[sliceBounds,HT.sIx]
    | some i=>
      simp only[sliceBounds,HT.sIx,Option.getD_none,show (1:Int) > 0 by decide,if_true];by_cases h:i < 0
      · simp only[h,if_true] <;> omega
      · simp only[h,if_false] <;> omega
  · cases hi with
    | none=>simp[sliceBounds,HT.sIx]
    | some i=>
      simp only[sliceBounds,HT.sIx,Option.getD_none,show (1:Int) > 0 by decide,if_true];by_cases h:i < 0
      · simp only[h,if_true] <;> omega
      · simp only[h,if_false] <;> omega
theorem zhv (its:List Value)(lo hi:Option Int):slicePick its.toArray lo hi none=((its.drop (HT.sIx its.length 0 lo)).take (HT.sIx its.length its.length hi - HT.sIx its.length 0 lo)).toArray:=by
  obtain ⟨h1,h2,h3⟩:=zin lo hi its.toArray.size;unfold slicePick;rw[h1,h2,h3];simp only[sliceRange_one,pick_run,yaz] <;> rfl
def rSlL (K:Frag):V→Option Int→Option Int→Hp→VK→Prop:=fun x lo hi H Q=>∃ a xs,x=.ref a∧SqL K H a xs∧∀ p,H p=none→Q (.ref p) (upd H p (.lst (cutV xs lo hi)))
theorem zco:SlR X (rSlL X.K):=by
  intro pins s σ H x v vl vu lo hi sl Q I rx hs pl pu h;obtain ⟨a,xs,rfl,hx,q⟩:=h;cases rx
  obtain ⟨its,r,ht,hz⟩:=I.list hx;have hlen:=r.length;refine ⟨"list",_,slot_list_getitem.lookup,ht.isList.typeIs,?_⟩;refine wpAny_getItem_list_slice ht.isList hs pl pu .none (by simp) ?_ (by rw[yaz] <;> omega)
  rw[zhv,← hlen];refine ⟨.ref s.heap.objs.size,_,I.laid (t':=s.toks) (o:=.lst (cutV xs lo hi)) (fun b ob q=>yam _ q) (yab _) ?_,rfl,q _ (I.hok.fresh (yab _))⟩;exact ⟨yat (zjI xs lo hi) hz,_,0,(r.drop (HT.sIx xs.length 0 lo)).take (HT.sIx xs.length xs.length hi - HT.sIx xs.length 0 lo),yaD _ rfl⟩
def zgS:V→Bool
  | .non=>true
  | .bl _=>true
  | .int _=>true
  | .str _=>true
  | _=>false
def eqV:V→V→Bool
  | .non,.non=>true
  | .bl a,.bl b=>a == b
  | .bl a,.int b=>(if a then 1 else 0) == b
  | .int a,.bl b=>a == (if b then 1 else 0)
  | .int a,.int b=>a == b
  | .str a,.str b=>a == b
  | _,_=>false
theorem zrX {A:Around}{s:Shared}{y x:V}{u v:Value}(ry:RelV y u)(rx:RelV x v)(fy:zgS y=true)(fx:zgS x=true):SeqAt.EqAt A s u v (eqV y x):=by
  cases y with
  | non=>
    cases ry
    cases x with
    | non=>cases rx;exact SeqAt.EqAt.same _
    | bl b=>cases rx;exact SeqAt.EqAt.none_bool b
    | int b=>obtain ⟨t,rfl⟩:=rx;exact SeqAt.EqAt.none_int b t
    | str b=>obtain ⟨t,rfl⟩:=rx;exact SeqAt.EqAt.none_str b t
    | _=>exact absurd (show false=true from fx) yay
  | bl a=>
    cases ry
    cases x with
    | non=>cases rx;exact SeqAt.EqAt.bool_none a
    | bl b=>cases rx;exact SeqAt.EqAt.bool_bool a b
    | int b=>obtain ⟨t,rfl⟩:=rx;exact SeqAt.EqAt.bool_int a b t
    | str b=>obtain ⟨t,rfl⟩:=rx;exact SeqAt.EqAt.bool_str a b t
    | _=>exact absurd (show false=true from fx) yay
  | int a=>
    obtain ⟨t',rfl⟩:=ry;cases x with
    | non=>cases rx;exact SeqAt.EqAt.int_none a t'
    | bl b=>cases rx;exact SeqAt.EqAt.int_bool a t' b
    | int b=>obtain ⟨t,rfl⟩:=rx;exact SeqAt.EqAt.int_int a t' b t
    | str b=>obtain ⟨t,rfl⟩:=rx;exact SeqAt.EqAt.int_str a t' b t
    | _=>exact absurd (show false=true from fx) yay
  | str a=>
    obtain ⟨t',rfl⟩:=ry;cases x with
    | non=>cases rx;exact SeqAt.EqAt.str_none a t'
    | bl b=>cases rx;exact SeqAt.EqAt.str_bool a t' b
    | int b=>obtain ⟨t,rfl⟩:=rx;exact SeqAt.EqAt.str_int a t' b t
    | str b=>obtain ⟨t,rfl⟩:=rx;exact SeqAt.EqAt.str_str a t' b t
    | _=>exact absurd (show false=true from fx) yay
  | _=>exact absurd (show false=true from fy) yay
def eqU (x:V)(u:Value):Bool:=match u with
  | .none=>eqV .non x
  | .bool b=>eqV (.bl b) x
  | .int i _=>eqV (.int i) x
  | .str z _=>eqV (.str z) x
  | _=>false
theorem zpD {x y:V}{u:Value}(r:RelV y u)(f:zgS y=true):eqU x u=eqV y x:=by
  cases y with
  | non=>cases r;rfl
  | bl b=>cases r;rfl
  | int i=>obtain ⟨t,rfl⟩:=r;rfl
  | str z=>obtain ⟨t,rfl⟩:=r;rfl
  | _=>exact absurd (show false=true from f) yay
theorem zgN {x:V}:∀{xs:List V} {us:List Value},Vals xs us→xs.all zgS=true→us.any (eqU x)=xs.any fun y=>eqV y x
  | _,_,.nil,_=>rfl
  | y::xs,u::us,.cons r t,f=>by
    rw[ybS,ybm]at f;rw[ybc,ybc,zpD r f.1,zgN t f.2]
theorem zeX {A:Around}{s:Shared}{x:V}{v:Value}(rx:RelV x v)(fx:zgS x=true):∀{xs:List V} {us:List Value},Vals xs us→xs.all zgS=true→∀ u∈us,SeqAt.EqAt A s u v (eqU x u)
  | _,_,.nil,_=>fun u hu=>by cases hu
  | y::xs,u::us,.cons r t,f=>fun u' hu=>by
    rw[ybS,ybm]at f;rcases yaj.mp hu with rfl | hu
    · rw[zpD r f.1];exact zrX r rx f.1 fx
    · exact zeX rx fx t f.2 u' hu
def inV (x:V)(xs:List V):Bool:=xs.any fun y=>eqV y x
def rIn (K:Frag)(neg:Bool):R2:=fun x y H Q=>∃ p xs,y=.ref p∧(SqL K H p xs∨SqT K H p xs)∧zgS x=true∧xs.all zgS=true∧Q (.bl (if neg then !inV x xs else inV x xs)) H
theorem zmw:OpR X (compareOp .In) (rIn X.K false):=by
  intro pins s σ H x y v u Q I rx ry h;obtain ⟨p,xs,rfl,hq,fx,fs,q⟩:=h;cases ry
  rcases hq with hq | hq
  · obtain ⟨its,r,pl,hz⟩:=I.list hq
    refine SeqAt.in_listAt (eqU x) pl.isList (fun w hw=>zeX rx fx r fs w (by simpa using hw)) ⟨.bl _,H,I,rfl,?_⟩;rw[show its.toArray.any (eqU x)=its.any (eqU x) by simp,zgN r fs];exact q
  · obtain ⟨its,r,pl,hz⟩:=I.tuple hq
    refine SeqAt.in_tupleAt (eqU x) pl (fun w hw=>zeX rx fx r fs w (by simpa using hw)) ⟨.bl _,H,I,rfl,?_⟩;rw[show its.toArray.any (eqU x)=its.any (eqU x) by simp,zgN r fs];exact q
theorem zfo:OpR X (compareOp .NotIn) (rIn X.K true):=by
  intro pins s σ H x y v u Q I rx ry h;obtain ⟨p,xs,rfl,hq,fx,fs,q⟩:=h;cases ry
  rcases hq with hq | hq
  · obtain ⟨its,r,pl,hz⟩:=I.list hq
    refine SeqAt.notIn_listAt (eqU x) pl.isList (fun w hw=>zeX rx fx r fs w (by simpa using hw)) ⟨.bl _,H,I,rfl,?_⟩;rw[show its.toArray.any (eqU x)=its.any (eqU x) by simp,zgN r fs];exact q
  · obtain ⟨its,r,pl,hz⟩:=I.tuple hq
    refine SeqAt.notIn_tupleAt (eqU x) pl (fun w hw=>zeX rx fx r fs w (by simpa using hw)) ⟨.bl _,H,I,rfl,?_⟩;rw[show its.toArray.any (eqU x)=its.any (eqU x) by simp,zgN r fs];exact q
theorem zar:ze8 X (.builtin "len") (fun xs H Q=>∃ p ys,xs=[.ref p]∧(SqL X.K H p ys∨SqT X.K H p ys)∧Q (.int ys.length) H):=by
  intro pins s σ H xs us Q I r h;obtain ⟨p,ys,rfl,hq,q⟩:=h;obtain ⟨u,rfl,rx⟩:=zhr r;cases rx
  have hn:=zkz;rcases hq with hq | hq
  · obtain ⟨its,r',pl,hz⟩:=I.list hq
    have hlen:=r'.length;exact Calls.call_len_list pl.isList (by simp only[yaz] <;> omega) ⟨.int ys.length,H,I.tok _,⟨s.toks+1,by rw[yaz,hlen]⟩,q⟩
  · obtain ⟨its,r',pl,hz⟩:=I.tuple hq
    have hlen:=r'.length;exact len_tuple pl (by simp only[yaz] <;> omega) ⟨.int ys.length,H,I.tok _,⟨s.toks+1,by rw[yaz,hlen]⟩,q⟩
theorem zcm:ze8 X (.type "list") (fun xs H Q=>∃ p ys,xs=[.ref p]∧(SqL X.K H p ys∨SqT X.K H p ys)∧∀ l,H l=none→Q (.ref l) (upd H l (.lst ys))):=by
  intro pins s σ H xs us Q I r h;obtain ⟨p,ys,rfl,hq,q⟩:=h;obtain ⟨u,rfl,rx⟩:=zhr r;cases rx
  have fin:∀(its:List Value),Vals ys its→ys.length≤sizeLine→∀(h':Heap) (c':Nat),(∀ b o',s.heap.get? b=some o'→h'.get? b=some o')→
      h'.get? s.heap.objs.size=some { cls:=.type "list",dict:=none,data:=.seq its.toArray c',slots:=#[] }→EP X pins σ Q (.ref s.heap.objs.size) { s with heap:=h' }:=fun its r' hz h' c' kp e=>
    ⟨.ref s.heap.objs.size,_,I.laid (t':=s.toks) kp (yab _) (show zbK X.prog X.w _ h' _ (.lst ys) from ⟨hz,its,c',r',e⟩),rfl,q _ (I.hok.fresh (yab _))⟩
  rcases hq with hq | hq
  · obtain ⟨its,r',pl,hz⟩:=I.list hq
    have hlen:=r'.length;obtain ⟨o,ho,hc,n,hd⟩:=pl.isList;exact call_list_seq p (.inl rfl) ho hc hd (fun h' c' kp e=>fin its r' hz h' c' kp e) (by simp only[yaz] <;> omega)
  · obtain ⟨its,r',pl,hz⟩:=I.tuple hq
    have hlen:=r'.length;obtain ⟨o,ho,hc,n,hd⟩:=pl;exact call_list_seq p (.inr rfl) ho hc hd (fun h' c' kp e=>fin its r' hz h' c' kp e) (by simp only[yaz] <;> omega)
theorem zdm:ze8 X (.type "tuple") (fun xs H Q=>∃ p ys,xs=[.ref p]∧((SqL X.K H p ys∧∀ l,H l=none→Q (.ref l) (upd H l (.tup ys)))∨(SqT X.K H p ys∧Q (.ref p) H))):=by
  intro pins s σ H xs us Q I r h;obtain ⟨p,ys,rfl,h⟩:=h;obtain ⟨u,rfl,rx⟩:=zhr r;cases rx
  rcases h with ⟨hq,q⟩ | ⟨hq,q⟩
  · obtain ⟨its,r',pl,hz⟩:=I.list hq
    have hlen:=r'.length;refine call_tuple_list pl.isList (fun h' kp=>?_) (by simp only[yaz] <;> omega)
    have I1:Inv X pins σ H { s with heap:=h' }:=I.kept (t':=s.toks) kp;have I2:Inv X pins σ (upd H h'.objs.size (.tup ys)) { s with heap:=h'.push { cls:=.type "tuple",data:=.seq its.toArray } }:=
      I1.laid (t':=s.toks) (fun b o e=>yam _ e) (yab _) (show zbK X.prog X.w _ _ _ (.tup ys) from ⟨hz,its,r',IsTup.new _ _⟩)
    exact ⟨.ref h'.objs.size,_,I2,rfl,q _ (I1.hok.fresh (yab _))⟩
  · obtain ⟨its,r',pl,hz⟩:=I.tuple hq
    exact call_tuple_same pl ⟨.ref p,H,I,rfl,q⟩
def tyV (K:Frag)(T:String)(x:V)(H:Hp):Prop:=match x with
  | .str _=>T = "str"
  | .int _=>T = "int"
  | .ref p=>(T = "list"∧∃ xs,SqL K H p xs)∨(T = "tuple"∧∃ o,K.lookup p=some o∧o.cls=.type "tuple"∧o.dict=none)∨
      (T = "dict"∧((∃ kvs,H p=some (.dK kvs))∨∃ kvs,H p=some (.dT kvs)))∨(T = "set"∧∃ S n,H p=some (.set S n))
  | _=>False
theorem zpe {pins:List (Addr×Obj)}{σ:St}{H:Hp}{s:Shared}{T:String}{x:V}{v:Value}(I:Inv X pins σ H s)(r:RelV x v)(ty:tyV X.K T x H) :
    s.TypeIs v T∧∀ a,v=.ref a→∃ ob,s.heap.get? a=some ob∧ob.dict=none:=by
  cases x with
  | str z=>
    obtain ⟨t,rfl⟩:=r;cases (show T = "str" from ty)
    exact ⟨typeIs_str s z t,fun _ e=>nomatch e⟩
  | int i=>
    obtain ⟨t,rfl⟩:=r;cases (show T = "int" from ty)
    exact ⟨typeIs_int s i t,fun _ e=>nomatch e⟩
  | ref p=>
    cases r
    rcases ty with ⟨rfl,xs,hq⟩ | ⟨rfl,o,hk,hc,hd⟩ | ⟨rfl,hk⟩ | ⟨rfl,S,n,hk⟩
    · obtain ⟨its,_,pl,_⟩:=I.list hq
      refine ⟨pl.isList.typeIs,fun a e=>?_⟩;cases e
      obtain ⟨o,n,e,c,hd,_⟩:=pl;exact ⟨o,e,hd⟩
    · refine ⟨⟨o,I.kIn p o hk,hc⟩,fun a e=>?_⟩
      cases e
      exact ⟨o,I.kIn _ o hk,hd⟩
    · have z:∃ o,s.heap.get? p=some o∧o.ExactDict:=by
        rcases hk with ⟨kvs,hk⟩ | ⟨kvs,hk⟩
        · obtain ⟨_,_,_,_,o,_,_,e,ex,_⟩:=I.hok p _ hk
          exact ⟨o,e,ex⟩
        · obtain ⟨_,_,_,_,o,_,_,e,ex,_⟩:=I.hok p _ hk
          exact ⟨o,e,ex⟩
      obtain ⟨o,e,ex⟩:=z;refine ⟨⟨o,e,ex.1⟩,fun a e2=>?_⟩;cases e2
      exact ⟨o,e,ex.2.1⟩
    · obtain ⟨o,_,_,_,e,ex,_⟩:=I.hok p _ hk
      refine ⟨⟨o,e,ex.1⟩,fun a e2=>?_⟩;cases e2
      exact ⟨o,e,ex.2.1⟩
  | _=>exact False.elim ty
def tBM0 (K:Frag)(T:String)(r:V→List V→Hp→VK→Prop)(to:TE):TE:=fun σ H Q=>to σ H fun x H1=>tyV K T x H1∧r x [] H1 Q
def tBM (K:Frag)(T:String)(r:V→List V→Hp→VK→Prop)(to:TE)(t:TA):TE:=fun σ H Q=>to σ H fun x H1=>tyV K T x H1∧t σ H1 fun xs H2=>r x xs H2 Q
variable {o e:Expr}{es:List Expr}{to:TE}{t:TA}{name:Str}{apos cpos:Pos}{T id:String}{r:V→List V→Hp→VK→Prop}
theorem zpt (pa:PlainAttrs T)(slot:Slot T name id)(hty:typeOf (.builtin id)=pure (.type "method_descriptor"))(hm:MtR X id r)(ho:PE X o to)
    (hbase:attributeBase o name X.env (eval o X.env)=eval o X.env:=by rfl) (hline:(apos.endLine == cpos.line)=true:=by rfl):PE X (.Call (.Attribute o name apos) [] [] cpos) (tBM0 X.K T r to):=by
  intro pins s σ H Q I h;refine wpAny_Call_method0_late hbase hline (thn (ho pins s σ H _ I h) fun v s1 zq0=>?_);obtain ⟨x,H1,I1,r1,ty,q1⟩:=zq0;obtain ⟨h1,h2⟩:=zpe I1 r1 ty;exact ⟨T,id,pa,slot,hty,h1,h2,Calls.callWith_builtin rfl (PySem.evalArgs_none (hm pins s1 σ H1 x [] v [] Q I1 r1 .nil q1))⟩
theorem zdz (pa:PlainAttrs T)(slot:Slot T name id)(hty:typeOf (.builtin id)=pure (.type "method_descriptor"))(hm:MtR X id r)(ho:PE X o to)(ha:PA X (e::es) t)
    (hbase:attributeBase o name X.env (eval o X.env)=eval o X.env:=by rfl)
    (hfew:((backTo cpos (starEach (e::es) X.env)).all (fun x=>!x.1) && (backToKw cpos (keywordEach [] X.env)).all (fun x=>x.1.isSome)
      && decide ((e::es).length+([]:List Keyword).length+(if ([]:List Keyword).isEmpty then 0 else 1) < 30))=true:=by rfl)
    (hline:(apos.endLine == cpos.line)=true:=by rfl) (hs:starEach (e::es) X.env=(false,eval e X.env)::starEach es X.env:=by rfl) (hplain:(backTo cpos (starEach es X.env)).any (·.1)=false:=by rfl) :
    PE X (.Call (.Attribute o name apos) (e::es) [] cpos) (tBM X.K T r to t):=by
  intro pins s σ H Q I h;refine wpAny_Call_method_late hbase hfew hline rfl (thn (ho pins s σ H _ I h) fun v s1 zq0=>?_);obtain ⟨x,H1,I1,r1,ty,q1⟩:=zq0;obtain ⟨h1,h2⟩:=zpe I1 r1 ty;refine ⟨T,id,pa,slot,hty,h1,h2,?_⟩;have hA:=ha cpos pins s1 σ H1 _ I1 q1;rw[hs]at hA ⊢;refine Calls.callWith_builtin (by show (false || (backTo cpos (starEach es X.env)).any (·.1))=false;rw[hplain] <;> rfl) (Calls.evalArgs_plain ?_)
  exact thn hA fun us s2 zq0=>(by obtain ⟨vs,H2,I2,r2,q2⟩:=zq0;exact hm pins s2 σ H2 x vs v us Q I2 r1 r2 q2)
end
end L2
namespace L2
open PySem PySem.Spec PyProof.Rows
def MtM (X:Cx)(id:String)(r:V→List V→Hp→VK→Prop):Prop:=
  ∀(pins:List (Addr×Obj)) (s:Shared) (σ:St) (H:Hp) (x:V) (xs:List V) (v:Value) (us:List Value) (Q:VK),Inv X pins σ H s→RelV x v→Vals xs us→r x xs H Q→
    wpAny (model X.prog X.w) X.A (call (.builtin id) (v::us)) (EP X pins σ Q) X.xe s
theorem Vals.one:∀{x:V} {us:List Value},Vals [x] us→∃ u,us=[u]∧RelV x u
  | _,_,.cons r .nil=>⟨_,rfl,r⟩
theorem Vals.zero:∀{us:List Value},Vals [] us→us=[]
  | _,.nil=>rfl
theorem Vals.dropLast {xs:List V}{us:List Value}(h:Vals xs us):Vals xs.dropLast us.dropLast:=by
  induction h with
  | nil=>exact .nil
  | cons r t ih=>
    cases t with
    | nil=>exact .nil
    | cons q t'=>exact .cons r ih
theorem zlx {α:Type}(l:List α):l.eraseIdx (l.length - 1)=l.dropLast:=by
  induction l with
  | nil=>rfl
  | cons a r ih=>
    cases r with
    | nil=>rfl
    | cons b r=>
      have e:(a::b::r).length - 1=((b::r).length - 1)+1:=by
        have h1:(a::b::r).length=r.length+2:=rfl;have h2:(b::r).length=r.length+1:=rfl;omega
      rw[e,List.eraseIdx_cons_succ,ih]
      all_goals rfl
section
variable {X:Cx}{pins:List (Addr×Obj)}{σ:St}{H:Hp}{s:Shared}{l b:Addr}{xs ys zs:List V}
theorem Inv.lset {its its':List Value}{n:Nat}{f:Array Value→Array Value}{t':Nat}(I:Inv X pins σ H s)(hH:H l=some (.lst xs))
    (e:s.heap.get? l=some { cls:=.type "list",data:=.seq its.toArray n }) (hf:f its.toArray=its'.toArray) (hv:Vals ys its') (hz:ys.length≤sizeLine) :
    Inv X pins σ (upd H l (.lst ys)) { s with heap:=s.heap.update l (Obj.mapSeq f),toks:=t' }:=by
  have q:=PySem.IsL.update e f;rw[hf]at q;refine I.write (x:=l) (e:=l) (by rw[hH];exact trivial) (.inl rfl) (fun b' u hb hu=>(ybl s.heap (Obj.mapSeq f) (Ne.symm hb)).trans hu) ⟨_,q⟩ ?_;exact ⟨hz,its',_,hv,q⟩
theorem Inv.lnew {its:List Value}{t':Nat}(I:Inv X pins σ H s)(hv:Vals ys its)(hz:ys.length≤sizeLine) :
    Inv X pins σ (upd H s.heap.objs.size (.lst ys)) { s with heap:=s.heap.push { cls:=.type "list",data:=.seq its.toArray },toks:=t' }:=
  I.laid (fun _ _ q=>yam _ q) (yab _) ⟨hz,its,0,hv,yaD _ rfl⟩
theorem Inv.fresh (I:Inv X pins σ H s):H s.heap.objs.size=none:=I.hok.fresh (yab _)
theorem Inv.lstM (I:Inv X pins σ H s)(hH:H l=some (.lst xs)):xs.length≤sizeLine∧∃(its:List Value) (n:Nat),Vals xs its∧xs.length=its.length∧s.heap.get? l=some { cls:=.type "list",data:=.seq its.toArray n }:=by
  obtain ⟨z,its,n,r,e⟩:=I.hok l _ hH;exact ⟨z,its,n,r,r.length,e⟩
theorem zoG {n:Nat}(h:n≤sizeLine):Builtin.List.listTooLong n=false:=by
  unfold Builtin.List.listTooLong;exact yai (by omega)
end
section
variable {X:Cx}
def zpZ:V→List V→Hp→VK→Prop:=fun x vs H Q=>∃ l xs y,x=.ref l∧vs=[y]∧H l=some (.lst xs)∧xs.length < sizeLine∧Q .non (upd H l (.lst (xs++[y])))
theorem zaN:MtM X "list.append" zpZ:=by
  intro pins s σ H x vs v us Q I rx rv h;obtain ⟨l,xs,y,rfl,rfl,hH,hz,q⟩:=h;cases rx
  obtain ⟨u,rfl,ru⟩:=rv.one;obtain ⟨z,its,n,r,hl,e⟩:=I.lstM hH;refine call_meets F.slot_list_append ⟨_,e,rfl⟩ F.entry_list_append (F.args_list_append_2 _ _) (PySem.list_append l its.toArray n u (by rw[yaz];omega)) ⟨e,?_⟩;refine ⟨.non,_,I.lset (its':=its++[u]) hH e (by simp) (r.append (.cons ru .nil)) ?_,rfl,q⟩;rw[yak,yaE];omega
def zpX:V→List V→Hp→VK→Prop:=fun x vs H Q=>∃ l b xs zs,x=.ref l∧vs=[.ref b]∧H l=some (.lst xs)∧H b=some (.lst zs)∧xs.length+zs.length≤sizeLine∧Q .non (upd H l (.lst (xs++zs)))
theorem zmL:MtM X "list.extend" zpX:=by
  intro pins s σ H x vs v us Q I rx rv h;obtain ⟨l,b,xs,zs,rfl,rfl,hH,hB,hz,q⟩:=h;cases rx
  obtain ⟨u,rfl,ru⟩:=rv.one;cases ru
  obtain ⟨z,its,n,r,hl,e⟩:=I.lstM hH;obtain ⟨z2,its2,n2,r2,hl2,e2⟩:=I.lstM hB;have hsz:its.toArray.size+its2.toArray.size≤sizeLine:=by rw[yaz,yaz];omega
  have hlong:¬ (!its.toArray.isEmpty && Builtin.List.listTooLong (its.toArray.size+its2.toArray.size))=true:=by
    rw[zoG hsz,ybx];exact yay
  refine call_meets F.slot_list_extend ⟨_,e,rfl⟩ F.entry_list_extend (F.args_list_extend_2 _ _)
    (AutoSeq1.list_extend_list_list_0 l its.toArray n b its2.toArray n2 hlong (by rw[yaz];omega) (by omega)) ⟨e,e2,?_⟩
  refine ⟨.non,_,I.lset (its':=its++its2) hH e (by simp) (r.append r2) ?_,rfl,q⟩;rw[yak];omega
def rPop:V→List V→Hp→VK→Prop:=fun x vs H Q=>∃ l xs y,x=.ref l∧vs=[]∧H l=some (.lst xs)∧xs[xs.length - 1]?=some y∧Q y (upd H l (.lst xs.dropLast))
theorem zrA:MtM X "list.pop" rPop:=by
  intro pins s σ H x vs v us Q I rx rv h;obtain ⟨l,xs,y,rfl,rfl,hH,hy,q⟩:=h;cases rx
  have hus:=rv.zero;subst hus;obtain ⟨z,its,n,r,hl,e⟩:=I.lstM hH;obtain ⟨u,hu,ru⟩:=r.get hy;have hy':its.toArray[its.toArray.size - 1]?=some u:=by
    show its.toArray[its.length - 1]?=some u;rw[← Array.getElem?_toList,← hl];exact hu
  refine call_meets F.slot_list_pop ⟨_,e,rfl⟩ F.entry_list_pop (F.args_list_pop_1 _) (MeetsSeq.list_pop_last l its.toArray n u hy' (by rw[yaz];omega)) ⟨e,?_⟩;refine ⟨y,_,I.lset (its':=its.dropLast) hH e ?_ r.dropLast ?_,ru,q⟩
  · show its.toArray.eraseIdxIfInBounds (its.toArray.size - 1)=its.dropLast.toArray
    rw[yaz,List.eraseIdxIfInBounds_toArray,zlx]
  · rw[List.length_dropLast]
    omega
def rCat:R2:=fun x y H Q=>∃ l b xs zs,x=.ref l∧y=.ref b∧H l=some (.lst xs)∧H b=some (.lst zs)∧xs.length+zs.length≤sizeLine∧∀ p,H p=none→Q (.ref p) (upd H p (.lst (xs++zs)))
theorem zix:OpR X (binaryOp .Add) rCat:=by
  intro pins s σ H x y v u Q I rx ry h;obtain ⟨l,b,xs,zs,rfl,rfl,hH,hB,hz,q⟩:=h;cases rx
  cases ry
  obtain ⟨z,its,n,r,hl,e⟩:=I.lstM hH;obtain ⟨z2,its2,n2,r2,hl2,e2⟩:=I.lstM hB;refine PySem.P.add_list e e2 ?_ (by rw[yaz,yaz];omega);have ea:its.toArray++its2.toArray=(its++its2).toArray:=by simp
  rw[ea];exact ⟨.ref _,_,I.lnew (t':=s.toks) (r.append r2) (by rw[yak];omega),rfl,q _ I.fresh⟩
end
end L2
namespace L2
open PySem PySem.Spec PyProof.Rows
section
variable {κ:Type}[DecidableEq κ]
def valV (kvs:List (κ×V))(k:κ):Option V:=(kvs.find? fun kv=>decide (kv.1=k)).map (·.2)
def putK (kvs:List (κ×V))(k:κ)(v:V):List (κ×V):=
  if (kvs.any fun kv=>decide (kv.1=k))=true then kvs.map (fun kv=>if kv.1=k then (kv.1,v) else kv) else kvs++[(k,v)]
theorem za6 {p:κ×V}{r:List (κ×V)}{k:κ}(e:p.1=k):valV (p::r) k=some p.2:=by simp[valV,yby,e]
theorem zaQ {p:κ×V}{r:List (κ×V)}{k:κ}(e:¬ p.1=k):valV (p::r) k=valV r k:=by simp[valV,yby,e]
theorem zev (k:κ):∀ kvs:List (κ×V),(kvs.any fun kv=>decide (kv.1=k))=(valV kvs k).isSome
  | []=>rfl
  | p::r=>by
    rw[ybc];by_cases e:p.1=k
    · simp only[za6 e,yag e,Bool.true_or,Option.isSome_some]
    · rw[zaQ e,yai e,yb1];exact zev k r
theorem zjU (k j:κ)(y:V):∀ kvs:List (κ×V),valV (kvs.map fun kv=>if kv.1=k then (kv.1,y) else kv) j=(valV kvs j).map fun x=>if j=k then y else x
  | []=>rfl
  | p::r=>by
    have ih:=zjU k j y r;rw[yaw];by_cases h:p.1=k
    · rw[if_pos h]
      by_cases e:p.1=j
      · rw[za6 (p:=(p.1,y)) e,za6 e,ybd,if_pos (e.symm.trans h)]
      · rw[zaQ (p:=(p.1,y)) e,zaQ e,ih]
    · rw[if_neg h]
      by_cases e:p.1=j
      · rw[za6 (p:=p) e,za6 e,ybd,if_neg (fun z=>h (e.trans z))]
      · rw[zaQ (p:=p) e,zaQ e,ih]
theorem zia (k j:κ)(y:V):∀ kvs:List (κ×V),valV kvs k=none→valV (kvs++[(k,y)]) j=if j=k then some y else valV kvs j
  | [],_=>by
    by_cases e:k=j
    · rw[if_pos e.symm];exact za6 (p:=(k,y)) e
    · rw[if_neg (fun z=>e z.symm)];exact zaQ (p:=(k,y)) e
  | p::r,hn=>by
    rw[List.cons_append];have hk:¬ p.1=k:=fun z=>by rw[za6 z]at hn;cases hn
    rw[zaQ hk]at hn;have ih:=zia k j y r hn;by_cases e:p.1=j
    · rw[za6 e,za6 e,if_neg (fun z=>hk (e.trans z))]
    · rw[zaQ e,zaQ e,ih]
theorem znW (kvs:List (κ×V))(k j:κ)(y:V):valV (putK kvs k y) j=if j=k then some y else valV kvs j:=by
  unfold putK;by_cases a:(kvs.any fun kv=>decide (kv.1=k))=true
  · rw[if_pos a,zjU]
    rw[zev]at a;by_cases e:j=k
    · obtain ⟨x,hx⟩:=yb0.mp a
      rw[if_pos e,e,hx,ybd,if_pos rfl]
    · rw[if_neg e]
      cases valV kvs j with
      | none=>rfl
      | some x=>rw[ybd,if_neg e]
  · rw[if_neg a]
    refine zia k j y kvs ?_;rw[zev]at a;cases q:valV kvs k with
    | none=>rfl
    | some x=>rw[q]at a;exact (a rfl).elim
theorem zdh (kvs:List (κ×V))(k:κ)(v:V):(putK kvs k v).length≤kvs.length+1:=by
  unfold putK;split
  · rw[yaa];omega
  · rw[yak,yaI,ybn];omega
theorem zdc {kvs:List (κ×V)}{k:κ}(v:V)(h:valV kvs k=none):putK kvs k v=kvs++[(k,v)]:=by
  unfold putK;rw[zev,h];exact if_neg (by decide)
theorem RelO.isSome_eq {o:Option V}{u:Option Value}(r:RelO o u):o.isSome=u.isSome:=by
  cases o with
  | none=>cases u with
    | none=>rfl
    | some _=>exact (show False from r).elim
  | some _=>cases u with
    | none=>exact (show False from r).elim
    | some _=>rfl
theorem RelO.getD {o:Option V}{u:Option Value}{d:V}{d':Value}(r:RelO o u)(rd:RelV d d'):RelV (o.getD d) (u.getD d'):=by
  cases o with
  | none=>cases u with
    | none=>exact rd
    | some _=>exact (show False from r).elim
  | some _=>cases u with
    | none=>exact (show False from r).elim
    | some _=>exact r
theorem KV.val {kvs:List (κ×V)}{vs:List (κ×Value)}(r:KV kvs vs)(k:κ):RelO (valV kvs k) (valueAt vs k):=by
  unfold KV at r
  induction r with
  | nil=>exact True.intro
  | @cons p q ps qs h t ih=>
    obtain ⟨h1,h2⟩:=h;by_cases e:p.1=k
    · have e':q.1=k:=h1.symm.trans e
      have b:valueAt (q::qs) k=some q.2:=by simp[valueAt,yby,e']
      rw[za6 e,b];exact h2
    · have e':¬ q.1=k:=fun z=>e (h1.trans z)
      have b:valueAt (q::qs) k=valueAt qs k:=by simp[valueAt,yby,e']
      rw[zaQ e,b];exact ih
theorem KV.any {kvs:List (κ×V)}{vs:List (κ×Value)}(r:KV kvs vs)(k:κ):(kvs.any fun kv=>decide (kv.1=k))=vs.any fun kv=>decide (kv.1=k):=by
  unfold KV at r
  induction r with
  | nil=>rfl
  | cons h t ih=>rw[ybc,ybc,ih,h.1]
theorem KV.repl {kvs:List (κ×V)}{vs:List (κ×Value)}(r:KV kvs vs)(k:κ){y:V}{u:Value}(ry:RelV y u) :
    KV (kvs.map fun kv=>if kv.1=k then (kv.1,y) else kv) (vs.map fun kv=>if kv.1=k then (kv.1,u) else kv):=by
  unfold KV at r ⊢
  induction r with
  | nil=>exact .nil
  | @cons p q ps qs h t ih=>
    rw[yaw,yaw];refine .cons ?_ ih;obtain ⟨h1,h2⟩:=h;by_cases e:p.1=k
    · rw[if_pos e,if_pos (h1.symm.trans e)];exact ⟨h1,ry⟩
    · rw[if_neg e,if_neg (fun z=>e (h1.trans z))];exact ⟨h1,h2⟩
theorem KV.put {kvs:List (κ×V)}{vs:List (κ×Value)}(r:KV kvs vs)(k:κ){y:V}{u:Value}(ry:RelV y u):KV (putK kvs k y) (stored vs k u):=by
  unfold putK stored;rw[r.any k];by_cases e:(vs.any fun kv=>decide (kv.1=k))=true
  · rw[if_pos e,if_pos e];exact r.repl k ry
  · rw[if_neg e,if_neg e];exact Paired.snoc r ⟨rfl,ry⟩
theorem KV.length {kvs:List (κ×V)}{vs:List (κ×Value)}(r:KV kvs vs):kvs.length=vs.length:=Paired.length r
end
theorem zjz {P:Program}{w:World}{k:Key}{u:Value}(r:RelV (kV k) u):(zaL P w).is k u=true:=by
  cases k with
  | inl i=>obtain ⟨t,e⟩:=(show ∃ t,u=Value.int i t from r);subst e;exact zjq P w i t
  | inr x=>obtain ⟨t,e⟩:=(show ∃ t,u=Value.str x t from r);subst e;exact zjp P w x t
theorem ziP {P:Program}{w:World}:∀{ks:List Key} {us:List Value},Vals (ks.map kV) us→ItemsAre (zaL P w) ks us
  | [],_,r=>by rw[ybz]at r;cases r;exact .nil
  | k::ks,_,r=>by
    rw[yaw]at r;cases r with
    | cons h t=>exact .cons (zjz h) (ziP t)
abbrev KT (H:Hp):List (List Key×V)→List (List Key×Addr×Value)→Prop:=Paired fun p q=>p.1=q.1∧H q.2.1=some (.tup (p.1.map kV))∧RelV p.2 q.2.2
theorem KT.val {H:Hp}{kvs:List (List Key×V)}{xs:List (List Key×Addr×Value)}(r:KT H kvs xs)(k:List Key):RelO (valV kvs k) ((atKey xs k).map (·.2)):=by
  induction r with
  | nil=>exact True.intro
  | @cons p q ps qs h t ih=>
    obtain ⟨h1,_,h2⟩:=h;by_cases e:p.1=k
    · have e':q.1=k:=h1.symm.trans e
      have b:atKey (q::qs) k=some q.2:=by simp[atKey,yby,e']
      rw[za6 e,b];exact h2
    · have e':¬ q.1=k:=fun z=>e (h1.trans z)
      have b:atKey (q::qs) k=atKey qs k:=by simp[atKey,yby,e']
      rw[zaQ e,b];exact ih
theorem KT.repl {H:Hp}{kvs:List (List Key×V)}{xs:List (List Key×Addr×Value)}(r:KT H kvs xs)(k:List Key){y:V}{u:Value}(ry:RelV y u) :
    KT H (kvs.map fun kv=>if kv.1=k then (kv.1,y) else kv) (xs.map (putAt k u)):=by
  induction r with
  | nil=>exact .nil
  | @cons p q ps qs h t ih=>
    rw[yaw,yaw];refine .cons ?_ ih;obtain ⟨h1,h2,h3⟩:=h;unfold putAt;by_cases e:p.1=k
    · rw[if_pos e,if_pos (h1.symm.trans e)];exact ⟨h1,h2,ry⟩
    · rw[if_neg e,if_neg (fun z=>e (h1.trans z))];exact ⟨h1,h2,h3⟩
theorem KT.put {H:Hp}{kvs:List (List Key×V)}{xs:List (List Key×Addr×Value)}(r:KT H kvs xs)(k:List Key){b:Addr}{y:V}{u:Value}(hb:H b=some (.tup (k.map kV)))(ry:RelV y u) :
    KT H (putK kvs k y) (storedH xs k b u):=by
  have e:(kvs.any fun kv=>decide (kv.1=k))=(atKey xs k).isSome:=by
    rw[zev,(r.val k).isSome_eq,Option.isSome_map]
  unfold putK storedH;rw[e];by_cases q:(atKey xs k).isSome=true
  · rw[if_pos q,if_pos q];exact r.repl k ry
  · rw[if_neg q,if_neg q];exact Paired.snoc r ⟨rfl,hb,ry⟩
theorem KT.keeps {H H':Hp}{kvs:List (List Key×V)}{xs:List (List Key×Addr×Value)}(r:KT H kvs xs)(ht:∀ b ys,H b=some (.tup ys)→H' b=some (.tup ys)):KT H' kvs xs:=
  Paired.mapP r fun _ _ z=>⟨z.1,ht _ _ z.2.1,z.2.2⟩
section
variable {P:Program}{w:World}{H:Hp}{h:Heap}{a:Addr}
theorem zrg {u:HO}(ok:HOk P w H h)(e:Rd H a u):zbK P w H h a u:=e.ok ok
theorem zlz {kvs:List (Key×V)}(ok:HOk P w H h)(e:Rd H a (.dK kvs)):kvs.length≤sizeLine∧(a == sysModules)=false∧∃ vs,KV kvs vs∧h.DictOf (zaL P w) a vs:=
  show zbK P w H h a (.dK kvs) from zrg ok e
theorem zqH {kvs:List (Key×V)}(ok:HOk P w H h)(e:H a=some (.dK kvs)):kvs.length≤sizeLine∧(a == sysModules)=false∧∃ vs,KV kvs vs∧h.DictOf (zaL P w) a vs:=zlz ok (.inl e)
theorem ziO {ks:List Key}(ok:HOk P w H h)(e:H a=some (.tup (ks.map kV))):(tupleKind (zaL P w)).is h ks a:=by
  obtain ⟨_,its,r,o,h1,h2,n,h3⟩:=(show zbK P w H h a (.tup (ks.map kV)) from ok a _ e);exact ⟨o,its.toArray,n,h1,h2,h3,by simpa using ziP r⟩
theorem zly {kvs:List (List Key×V)}(ok:HOk P w H h)(e:Rd H a (.dT kvs)):kvs.length≤sizeLine∧(a == sysModules)=false∧
    ∃ xs,KT H kvs xs∧h.DictOfH (tupleKind (zaL P w)) a xs:=by
  obtain ⟨z,y,xs,r,o,es,ep,h1,h2,h3,h4,h5⟩:=(show zbK P w H h a (.dT kvs) from zrg ok e);refine ⟨z,y,xs,r,o,es,ep,h1,h2,h3,h4,fun x hx=>?_,h5⟩;have all:∀{l:List (List Key×V)} {m:List (List Key×Addr×Value)},KT H l m→∀ x∈m,(tupleKind (zaL P w)).is h x.1 x.2.1:=by
    intro l m q
    induction q with
    | nil=>intro x hx;exact nomatch hx
    | @cons p q ps qs hq t ih=>
      intro x hx;rcases yaj.mp hx with e | hx
      · subst e
        exact ziO ok (by rw[← hq.1];exact hq.2.1)
      · exact ih x hx
  exact all r x hx
theorem zso {kvs:List (List Key×V)}(ok:HOk P w H h)(e:H a=some (.dT kvs)):kvs.length≤sizeLine∧(a == sysModules)=false∧
    ∃ xs,KT H kvs xs∧h.DictOfH (tupleKind (zaL P w)) a xs:=zly ok (.inl e)
end
def DGet (H:Hp)(a:Addr)(y:V)(r:Option V):Prop:=
  (∃ kvs k,Rd H a (.dK kvs)∧y=kV k∧r=valV kvs k)∨∃ kvs k b,Rd H a (.dT kvs)∧y=.ref b∧H b=some (.tup (k.map kV))∧r=valV kvs k
def DPut (H:Hp)(a:Addr)(y v:V)(H':Hp):Prop:=
  (∃ kvs k,H a=some (.dK kvs)∧y=kV k∧kvs.length < sizeLine∧H'=upd H a (.dK (putK kvs k v)))∨
  ∃ kvs k b,H a=some (.dT kvs)∧y=.ref b∧H b=some (.tup (k.map kV))∧kvs.length < sizeLine∧H'=upd H a (.dT (putK kvs k v))
theorem DGet.k {H:Hp}{a:Addr}{kvs:List (Key×V)}{k:Key}(e:H a=some (.dK kvs)):DGet H a (kV k) (valV kvs k):=.inl ⟨kvs,k,.inl e,rfl,rfl⟩
theorem DGet.t {H:Hp}{a b:Addr}{kvs:List (List Key×V)}{k:List Key}(e:H a=some (.dT kvs))(eb:H b=some (.tup (k.map kV))):DGet H a (.ref b) (valV kvs k):=.inr ⟨kvs,k,b,.inl e,rfl,eb,rfl⟩
theorem DPut.k {H:Hp}{a:Addr}{kvs:List (Key×V)}{k:Key}{v:V}(e:H a=some (.dK kvs))(hl:kvs.length < sizeLine):DPut H a (kV k) v (upd H a (.dK (putK kvs k v))):=.inl ⟨kvs,k,e,rfl,hl,rfl⟩
theorem DPut.t {H:Hp}{a b:Addr}{kvs:List (List Key×V)}{k:List Key}{v:V}(e:H a=some (.dT kvs))(eb:H b=some (.tup (k.map kV)))(hl:kvs.length < sizeLine) :
    DPut H a (.ref b) v (upd H a (.dT (putK kvs k v))):=.inr ⟨kvs,k,b,e,rfl,eb,hl,rfl⟩
section
variable {X:Cx}{pins:List (Addr×Obj)}{σ:St}{H:Hp}{s:Shared}{a:Addr}{y v:V}{u r:Value}{o:Option V}{A:Around}{E:Value→Shared→Prop}
theorem Inv.big (I:Inv X pins σ H s):sysModules < s.heap.objs.size:=by
  have h:mainGlobals < s.heap.objs.size:=(I.mod.glob.keeps I.bk).lt;exact Nat.lt_trans (by decide) h
theorem zny {Q:Value→Shared→Prop}(hu:A.units+1 < cLine)(I:Inv X pins σ H s)(g:DGet H a y (some v))(ry:RelV y u)(h:∀ w' s',Inv X pins σ H s'→RelV v w'→Q w' s') :
    wpAny (model X.prog X.w) A (getItem (.ref a) u) Q E s:=by
  rcases g with ⟨kvs,k,e,ey,l⟩ | ⟨kvs,k,b,e,ey,eb,l⟩
  · subst ey
    obtain ⟨z,hd,vs,rel,dd⟩:=zlz I.hok e;obtain ⟨w',hw,rw'⟩:=RelO.some_of (v:=v) (o:=valueAt vs k) (by rw[l];exact rel.val k);exact wpAny_getItem_of (zjz ry) dd.mapOf hw (h w' _ (I.tok _) rw')
  · subst ey
    cases (show u=Value.ref b from ry)
    obtain ⟨z,hd,xs,rel,dd⟩:=zly I.hok e;obtain ⟨w',hw,rw'⟩:=RelO.some_of (v:=v) (o:=(atKey xs k).map (·.2)) (by rw[l];exact rel.val k);obtain ⟨p,hp,hp2⟩:=ya8.mp hw;refine wpAny_getItem_heap (tupleKind_room_in1 hu) (ziO I.hok eb) dd hp ?_;rw[hp2];exact h w' _ (I.tok _) rw'
theorem d_in {Q:Value→Shared→Prop}(hu:A.units+1 < cLine)(I:Inv X pins σ H s)(g:DGet H a y o)(ry:RelV y u)(h:∀ s',Inv X pins σ H s'→Q (.bool o.isSome) s') :
    wpAny (model X.prog X.w) A (compareOp .In u (.ref a)) Q E s:=by
  rcases g with ⟨kvs,k,e,ey,l⟩ | ⟨kvs,k,b,e,ey,eb,l⟩
  · subst ey
    obtain ⟨z,hd,vs,rel,dd⟩:=zlz I.hok e;refine wpAny_in_of (zjz ry) hd dd.mapOf ?_;rw[← (rel.val k).isSome_eq,← l];exact h _ (I.tok _)
  · subst ey
    cases (show u=Value.ref b from ry)
    obtain ⟨z,hd,xs,rel,dd⟩:=zly I.hok e;refine wpAny_in_heap (tupleKind_room_in1 hu) (ziO I.hok eb) hd dd ?_;have q:=(rel.val k).isSome_eq;rw[Option.isSome_map]at q;rw[← q,← l];exact h _ (I.tok _)
theorem zjH {h':Heap}{t':Nat}{ob:HO}(I:Inv X pins σ H s)(mu:Mut (H a))(hs:Heap.SameBut a s.heap h')(he:∃ q,h'.get? a=some q)(new:zbK X.prog X.w (upd H a ob) h' a ob) :
    Inv X pins σ (upd H a ob) { s with heap:=h',toks:=t' }:=
  I.write (x:=a) (e:=a) mu (.inl rfl) (fun b q hb z=>(hs.2 b hb).trans z) he new
theorem zpE {P:Program}{w:World}{H':Hp}{h':Heap}{kvs:List (Key×V)}{vs:List (Key×Value)}(z:kvs.length≤sizeLine)(hd:(a == sysModules)=false)(rel:KV kvs vs)(dd:h'.DictOf (zaL P w) a vs) :
    zbK P w H' h' a (.dK kvs):=⟨z,hd,vs,rel,dd⟩
theorem znx {H':Hp}{Q:Unit→Shared→Prop}(hu:A.units+1 < cLine)(I:Inv X pins σ H s)(g:DPut H a y v H')(ry:RelV y u)(rv:RelV v r)(h:∀ s',Inv X pins σ H' s'→Q () s') :
    wpAny (model X.prog X.w) A (setItem (.ref a) u r) Q E s:=by
  rcases g with ⟨kvs,k,e,ey,l,eH⟩ | ⟨kvs,k,b,e,ey,eb,l,eH⟩
  · subst ey eH
    obtain ⟨z,hd,vs,rel,dd⟩:=zqH I.hok e;have hz:vs.length≤sizeLine:=by rw[← rel.length];exact z
    have hl:(putK kvs k v).length≤sizeLine:=by have:=zdh kvs k v;omega
    refine wpAny_setItem_pairs (hsz:=hz) (zjz ry) dd fun h' dd' hs=>h _ ?_;have he:∃ q,h'.get? a=some q:=let ⟨q,_,_,hq,_⟩:=dd';⟨q,hq⟩;exact zjH I (by rw[e];exact True.intro) hs he (zpE hl hd (rel.put k rv) dd')
  · subst ey eH
    cases (show u=Value.ref b from ry)
    obtain ⟨z,hd,xs,rel,dd⟩:=zso I.hok e;have hz:xs.length≤sizeLine:=by rw[← Paired.length rel];exact z
    have hl:(putK kvs k v).length≤sizeLine:=by have:=zdh kvs k v;omega
    refine wpAny_setItem_heap (hsz:=hz) (tupleKind_room_in1 hu) (ziO I.hok eb) dd fun h' dd' hs=>h _ ?_;obtain ⟨q,es,ep,hq,h2,h3,h4,_,h5⟩:=dd';refine zjH I (by rw[e];exact True.intro) hs ⟨q,hq⟩ ⟨hl,hd,_,(rel.put k eb rv).keeps fun c ys ec=>?_,q,es,ep,hq,h2,h3,h4,h5⟩;rw[zaf (zrz ec e (fun z=>nomatch z))];exact ec
end
def NoSl (i:Expr):Prop:=∀ ov iv,subscripted i false ov iv=operate [ov,iv] (getItem ov iv)
theorem zpS {prog:Program}{w:World}{A:Around}{E:Value→Shared→Prop}{s:Shared}{env:Env}{value slice:Expr}{pos:Pos}{T id:String}{Q:Value→Shared→Prop}
    (hl:typeLookup (.type T) "__getitem__" = pure (some (.builtin id))) (hs:NoSl slice)
    (h:wpAny (model prog w) A (eval value env) (fun o s₁=>wpAny (model prog w) A (eval slice env) (fun i s₂=>s₂.TypeIs o T∧wpAny (model prog w) A (getItem o i) Q E s₂) E s₁) E s) :
    wpAny (model prog w) A (eval (.Subscript value slice pos) env) Q E s:=by
  refine Subscript_ (wpAny_mono h (fun o s₁ h₁=>wpAny_mono h₁ (fun i s₂ h₂=>?_) fun _ _ x=>x) fun _ _ x=>x);obtain ⟨hT,h₂⟩:=h₂;unfold subscriptTail;refine wpAny_bind ?_;rw[getitemInPython_of_ne hT.not_modules];refine wpAny_bind (wpAny_specialOf hT hl ?_);have fin:wpAny (model prog w) A (subscripted slice false o i) (fun r s₃=>wpAny (model prog w) A (letTemporaryGo value o r >>= fun _=>pure r) Q E s₃) E s₂:=by
    rw[hs o i];exact wpAny_operating (wpAny_mono h₂ (fun r s₃ h₃=>wpAny_bind (wpAny_letTemporaryGo (wpAny_pure h₃))) fun _ _ x=>x)
  first
    | exact wpAny_pure (wpAny_bind fin)
    | exact wpAny_bind (wpAny_pure (wpAny_bind fin))
    | exact wpAny_bind fin
theorem zjG {X:Cx}{pins:List (Addr×Obj)}{σ:St}{H:Hp}{s:Shared}{a:Addr}{y:V}{o:Option V}(I:Inv X pins σ H s)(g:DGet H a y o):s.TypeIs (.ref a) "dict":=by
  rcases g with ⟨kvs,k,e,_,_⟩ | ⟨kvs,k,b,e,_,_,_⟩
  · obtain ⟨_,_,vs,_,dd⟩:=zlz I.hok e
    exact dd.typeIs
  · obtain ⟨_,_,xs,_,dd⟩:=zly I.hok e
    exact dd.typeIs
def zsd (td ty:TE):TE:=fun σ H Q=>td σ H fun x H1=>ty σ H1 fun y H2=>∃ a v,x=.ref a∧DGet H2 a y (some v)∧Q v H2
def zsf (td ty tv:TE):TS:=fun D σ H=>tv σ H fun v H1=>td σ H1 fun x H2=>ty σ H2 fun y H3=>∃ a H4,x=.ref a∧DPut H3 a y v H4∧D.nx σ H4
section
variable {X:Cx}{o i e value:Expr}{pos pos' tpos:Pos}{td ty tv:TE}
theorem zde (hu:X.A.units+1 < cLine)(ho:PE X o td)(hi:PE X i ty)(hs:NoSl i):PE X (.Subscript o i pos) (zsd td ty):=by
  intro pins s σ H Q I h;refine zpS PySem.F.slot_dict_getitem.lookup hs (thn (ho pins s σ H _ I h) fun u s1 zq0=>?_);obtain ⟨x,H1,I1,rx,q1⟩:=zq0;refine thn (hi pins s1 σ H1 _ I1 q1) fun iv s2 zq1=>?_;obtain ⟨y,H2,I2,ry,a,v,ex,g,q2⟩:=zq1;subst ex;obtain rfl:u=Value.ref a:=rx;exact ⟨zjG I2 g,zny hu I2 g ry fun w' s3 I3 rw'=>⟨v,H2,I3,rw',q2⟩⟩
theorem zel (hu:X.A.units+1 < cLine)(ho:PE X o td)(hi:PE X i ty)(hv:PE X value tv)(hs:swapsWith value (some (.Subscript o i pos')) pos.line X.env=pure false) :
    PS X (.Assign [.Subscript o i pos'] value pos) (zsf td ty tv):=by
  intro pins s σ H D I h;refine wpAny_Assign_Subscript (thn (hv pins s σ H _ I h) fun r s1 zq0=>?_) hs;obtain ⟨v,H1,I1,rv,q1⟩:=zq0;refine thn (ho pins s1 σ H1 _ I1 q1) fun u s2 zq1=>?_;obtain ⟨x,H2,I2,rx,q2⟩:=zq1;refine thn (hi pins s2 σ H2 _ I2 q2) fun iv s3 zq2=>?_;obtain ⟨y,H3,I3,ry,a,H4,ex,g,q3⟩:=zq2;subst ex;obtain rfl:u=Value.ref a:=rx;exact znx hu I3 g ry rv fun s4 I4=>⟨σ,H4,I4,q3⟩
end
theorem zkQ {P:Program}{w:World}{H:Hp}(h:Heap)(hb:sysModules < h.objs.size):zbK P w H (h.push { cls:=.type "dict",data:=.dict #[] }) h.objs.size (.dK []):=
  ⟨yaC _,beq_eq_false_iff_ne.mpr (Ne.symm (yaq hb)),[],.nil,Heap.DictOf.new h⟩
theorem zo1 {P:Program}{w:World}{H:Hp}(h:Heap)(hb:sysModules < h.objs.size):zbK P w H (h.push { cls:=.type "dict",data:=.dict #[] }) h.objs.size (.dT []):=
  ⟨yaC _,beq_eq_false_iff_ne.mpr (Ne.symm (yaq hb)),[],.nil,_,#[],0,yaD _ rfl,⟨rfl,rfl,rfl⟩,rfl,rfl,ybA⟩
def zq3:TE:=fun _ H Q=>∀ p,H p=none→Q (.ref p) (upd H p (.dK []))
def zqZ:TE:=fun _ H Q=>∀ p,H p=none→Q (.ref p) (upd H p (.dT []))
section
variable {X:Cx}{pos:Pos}
theorem zko:PE X (.Dict [] [] pos) zq3:=fun pins s σ H Q I h=>
  wpAny_Dict_empty ⟨.ref s.heap.objs.size,_,I.laid (a:=s.heap.objs.size) (o:=.dK []) (t':=s.toks) (fun _ _ q=>yam _ q) (yab _) (zkQ s.heap I.big),rfl,h _ (I.hok.fresh (yab _))⟩
theorem zoh:PE X (.Dict [] [] pos) zqZ:=fun pins s σ H Q I h=>
  wpAny_Dict_empty ⟨.ref s.heap.objs.size,_,I.laid (a:=s.heap.objs.size) (o:=.dT []) (t':=s.toks) (fun _ _ q=>yam _ q) (yab _) (zo1 s.heap I.big),rfl,h _ (I.hok.fresh (yab _))⟩
end
def zlY:List (TE×TE)→St→Hp→(List (V×V)→Hp→Prop)→Prop
  | [],_,H,Q=>Q [] H
  | (tk,tv)::r,σ,H,Q=>tk σ H fun x H1=>tv σ H1 fun y H2=>zlY r σ H2 fun ps H3=>Q ((x,y)::ps) H3
abbrev VV:List (V×V)→List (Value×Value)→Prop:=Paired fun p q=>RelV p.1 q.1∧RelV p.2 q.2
def PPs (X:Cx)(pos:Pos)(keys:List (Option Expr))(values:List Expr)(trs:List (TE×TE)):Prop:=
  ∀(pins:List (Addr×Obj)) (s:Shared) (σ:St) (H:Hp) (Q:List (V×V)→Hp→Prop),Inv X pins σ H s→zlY trs σ H Q→
    wpAny (model X.prog X.w) X.A (evalPairs (pairTrees keys values X.env pos)) (fun vs s'=>∃ ps H',Inv X pins σ H' s'∧VV ps vs∧Q ps H') X.xe s
theorem zmm {X:Cx}{pos:Pos}:PPs X pos [] [] []:=fun pins s σ H Q I h=>pairTrees_nil_walk ⟨[],H,I,.nil,h⟩
theorem zfV {X:Cx}{pos:Pos}{k v:Expr}{ks:List (Option Expr)}{vs:List Expr}{tk tv:TE}{trs:List (TE×TE)}(hk:PE X k tk)(hv:PE X v tv)(hr:PPs X pos ks vs trs) :
    PPs X pos (some k::ks) (v::vs) ((tk,tv)::trs):=fun pins s σ H Q I h=>
  pairTrees_cons_walk (thn (hk pins s σ H _ I h) fun u s1 ⟨x,H1,I1,rx,q1⟩=>thn (hv pins s1 σ H1 _ I1 q1) fun w2 s2 ⟨y,H2,I2,ry,q2⟩=>
    thn (hr pins s2 σ H2 _ I2 q2) fun ws s3 ⟨ps,H3,I3,rel,q3⟩=>⟨(x,y)::ps,H3,I3,.cons ⟨rx,ry⟩ rel,q3⟩)
def zdA (kvs more:List (Key×V)):List (Key×V):=more.foldl (fun acc kv=>putK acc kv.1 kv.2) kvs
theorem KV.merge:∀{more:List (Key×V)} {rs:List (Key×Value)} {kvs:List (Key×V)} {vs:List (Key×Value)},KV more rs→KV kvs vs→KV (zdA kvs more) (merged vs rs):=by
  intro more rs kvs vs r;unfold KV at r
  induction r generalizing kvs vs with
  | nil=>intro q;exact q
  | @cons p q ps qs h t ih=>
    intro r0;have e:KV (putK kvs p.1 p.2) (stored vs q.1 q.2):=by
      have:=r0.put p.1 h.2;rw[← h.1];exact this
    exact ih e
theorem ze0:∀(more kvs:List (Key×V)),(zdA kvs more).length≤kvs.length+more.length
  | [],kvs=>by show kvs.length≤kvs.length+0;omega
  | p::r,kvs=>by
    have h1:=ze0 r (putK kvs p.1 p.2);have h2:=zdh kvs p.1 p.2;show (zdA (putK kvs p.1 p.2) r).length≤_;rw[yaI];omega
theorem zhi {P:Program}{w:World}:∀{kvs:List (Key×V)} {ws:List (Value×Value)},VV (kvs.map fun kv=>(kV kv.1,kv.2)) ws→∃ rs,Carries (zaL P w) ws rs∧KV kvs rs
  | [],_,r=>by rw[ybz]at r;cases r;exact ⟨[],True.intro,.nil⟩
  | p::kvs,_,r=>by
    rw[yaw]at r;cases r with
    | @cons a b as bs h t=>
      obtain ⟨rs,c,q⟩:=zhi (P:=P) (w:=w) t;obtain ⟨b1,b2⟩:=b;exact ⟨(p.1,b2)::rs,⟨zjz h.1,rfl,c⟩,.cons ⟨rfl,h.2⟩ q⟩
def zsc (trs:List (TE×TE)):TE:=fun σ H Q=>∀ p,H p=none→zlY trs σ (upd H p (.dK [])) fun ps H2=>H2 p=some (.dK [])∧∃ kvs:List (Key×V),ps=kvs.map (fun kv=>(kV kv.1,kv.2))∧kvs.length≤15∧Q (.ref p) (upd H2 p (.dK (zdA [] kvs)))
theorem zmr {X:Cx}{pos:Pos}{keys:List (Option Expr)}{values:List Expr}{trs:List (TE×TE)}(h:PPs X pos keys values trs)(hall:keys.all (·.isSome)=true)(hl:keys.length=values.length)(h0:keys≠[])
    (h15:keys.length≤15):PE X (.Dict keys values pos) (zsc trs):=by
  intro pins s σ H Q I q;have hn:=I.hok.fresh (yab s.heap.objs.size);have I1:=I.laid (a:=s.heap.objs.size) (o:=.dK []) (h':=s.heap.push { cls:=.type "dict",data:=.dict #[] }) (t':=s.toks) (fun _ _ q=>yam _ q) (yab _) (zkQ s.heap I.big);refine wpAny_Dict_walk (knd:=zaL X.prog X.w) hall hl h0 h15 (thn (h pins _ σ _ _ I1 (q _ hn)) fun ws s2 zq0=>?_);obtain ⟨ps,H2,I2,rel,e,kvs,ep,lk,q2⟩:=zq0;subst ep;obtain ⟨rs,c,rk⟩:=zhi (P:=X.prog) (w:=X.w) rel;obtain ⟨z,hd,vs0,r0,dd⟩:=zqH I2.hok e;cases r0
  refine ⟨rs,c,dd,fun h' dd' hs=>⟨.ref s.heap.objs.size,_,?_,rfl,q2⟩⟩;have hz:(zdA [] kvs).length≤sizeLine:=by
    have h1:=ze0 kvs [];rw[ybn]at h1;rw[sizeLine_eq];omega
  have he:∃ q,h'.get? s.heap.objs.size=some q:=let ⟨q,_,_,hq,_⟩:=dd';⟨q,hq⟩;exact zjH I2 (by rw[e];exact True.intro) hs he (zpE hz hd (rk.merge .nil) dd')
structure M1 (X:Cx)(o:Expr)(m:Str)(apos:Pos)(e:Expr)(cpos:Pos):Prop where
  base:attributeBase o m X.env (eval o X.env)=eval o X.env
  few:((backTo cpos (starEach [e] X.env)).all (fun x=>!x.1) && (backToKw cpos (keywordEach [] X.env)).all (fun x=>x.1.isSome)
    && decide (([e]:List Expr).length+([]:List Keyword).length+(if ([]:List Keyword).isEmpty then 0 else 1) < 30))=true
  line:(apos.endLine == cpos.line)=true
  trees:backTo cpos (starEach [e] X.env)=[(false,eval e X.env)]
structure M2 (X:Cx)(o:Expr)(m:Str)(apos:Pos)(e f:Expr)(cpos:Pos):Prop where
  base:attributeBase o m X.env (eval o X.env)=eval o X.env
  few:((backTo cpos (starEach [e,f] X.env)).all (fun x=>!x.1) && (backToKw cpos (keywordEach [] X.env)).all (fun x=>x.1.isSome)
    && decide (([e,f]:List Expr).length+([]:List Keyword).length+(if ([]:List Keyword).isEmpty then 0 else 1) < 30))=true
  line:(apos.endLine == cpos.line)=true
  trees:backTo cpos (starEach [e,f] X.env)=[(false,eval e X.env),(false,eval f X.env)]
def IsD (H:Hp)(a:Addr):Prop:=(∃ kvs,Rd H a (.dK kvs))∨∃ kvs,Rd H a (.dT kvs)
theorem zrP {X:Cx}{pins:List (Addr×Obj)}{σ:St}{H:Hp}{s:Shared}{a:Addr}(I:Inv X pins σ H s)(d:IsD H a) :
    s.TypeIs (.ref a) "dict"∧(∀ b,Value.ref a=.ref b→∃ ob,s.heap.get? b=some ob∧ob.dict=none)∧(a == sysModules)=false:=by
  rcases d with ⟨kvs,e⟩ | ⟨kvs,e⟩
  · obtain ⟨_,hd,vs,_,dd⟩:=zlz I.hok e
    refine ⟨dd.typeIs,fun b q=>?_,hd⟩;cases q
    obtain ⟨ob,_,_,h1,h2,_⟩:=dd;exact ⟨ob,h1,h2.2.1⟩
  · obtain ⟨_,hd,xs,_,dd⟩:=zly I.hok e
    refine ⟨dd.typeIs,fun b q=>?_,hd⟩;cases q
    obtain ⟨ob,_,_,h1,h2,_⟩:=dd;exact ⟨ob,h1,h2.2.1⟩
section
variable {X:Cx}{pins:List (Addr×Obj)}{σ:St}{H:Hp}{s:Shared}{a:Addr}{y d:V}{u r:Value}{o:Option V}{A:Around}{E:Value→Shared→Prop}
theorem zrZ {Q:Value→Shared→Prop}(hu:A.units+1 < cLine)(I:Inv X pins σ H s)(g:DGet H a y o)(ry:RelV y u)(rd:RelV d r)(h:∀ w' s',Inv X pins σ H s'→RelV (o.getD d) w'→Q w' s') :
    wpAny (model X.prog X.w) A (call (.builtin "dict.get") [.ref a,u,r]) Q E s:=by
  rcases g with ⟨kvs,k,e,ey,l⟩ | ⟨kvs,k,b,e,ey,eb,l⟩
  · subst ey
    obtain ⟨z,hd,vs,rel,dd⟩:=zlz I.hok e;refine call_meetsIn PySem.F.slot_dict_get dd.typeIs PySem.F.entry_dict_get (PySem.F.args_dict_get_3 _ _ _) (meets_dict_get_default (zaL X.prog X.w) a (zjz ry) hd r) ⟨_,dd.mapOf,h _ _ (I.tok _) ?_⟩;rw[l];exact (rel.val k).getD rd
  · subst ey
    cases (show u=Value.ref b from ry)
    obtain ⟨z,hd,xs,rel,dd⟩:=zly I.hok e;refine call_meetsIn PySem.F.slot_dict_get dd.typeIs PySem.F.entry_dict_get (PySem.F.args_dict_get_3 _ _ _) (meetsH_dict_get_default (tupleKind (zaL X.prog X.w)) a b hd r) ⟨tupleKind_room_in1 hu,k,xs,ziO I.hok eb,dd,h _ _ (I.tok _) ?_⟩;rw[l];exact (rel.val k).getD rd
end
def zq4 (td ty tx:TE):TE:=fun σ H Q=>td σ H fun x H1=>∃ a,x=.ref a∧IsD H1 a∧ty σ H1 fun y H2=>tx σ H2 fun z H3=>∃ o,DGet H3 a y o∧Q (o.getD z) H3
section
variable {X:Cx}{o e f:Expr}{apos cpos:Pos}{td ty tx:TE}
theorem zoi (hu:X.A.units+1 < cLine)(ho:PE X o td)(he:PE X e ty)(hf:PE X f tx)(m:M2 X o "get" apos e f cpos):PE X (.Call (.Attribute o "get" apos) [e,f] [] cpos) (zq4 td ty tx):=by
  intro pins s σ H Q I h;refine wpAny_Call_method m.base m.few m.line PySem.F.plainAttrs_dict PySem.F.slot_dict_get PySem.F.type_dict_get (thn (ho pins s σ H _ I h) fun u s1 zq0=>?_);obtain ⟨x,H1,I1,rx,a,ex,d,q1⟩:=zq0;subst ex;obtain rfl:u=Value.ref a:=rx;obtain ⟨t1,t2,_⟩:=zrP I1 d;refine ⟨t1,t2,?_⟩;rw[m.trees];refine Calls.callWith_builtin rfl (Calls.evalArgs_plain (Calls.spliced_cons (thn (he pins s1 σ H1 _ I1 q1) fun iv s2 ⟨y,H2,I2,ry,q2⟩=>
    Calls.spliced_cons (thn (hf pins s2 σ H2 _ I2 q2) fun fv s3 ⟨z,H3,I3,rz,ov,g,q3⟩=>Calls.spliced_nil ?_))))
  exact zrZ hu I3 g ry rz fun w' s4 I4 rw'=>⟨_,H3,I4,rw',q3⟩
end
end L2
namespace Att
open PySem PySem.W PySem.Calls PyProof.Rows
theorem zgt {P:Params}{h:Heap}:∀(ns:List Int) (vs:List Value),WellAll P h vs (ns.map WData.int)→IntsAre vs ns:=by
  intro ns
  induction ns with
  | nil=>
    intro vs w;rw[ybz]at w;cases w
    exact .nil
  | cons n ns ih=>
    intro vs w;rw[yaw]at w;cases w with
    | cons a b=>
      cases a
      exact .cons _ _ (ih _ b)
theorem zmg {l:OpenLaw}{n:Nat}(hn:l.most=some n){P:Params}{h:Heap}{args:List WData}{vals:List Value}
    (hpre:l.row.toRowW.claim.pre args=true) (hwl:WellAll P h vals args) :
    ∃ a vs ns,vals=[Value.ref a]∧args=[WData.list (ns.map WData.int)]∧h.get? a=some { cls:=.type "list",data:=.seq vs.toArray }∧IntsAre vs ns∧ns.length≤n:=by
  have hsh:WShape.hasAll [] args [.list .int]=true:=(pre_splitW hpre).1;have hc:l.pre.holds [] { args:=args }=true:=(pre_splitW hpre).2;obtain ⟨d,r,rfl,h1,h2⟩:=hasAllW_cons hsh;obtain rfl:=hasAllW_nil h2;obtain ⟨xs,rfl,h3⟩:=hasW_list h1;obtain ⟨ns,rfl⟩:=items_int h3;have hlen:ns.length≤n:=by
    unfold OpenLaw.pre at hc;have h4:(WTm.not (.lt (.lit (.int (n:Int))) (.len (.arg 0)))).holds [] { args:=[.list (ns.map .int)] }=true:=by
      have h4:=(holds_andW hc).1;rw[hn]at h4;exact h4
    have h5:=condW_of h4 (w_not (w_lt w_lit (w_len_list (w_arg rfl))));rw[yaa]at h5;refine ybo fun q=>?_;have q':(n:Int) < ((ns.length:Nat):Int):=by omega
    first
      | (rw[yag q']at h5;exact absurd h5 (by decide))
      | (simp at h5;omega)
  cases hwl with
  | cons w1 w2=>
    cases w2
    cases w1 with
    | list ho hall=>exact ⟨_,_,ns,rfl,rfl,ho,zgt ns _ hall,hlen⟩
theorem zmn (l:OpenLaw)(args:List WData):l.row.toRowW.claim.post args (.bool true) args=true:=
  postW_of (r:=l.row.toRowW) (X:=(true == true))
    (show WShape.has [] (.bool true) .bool=true by first | rfl | decide | simp[WShape.has,WShape.arms,WShape.armsAll])
    (show (WTm.eq .res (.lit (.bool true))).value [] { args:=args,res:=some (.bool true),after:=args }=some (.bool (true == true)) from w_eq_bool (w_res rfl) w_lit) rfl
theorem attach_call {l:OpenLaw}{n:Nat}{q:Program}{loose:List Str}{XP:(Str→Option Value)→Heap→Prop}{YP:World→Heap→Prop}{d:DefRec}
    (hn:l.most=some n) (hdf:d.params.defaults=[])
    (call:∀(w:World) (s₀ s₁:Shared) (mg mb:Str→Option Value) (fa:Addr) (o:Obj) (pm cd doc:Value) (a:Addr) (vs:List Value) (ns:List Int),
      Ground q loose [] XP w s₀ mg mb s₁.heap→YP w s₁.heap→
      s₁.heap.get? fa=some o→o.data=.func (docDef d.name d.params d.body d.scope pm cd doc)→s₁.heap.CodeRec cd d.name→mg d.name=some (.ref fa)→
      s₁.heap.get? a=some { cls:=.type "list",data:=.seq vs.toArray }→IntsAre vs ns→ns.length≤n→s₁.gens=#[]→
      codeAny (model l.prog w) callerA (.call (.ref fa) ⟨[.ref a],[]⟩) (fun r s'=>r=.ok (.ret (.bool true))∧OldK s₁.heap s'.heap∧s'.os=s₁.os∧AllBare s'.gens) s₁) :
    WalkO q loose XP YP l.row.toRowW d [] (fun f vs=>PySem.call f vs):=by
  intro w s₀ s₁ mg mb G Y fa o pm cd doc dV kV ho hd hcd hD hmg hg args vals as hpre hlay hrd hwl hlo;obtain rfl:dV=.none:=Dflts.none hD hdf;obtain rfl:kV=.none:=Dflts.noKw hD;obtain ⟨a,vs,ns,rfl,rfl,hobj,hints,hlen⟩:=zmg hn hpre hwl;refine enter_call (codeAny_mono (call w s₀ s₁ mg mb fa o pm cd doc a vs ns G Y ho (fd_plain hd) hcd hmg hobj hints hlen hg) fun r s' hq=>?_);obtain ⟨rfl,h2,h3,h4⟩:=hq;exact ⟨.inl ⟨.bool true,.bool true,[],rfl,fun _=>rfl,.bool true,zmn l _,fun _=>⟨List.Pairwise.nil,fun _ hm=>(nomatch hm)⟩⟩,h2,h3,h4⟩
end Att
namespace L2
open PySem PySem.Spec PyProof.Rows
theorem zh8:∀{vs:List Value} {ns:List Int},IntsAre vs ns→Vals (ns.map V.int) vs
  | _,_,.nil=>.nil
  | _,_,.cons n t h=>.cons ⟨t,rfl⟩ (zh8 h)
end L2
namespace L2
open PySem PySem.Spec PyProof.Rows
def zni (s:Stmt)(j:Nat):Stmt:=match s with
  | .ClassDef _ _ _ body _ _ _ _ _ _ _=>body.getD j (.Pass ⟨0,0,0,0⟩)
  | _=>.Pass ⟨0,0,0,0⟩
def zb5 (s:Stmt):Arguments:=match s with
  | .FunctionDef _ a _ _ _ _ _ _ _ _=>a
  | _=>{ posonlyargs:=[],args:=[],vararg:=none,kwonlyargs:=[],kw_defaults:=[],kwarg:=none,defaults:=[] }
def zbm (s:Stmt):List Stmt:=match s with
  | .FunctionDef _ _ b _ _ _ _ _ _ _=>b
  | _=>[]
def zah (s:Stmt):Scope:=match s with
  | .FunctionDef _ _ _ _ _ _ sc _ _ _=>sc
  | _=>{ kind:=.function,names:=[],isGenerator:=false,isCoroutine:=false }
abbrev CX0:CXT:=fun _ _ _ _ _ _=>False
abbrev E0:XK:=fun _ _ _=>False
theorem zol {X:Cx}:zho CX0 X E0:=fun _ _ _ _ _ _ _ h=>h.elim
structure Fun (K:Frag)(x qual:Str)(st:Stmt)(f:Addr)(fd:FuncData):Prop where
  ex:∃(oc:Value) (od:Option Addr) (kV doc pm:Value) (an:Option Addr) (cdv ct:Value) (osl:Array (Option Value)),
    fd=fnOf x qual (zb5 st) (zbm st) (zah st) .none kV doc pm an cdv ct∧K.lookup f=some ⟨oc,od,.func fd,osl⟩∧codeIn K cdv qual=true
  kp:keepIn K (.ref f)=true
section
variable {P:Program}{w:World}{K:Frag}{mg:Str→Option Value}{base:Heap}
theorem Fun.ok {x qual:Str}{st:Stmt}{f:Addr}{fd:FuncData}{N ps:List Str}{k:Nat}{sp:Sp}(F:Fun K x qual st f fd)(S:zap N ps (zah st))(len:∀ vs H Q E,sp vs H Q E→vs.length=ps.length)
    (hbody:∀(cdv:Value) (A:Around) (outer:List Env) (s:Shared) (H:Hp) (vs:List V) (Q:VK) (E:XK),Room k (A.deeper (envOfC qual (zah st) s.heap.objs.size f cdv))→sp vs H Q E→
      ∃ t,PSs (cxOf CX0 P w K mg base N qual (zah st) f cdv A outer s H E).nox (zbm st) t∧t { nx:=fun _ H'=>Q .non H',rt:=Q } (zcW N vs) H):FnOk P w K mg base CX0 (k+1) f fd ps sp:=by
  obtain ⟨oc,od,kV,doc,pm,an,cdv,ct,osl,rfl,lk,hcd⟩:=F.ex;refine zrS lk hcd S len fun A outer s H vs Q E hr hsp=>?_;obtain ⟨t,h,q⟩:=hbody cdv A outer s H vs Q E hr hsp;exact ⟨t,h.nox,q⟩
theorem Fun.binds {x qual:Str}{st:Stmt}{f:Addr}{fd:FuncData}{ps:List Str}(F:Fun K x qual st f fd)
    (h:∀(kV doc pm:Value) (an:Option Addr) (cdv ct:Value) (us:List Value),us.length=ps.length→bindArgs (fnOf x qual (zb5 st) (zbm st) (zah st) .none kV doc pm an cdv ct) ⟨us,[]⟩=pure (ps.zip us)):zd9 K fd ps []:=by
  obtain ⟨oc,od,kV,doc,pm,an,cdv,ct,osl,rfl,lk,hcd⟩:=F.ex;exact .all (h kV doc pm an cdv ct)
theorem zgu {x qual:Str}{st:Stmt}{f:Addr}{oc:Value}{od an:Option Addr}{osl:Array (Option Value)}{kV doc pm cdv ct:Value}(l:K.lookup f=some ⟨oc,od,.func (fnOf x qual (zb5 st) (zbm st) (zah st) .none kV doc pm an cdv ct),osl⟩)
    (c:codeIn K cdv qual=true) (k:keepIn K (.ref f)=true):Fun K x qual st f (fnOf x qual (zb5 st) (zbm st) (zah st) .none kV doc pm an cdv ct):=⟨⟨oc,od,kV,doc,pm,an,cdv,ct,osl,rfl,l,c⟩,k⟩
end
theorem zdr {A:Around}{k:Nat}(hr:Room k A):A.units+1 < cLine:=ya2 (ycg (by decide:1≤64) _) hr.units
theorem zam {n:Nat}(h:n≤1000):n < sizeLine:=ya2 h (by decide)
section
variable {X:Cx}
theorem pv (i:Nat){x:Str}{pos:Pos}(hN:X.N[i]?=some x:=by rfl)(hv:Vis X.env.scope x:=by first | exact Or.inl rfl | exact Or.inr (Or.inl rfl) | exact Or.inr (Or.inr rfl))(hd:(x == ("__debug__" : Str))=false:=by decide)
    (hcd:(x == ("__classdict__" : Str))=false:=by decide):PE X (.Name x pos) (tVar i):=zrl hN hv hd hcd
end
theorem iteF {A B:Prop}(h:B):if false=true then A else B:=by
  rw[if_neg yay];exact h
theorem iteT {A B:Prop}(h:A):if true=true then A else B:=by
  rw[if_pos rfl];exact h
theorem ite2 {c A B:Prop}[Decidable c](h1:c→A)(h2:¬ c→B):if c then A else B:=by
  by_cases h:c
  · rw[if_pos h]
    exact h1 h
  · rw[if_neg h]
    exact h2 h
theorem zgQ {c A B:Prop}[Decidable c](hc:c)(h:B):if (!decide c)=true then A else B:=by
  rw[yag hc];exact iteF h
def Same (H H':Hp):Prop:=∀ b o,H b=some o→H' b=some o
theorem Same.trans {H H1 H2:Hp}(a:Same H H1)(b:Same H1 H2):Same H H2:=fun c o h=>b c o (a c o h)
theorem Same.free {H H':Hp}(e:Same H H'){l:Addr}(h:H' l=Option.none):H l=Option.none:=by
  cases q:H l with
  | none=>rfl
  | some o=>
    rw[e l o q]at h;cases h
theorem Same.seq {K:Frag}{H H':Hp}{a:Addr}{xs:List V}(e:Same H H')(h:SqL K H a xs):SqL K H' a xs:=by
  rcases h with (h | ⟨o,h⟩) | h
  · exact .inl (.inl (e _ _ h))
  · exact .inl (.inr ⟨o,e _ _ h⟩)
  · exact .inr h
end L2
namespace Tim
open PySem PyProof.Rows
set_option autoImplicit false
section
variable {prog:Program}{w:World}{A:Around}{E:Value→Shared→Prop}{s:Shared}{κ:KeyKind}{kd:SortKind}{a₀:Array Keyed}
def LtG (prog:Program)(w:World)(A:Around)(s:Shared)(κ:KeyKind)(kd:SortKind):Prop:=
 ∀(E:Value→Shared→Prop) (x y:Value) (a b:κ.α) (Q:Bool→Shared→Prop),κ.keyOf x=some a→κ.keyOf y=some b→Q (κ.blt a b) s→wpAny (model prog w) A (keyLt' kd x y) Q E s
def ky (κ:KeyKind)(p:Keyed):κ.α:=(κ.keyOf p.1).getD κ.dflt
def Keyd (κ:KeyKind)(p:Keyed):Prop:=∃ a,κ.keyOf p.1=some a
structure TB (κ:KeyKind)(kd:SortKind)(n:Nat)(st:SortSt):Prop where
 kind:kindOf st=kd
 keys:∀ p∈(arrOf st).toList,Keyd κ p
 failed:failedOf st=none
 size:(arrOf st).size=n
def kAt (κ:KeyKind)(xs:Array Keyed)(i:Nat):κ.α:=match xs[i]? with
 | some p=>ky κ p
 | none=>κ.dflt
theorem zjA {xs:Array Keyed}{i:Nat}(h:i < xs.size):kAt κ xs i=ky κ xs[i]:=by
 unfold kAt;rw[Array.getElem?_eq_getElem h]
def Up (κ:KeyKind)(xs:Array Keyed)(lo hi:Nat):Prop:=∀ i j,lo≤i→i≤j→j < hi→κ.kle (kAt κ xs i) (kAt κ xs j)
end
end Tim
namespace Tim
open PySem PyProof.Rows
set_option autoImplicit false
section
variable {κ:KeyKind}
def le (κ:KeyKind)(x y:Keyed):Prop:=κ.kle (ky κ x) (ky κ y)
abbrev SL (κ:KeyKind)(l:List Keyed):Prop:=l.Pairwise (le κ)
theorem zqn {xs:Array Keyed}(h:Up κ xs 0 xs.size):SL κ xs.toList:=by
 rw[SL,ya6];intro i j hi hj hij;have hi':i < xs.size:=by simpa using hi
 have hj':j < xs.size:=by simpa using hj
 have:=h i j (yaC _) (by omega) hj';rw[zjA hi',zjA hj']at this;simpa [le] using this
structure MI (κ:KeyKind)(a b:Array Keyed)(out:Array Keyed)(ia ib:Nat):Prop where
 perm:(out.toList++(a.toList.drop ia++b.toList.drop ib)).Perm (a.toList++b.toList)
 srt:SL κ out.toList
 low:∀ x∈out.toList,∀ y∈a.toList.drop ia++b.toList.drop ib,le κ x y
variable {a b out:Array Keyed}{ia ib:Nat}
end
end Tim
namespace Tim
open PySem PyProof.Rows
set_option autoImplicit false
structure SG (st st':SortSt):Prop where
 kind:kindOf st'=kindOf st
 arr:arrOf st'=arrOf st
 pend:pendingOf st'=pendingOf st
 failed:failedOf st'=failedOf st
end Tim
namespace Tim
open PySem PyProof.Rows
set_option autoImplicit false
section
variable {κ:KeyKind}{a b out:Array Keyed}{na nb:Nat}
structure MH (κ:KeyKind)(a b:Array Keyed)(out:Array Keyed)(na nb:Nat):Prop where
 perm:((a.toList.take na++b.toList.take nb)++out.toList.reverse).Perm (a.toList++b.toList)
 srt:SL κ out.toList.reverse
 high:∀ x∈out.toList.reverse,∀ y∈a.toList.take na++b.toList.take nb,le κ y x
end
end Tim
namespace Tim
open PySem PyProof.Rows
set_option autoImplicit false
section
variable {κ:KeyKind}
def back (xs:Array Keyed)(lo:Nat)(m:Array Keyed):Array Keyed:=m.toList.zipIdx.foldl (fun a (q:Keyed×Nat)=>a.setIfInBounds (lo+q.2) q.1) xs
end
end Tim
namespace Tim
open PySem PyProof.Rows
set_option autoImplicit false
section
variable {prog:Program}{w:World}{A:Around}{E:Value→Shared→Prop}{s:Shared}{κ:KeyKind}{kd:SortKind}
def zgO (a:Addr)(h h':Heap):Prop:=∀ b o,b≠a→h.get? b=some o→h'.get? b=some o
def keyV (κ:KeyKind)(v:Value):κ.α:=(κ.keyOf v).getD κ.dflt
theorem zi9:∀ vs:List Value,vs.zip vs=vs.map fun v=>(v,v)
 | []=>rfl
 | v::vs=>by rw[ych,zi9 vs,yaw]
theorem zks {vs:List Value}{p:Keyed}(h:p∈(pairsOf vs).toList):p.1=p.2∧p.1∈vs:=by
 have e:(pairsOf vs).toList=vs.zip vs:=by
  unfold pairsOf;simp
 rw[e]at h;rw[zi9]at h;obtain ⟨v,hv,rfl⟩:=yaF.mp h;exact ⟨rfl,hv⟩
theorem zmt (vs:List Value):(pairsOf vs).toList.map (·.2)=vs:=by
 have e:(pairsOf vs).toList=vs.zip vs:=by
  unfold pairsOf;simp
 rw[e,zi9,yaZ];have z:((fun x:Keyed=>x.2) ∘ fun v:Value=>(v,v))=id:=rfl
 first
  | rw[z,List.map_id]
  | exact List.map_id vs
theorem zrq {vs:List Value}{xs:Array Keyed}(hp:xs.Perm (pairsOf vs))(hU:Up κ xs 0 (pairsOf vs).size) :
  (xs.toList.map (·.2)).Perm vs∧(xs.toList.map (·.2)).Pairwise (fun x y=>κ.kle (keyV κ x) (keyV κ y)):=by
 have hpl:=yci.mp hp;refine ⟨?_,?_⟩
 ·have:=hpl.map (·.2);rwa[zmt]at this
 ·have hs:SL κ xs.toList:=zqn (by rw[hp.size_eq];exact hU);refine ybT.mpr (hs.imp_of_mem fun {a b} ha hb hab=>?_);have ea:=(zks (hpl.mem_iff.mp ha)).1;have eb:=(zks (hpl.mem_iff.mp hb)).1;unfold le ky at hab;unfold keyV;rw[← ea,← eb];exact hab
theorem zjy {h:Heap}{a:Addr}{vs out:List Value}{n:Nat}(ho:h.get? a=some (seqObj "list" vs.toArray n)):zgO a h (sortedHeap h a vs out.toArray)∧∃ c,(sortedHeap h a vs out.toArray).get? a=some (seqObj "list" out.toArray c):=by
 unfold sortedHeap;refine ⟨fun b o hb e=>(ybl _ _ (Ne.symm hb)).trans (yam _ (yam _ ((ybl _ _ (Ne.symm hb)).trans e))),?_⟩;exact ⟨_,get?_update_seq (yam _ (yam _ (get?_update_seq ho (fun _=>#[])))) fun _=>out.toArray⟩
end
end Tim
namespace L2
open PySem PySem.Spec PyProof.Rows
structure DF (K:Frag)(mg:Str→Option Value)(x:Str)(st:Stmt)(ps:List Str):Prop where
 ex:∃ f fd,Fun K x x st f fd∧zd9 K fd ps []∧mg x=some (.ref f)
structure FC (P:Program)(w:World)(K:Frag)(mg:Str→Option Value)(base:Heap)(k:Nat)(x:Str)(ps:List Str)(sp:Sp):Prop where
 ex:∃ f fd,FnOk P w K mg base CX0 k f fd ps sp∧zd9 K fd ps []∧keepIn K (.ref f)=true∧mg x=some (.ref f)∧∃ oc od osl,K.lookup f=some ⟨oc,od,.func fd,osl⟩
theorem FC.at {P:Program}{w:World}{K:Frag}{mg:Str→Option Value}{base:Heap}{k:Nat}{x:Str}{ps:List Str}{sp:Sp}{f:Addr}{fd:FuncData}{oc:Value}{od:Option Addr}{osl:Array (Option Value)}(F:FC P w K mg base k x ps sp)(m:mg x=some (.ref f))(l:K.lookup f=some ⟨oc,od,.func fd,osl⟩):FnOk P w K mg base CX0 k f fd ps sp:=by
 obtain ⟨f',fd',ok,_,_,m',oc',od',osl',l'⟩:=F.ex;rw[m]at m';cases m'
 rw[l]at l';cases l'
 exact ok
theorem DF.ok {P:Program}{w:World}{K:Frag}{mg:Str→Option Value}{base:Heap}{x:Str}{st:Stmt}{N ps:List Str}{k:Nat}{sp:Sp}(D:DF K mg x st ps)(S:zap N ps (zah st))(len:∀ vs H Q E,sp vs H Q E→vs.length=ps.length)
  (hbody:∀(f:Addr) (cdv:Value) (A:Around) (outer:List Env) (s:Shared) (H:Hp) (vs:List V) (Q:VK) (E:XK),Room k (A.deeper (envOfC x (zah st) s.heap.objs.size f cdv))→sp vs H Q E→
   ∃ t,PSs (cxOf CX0 P w K mg base N x (zah st) f cdv A outer s H E).nox (zbm st) t∧t { nx:=fun _ H'=>Q .non H',rt:=Q } (zcW N vs) H):FC P w K mg base (k+1) x ps sp:=by
 obtain ⟨f,fd,F,b,m⟩:=D.ex;exact ⟨f,fd,F.ok S len fun cdv A outer s H vs Q E hr h=>hbody f cdv A outer s H vs Q E hr h,b,F.kp,m,by
  obtain ⟨oc,od,kV,doc,pm,an,cdv,ct,osl,rfl,lk,hcd⟩:=F.ex;exact ⟨oc,od,osl,lk⟩⟩
theorem zav {X:Cx}{j k:Nat}{x:Str}{ps:List Str}{sp:Sp}{e:Expr}{es:List Expr}{t:TA}{p pos:Pos}(F:FC X.prog X.w X.K X.mg X.base j x ps sp)(hr:Room k X.A)(ha:PA X (e::es) t)(hjk:j≤k:=by decide)(hg:Gl X x:=by rfl)
  (hdb:(x == ("__debug__" : Str))=false:=by decide) (he:starEach (e::es) X.env=(false,eval e X.env)::starEach es X.env:=by rfl) (hpl:(backTo pos (starEach es X.env)).any (·.1)=false:=by rfl):PE X (.Call (.Name x p) (e::es) [] pos) (zq7 sp [] E0 t):=by
 obtain ⟨f,fd,ok,b,kp,m,_⟩:=F.ex;exact zp5 ok (hr.mono hjk) hg m kp b .nil zol ha hdb he hpl
def zr6 (t u:TS):TS:=fun D σ H=>∃ M:St→Hp→Prop,t { D with nx:=M } σ H∧∀ σ' H',M σ' H'→u D σ' H'
theorem zbk {X:Cx}{st:Stmt}{rest:List Stmt}{t u:TS}(h1:PS X st t)(h2:PSs X rest u):PSs X (st::rest) (zr6 t u):=by
 intro pins s σ H D I h;obtain ⟨M,h,hM⟩:=h;refine wpAny_execs_cons (thn (h1 pins s σ H { D with nx:=M } I h) fun f s1 q=>?_);cases f with
 | next=>
  obtain ⟨σ',H',I',q⟩:=q;exact h2 pins s1 σ' H' D I' (hM σ' H' q)
 | ret v=>exact q
 | brk=>exact q
 | cont=>exact q
def zsp (i j:Int):Prop:=0 < j∧j < 2 ^ 4000
section
variable {X:Cx}
def kitO (a b:String):Option Bool:=if (Value.type a == Value.type b)=true then some true else if PySem.W.kitMeta b=true then (PySem.fastBuiltinMro a).map (·.contains (.type b)) else none
theorem zqp {K:Frag}{a b:String}:kitOne K (.type a) (.type b)=kitO a b:=rfl
def rIsi (K:Frag):List V→Hp→VK→Prop:=fun xs H Q=>∃ x n t b,xs=[x,.ty n]∧TyOf K H x (.type t)∧kitO t n=some b∧Q (.bl b) H
theorem ze6:ze8 X (.builtin "isinstance") (rIsi X.K):=by
 intro pins s σ H xs us Q I r h;obtain ⟨x,n,t,b,e,ty,ki,q⟩:=h;subst e;obtain ⟨u,w',e,r1,r2⟩:=zh9 r;subst e;cases r2
 exact znf I r1 ty (zqp.trans ki) fun tk=>⟨.bl b,H,I.tok tk,rfl,q⟩
theorem zrG:kitO "int" "int" = some true:=by decide +kernel
theorem zrH:kitO "int" "bool" = some false:=by decide +kernel
theorem zpA:kitO "list" "list" = some true:=by decide +kernel
theorem zrI:kitO "bool" "bool" = some true:=by decide +kernel
def zpY:V→List V→Hp→VK→Prop:=fun x xs H Q=>∃ i,x=.int i∧xs=[]∧Q (.int (Builtin.Int.intBits i:Nat)) H
theorem zhM:MtR X "int.bit_length" zpY:=by
 intro pins s σ H x xs v us Q I rx rv h;obtain ⟨i,rfl,rfl,q⟩:=h;obtain ⟨t,rfl⟩:=rx;cases rv
 exact call_int_bit_length ⟨.int _,H,I.tok _,⟨_,rfl⟩,q⟩
end
theorem zqr {c A B:Prop}[Decidable c](hc:¬ c)(h:B):if decide c=true then A else B:=by
 rw[yai hc];exact iteF h
theorem zrO {c A B:Prop}[Decidable c](hc:c)(h:A):if decide c=true then A else B:=by
 rw[yag hc];exact iteT h
def zdi (L:Addr)(a l:Int):HO:=.dK [(.inr "script",.ref L),(.inr "at",.int a),(.inr "left",.int l)]
def Keep (d:Addr)(H H':Hp):Prop:=∀ b o,b≠d→H b=some o→H' b=some o
theorem Keep.refl (d:Addr)(H:Hp):Keep d H H:=fun _ _ _ h=>h
theorem Keep.trans {d:Addr}{H H1 H2:Hp}(a:Keep d H H1)(b:Keep d H1 H2):Keep d H H2:=fun c o n h=>b c o n (a c o n h)
theorem Same.keep {d:Addr}{H H':Hp}(s:Same H H'):Keep d H H':=fun b o _ h=>s b o h
structure LS (K:Frag)(L d:Addr)(H:Hp):Prop where
 ex:∃(ns:List Int) (a l:Int),H d=some (zdi L a l)∧SqL K H L (ns.map V.int)
theorem zhw {K:Frag}{H H':Hp}{L d:Addr}{xs:List V}{L':Addr}{a l:Int}(hd:H d=some (zdi L' a l))(k:Keep d H H')(h:SqL K H L xs):SqL K H' L xs:=by
 have ne:∀ o,H L=some o→(∀ kvs,o≠.dK kvs)→L≠d:=fun o e n z=>by
  rw[z,hd]at e;cases e
  exact n _ rfl
 rcases h with (h | ⟨o,h⟩) | h
 ·exact .inl (.inl (k L _ (ne _ h (fun _ z=>nomatch z)) h))
 ·exact .inl (.inr ⟨o,k L _ (ne _ h (fun _ z=>nomatch z)) h⟩)
 ·exact .inr h
theorem LS.set {K:Frag}{d L:Addr}{H:Hp}{ns:List Int}{a l a' l':Int}(hd:H d=some (zdi L a l))(h:SqL K H L (ns.map V.int)):LS K L d (upd H d (zdi L a' l'))∧Keep d H (upd H d (zdi L a' l')):=by
 have k:Keep d H (upd H d (zdi L a' l')):=fun b o n e=>by rw[zaf n];exact e
 exact ⟨⟨ns,a',l',zac,zhw hd k h⟩,k⟩
theorem LS.same {K:Frag}{L d:Addr}{H H':Hp}(s:LS K L d H)(k:Same H H'):LS K L d H':=by
 obtain ⟨ns,a,l,e,q⟩:=s.ex;exact ⟨ns,a,l,k _ _ e,k.seq q⟩
theorem zai {H:Hp}{p:Addr}(h:H p=none)(o:HO):Same H (upd H p o):=fun b u q=>by rw[zaf (zab q h)];exact q
theorem LS.put {K:Frag}{L d p:Addr}{H0 H2:Hp}{o:HO}(s:LS K L d H0)(hp:H0 p=none)(k:∀ b o,b≠d→b≠p→H0 b=some o→H2 b=some o)(s2:LS K L d H2):LS K L d (upd H2 p o):=by
 obtain ⟨ns,a,l,e,q⟩:=s.ex;obtain ⟨ns2,a2,l2,e2,_⟩:=s2.ex;have hdp:d≠p:=zab e hp;have go:∀ u,H0 L=some u→(∀ kvs,u≠.dK kvs)→upd H2 p o L=some u:=fun u hu hn=>by
  have h1:L≠p:=zab hu hp;have h2:L≠d:=fun z=>by
   rw[z,e]at hu;cases hu
   exact hn _ rfl
  rw[zaf h1];exact k L u h2 h1 hu
 refine ⟨ns,a2,l2,by rw[zaf hdp];exact e2,?_⟩;rcases q with (h | ⟨ob,h⟩) | h
 ·exact .inl (.inl (go _ h (fun _ z=>nomatch z)))
 ·exact .inl (.inr ⟨ob,go _ h (fun _ z=>nomatch z)⟩)
 ·exact .inr h
section
variable {H:Hp}{d L:Addr}{a l:Int}
theorem zef {x y:Str}(h:x≠y):(Sum.inr x:Key)≠Sum.inr y:=fun z=>h (Sum.inr.inj z)
theorem zls (h:H d=some (zdi L a l)):DGet H d (.str "script") (some (.ref L)):=.inl ⟨_,.inr "script",.inl h,rfl,by rw[za6 rfl]⟩
theorem zrR (h:H d=some (zdi L a l)):DGet H d (.str "at") (some (.int a)):=.inl ⟨_,.inr "at",.inl h,rfl,by rw[zaQ (zef (show ("script" : Str) ≠ "at" by decide +kernel)),za6 rfl]⟩
theorem zhS (h:H d=some (zdi L a l)):DGet H d (.str "left") (some (.int l)):=.inl ⟨_,.inr "left",.inl h,rfl,by rw[zaQ (zef (show ("script" : Str) ≠ "left" by decide +kernel)),zaQ (zef (show ("at" : Str) ≠ "left" by decide +kernel)),za6 rfl]⟩
theorem zpq {k:Key}{v:V}{kvs kvs':List (Key×V)}(h:H d=some (.dK kvs))(hl:kvs.length < sizeLine)(e:putK kvs k v=kvs'):DPut H d (kV k) v (upd H d (.dK kvs')):=by
 subst e;exact DPut.k h hl
theorem zrj {a':Int}(h:H d=some (zdi L a l)):DPut H d (.str "at") (.int a') (upd H d (zdi L a' l)):=
 zpq (k:=.inr "at") h (by show 3 < sizeLine;decide) (by
  unfold putK;rw[if_pos (by simp)];simp only[yaw,ybz,if_neg (zef (show ("script" : Str) ≠ "at" by decide +kernel)),if_neg (zef (show ("left" : Str) ≠ "at" by decide +kernel)),if_true])
theorem zkj {l':Int}(h:H d=some (zdi L a l)):DPut H d (.str "left") (.int l') (upd H d (zdi L a l')):=
 zpq (k:=.inr "left") h (by show 3 < sizeLine;decide) (by
  unfold putK;rw[if_pos (by simp)];simp only[yaw,ybz,if_neg (zef (show ("script" : Str) ≠ "left" by decide +kernel)),if_neg (zef (show ("at" : Str) ≠ "left" by decide +kernel)),if_true])
end
def zea (K:Frag):Sp:=fun vs H Q _=>∃(d L:Addr) (m:Int),vs=[.ref d,.int m]∧(0 < m∧m < 1073741824)∧LS K L d H∧∀(v:Int) (H':Hp),0≤v→v < m→Keep d H H'→LS K L d H'→Q (.int v) H'
def zl7:Sp:=fun vs H Q _=>∃ c k:Int,vs=[.int c,.int k]∧∀ v:Int,Q (.int v) H
def zme (K:Frag):Sp:=fun vs H Q _=>∃(L:Addr) (ns:List Int),vs=[.ref L]∧SqL K H L (ns.map V.int)∧∀(d:Addr) (H':Hp),H d=none→Same H H'→LS K L d H'→Q (.ref d) H'
theorem zr1 {ns:List Int}{k:Int}(h:0 < ns.length):∃ v:Int,atI (ns.map V.int) (k % (((ns.map V.int).length:Nat):Int))=some (.int v):=by
 have e:(ns.map V.int).length=ns.length:=yaa _;have h1:(0:Int) < (((ns.map V.int).length:Nat):Int):=by rw[e];omega
 have z0:=yb2 k (Int.ne_of_gt h1);have z1:=yb3 k h1;generalize hj:k % (((ns.map V.int).length:Nat):Int)=j at z0 z1;rw[e]at z1;have hk:j.toNat < ns.length:=by omega
 obtain ⟨n,rfl⟩:∃ n:Nat,j=(n:Int):=⟨j.toNat,by omega⟩;have hn:n < ns.length:=by omega
 exact ⟨ns[n],zaP (by rw[yal,yac hn];rfl)⟩
end L2
namespace L2
open PySem PySem.Spec PyProof.Rows PySem.SeqAt
def Ext (H H':Hp):Prop:=∀ b o,H b=some o→(∀ kvs,o≠.dK kvs)→H' b=some o
theorem Same.ext {H H':Hp}(s:Same H H'):Ext H H':=fun b o h _=>s b o h
theorem Keep.ext {d L:Addr}{a l:Int}{H H':Hp}(k:Keep d H H')(h:H d=some (zdi L a l)):Ext H H':=fun b o e n=>k b o (fun z=>by
 rw[z,h]at e;cases e
 exact n _ rfl) e
theorem LS.ext {K:Frag}{L d:Addr}{H H':Hp}(s:LS K L d H)(k:Keep d H H'):Ext H H':=by
 obtain ⟨ns,a,l,e,_⟩:=s.ex;exact k.ext e
theorem LS.of_new {K:Frag}{L d:Addr}{H:Hp}(s:LS K L d H){p:Addr}(hp:H p=none)(o:HO):LS K L d (upd H p o):=s.same (zai hp o)
theorem SqL.ext {K:Frag}{H H':Hp}{a:Addr}{xs:List V}(e:Ext H H')(h:SqL K H a xs):SqL K H' a xs:=by
 rcases h with (h | ⟨o,h⟩) | h
 ·exact .inl (.inl (e _ _ h (fun _ z=>nomatch z)))
 ·exact .inl (.inr ⟨o,e _ _ h (fun _ z=>nomatch z)⟩)
 ·exact .inr h
theorem SqT.ext {K:Frag}{H H':Hp}{a:Addr}{xs:List V}(e:Ext H H')(h:SqT K H a xs):SqT K H' a xs:=by
 rcases h with (h | ⟨o,h⟩) | h
 ·exact .inl (.inl (e _ _ h (fun _ z=>nomatch z)))
 ·exact .inl (.inr ⟨o,e _ _ h (fun _ z=>nomatch z)⟩)
 ·exact .inr h
class Rep (α:Type) where
 dec:DecidableEq α
 depth:Nat
 has:Frag→Hp→α→V→Prop
 mono:∀{K:Frag} {H H':Hp} {a:α} {v:V},Ext H H'→has K H a v→has K H' a v
 inj:∀{X:Cx} {pins:List (Addr×Obj)} {σ:St} {H:Hp} {s:Shared} {a b:α} {v:V},Inv X pins σ H s→has X.K H a v→has X.K H b v→a=b
 rc:∀{X:Cx} {pins:List (Addr×Obj)} {σ:St} {H:Hp} {s:Shared} {A:Around} {a b:α} {x y:V} {u v:Value},Inv X pins σ H s→A.units+depth < cLine→has X.K H a x→has X.K H b y→RelV x u→RelV y v→RcAt A s u v (dec a b).decide
 rn:∀{X:Cx} {pins:List (Addr×Obj)} {σ:St} {H:Hp} {s:Shared} {A:Around} {a b:α} {x y:V} {u v:Value},Inv X pins σ H s→A.units+depth < cLine→has X.K H a x→has X.K H b y→RelV x u→RelV y v→RcNeAt A s u v (!(dec a b).decide)
 eq:∀{X:Cx} {pins:List (Addr×Obj)} {σ:St} {H:Hp} {s:Shared} {A:Around} {a b:α} {x y:V} {u v:Value},Inv X pins σ H s→A.units+depth < cLine→has X.K H a x→has X.K H b y→RelV x u→RelV y v→EqAt A s u v (dec a b).decide
instance (priority:=low) repDec {α:Type} [Rep α]:DecidableEq α:=Rep.dec
theorem zjM {i j:Int}:(i == j)=(Int.instDecidableEq i j).decide:=by
 by_cases h:i=j
 ·subst h;simp
 ·rw[beq_eq_false_iff_ne.mpr h];exact (yai h).symm
instance:Rep Int where
 dec:=Int.instDecidableEq
 depth:=0
 has:=fun _ _ i v=>v=.int i
 mono:=fun _ h=>h
 inj:=fun _ h1 h2=>V.int.inj (h1.symm.trans h2)
 rc:=fun _ _ h1 h2 r1 r2=>by
  subst h1 h2;obtain ⟨t,rfl⟩:=r1;obtain ⟨t',rfl⟩:=r2;rw[← zjM];exact RcAt.int_int _ _ _ _
 rn:=fun _ _ h1 h2 r1 r2=>by
  subst h1 h2;obtain ⟨t,rfl⟩:=r1;obtain ⟨t',rfl⟩:=r2;rw[← zjM];exact RcNeAt.int_int _ _ _ _
 eq:=fun _ _ h1 h2 r1 r2=>by
  subst h1 h2;obtain ⟨t,rfl⟩:=r1;obtain ⟨t',rfl⟩:=r2;rw[← zjM];exact EqAt.int_int _ _ _ _
theorem pImp {α β:Type}{R S:α→β→Prop}(h:∀ a b,R a b→S a b){as:List α}{bs:List β}(p:Paired R as bs):Paired S as bs:=by
 induction p with
 | nil=>exact .nil
 | cons a _ ih=>exact .cons (h _ _ a) ih
theorem pApp {α β:Type}{R:α→β→Prop}{as cs:List α}{bs ds:List β}(p:Paired R as bs)(q:Paired R cs ds):Paired R (as++cs) (bs++ds):=by
 induction p with
 | nil=>exact q
 | cons a _ ih=>exact .cons a ih
def zao {α:Type}[Rep α](K:Frag)(H:Hp):List α→List V→Prop:=Paired (Rep.has K H)
section
variable {α:Type}[Rep α]{K:Frag}{H H':Hp}
theorem zao.mono (e:Ext H H'){as:List α}{xs:List V}(h:zao K H as xs):zao K H' as xs:=pImp (fun _ _=>Rep.mono e) h
theorem zao.length {as:List α}{xs:List V}(h:zao K H as xs):as.length=xs.length:=Paired.length h
theorem zao.get:∀{as:List α} {xs:List V} {i:Nat} {x:V},zao K H as xs→xs[i]?=some x→∃ a,as[i]?=some a∧Rep.has K H a x
 | _,_,_,_,.nil,e=>by simp at e
 | _,_,0,_,.cons h _,e=>by simp at e;subst e;exact ⟨_,rfl,h⟩
 | _,_,i+1,x,.cons _ t,e=>by
  obtain ⟨a,h1,h2⟩:=zao.get (i:=i) (x:=x) t (by simpa using e);exact ⟨a,by simpa using h1,h2⟩
theorem zao.append {as bs:List α}{xs ys:List V}(h:zao K H as xs)(g:zao K H bs ys):zao K H (as++bs) (xs++ys):=pApp h g
theorem zao.take:∀{as:List α} {xs:List V} (n:Nat),zao K H as xs→zao K H (as.take n) (xs.take n)
 | _,_,0,_=>.nil
 | _,_,_+1,.nil=>.nil
 | _,_,n+1,.cons r t=>.cons r (zao.take n t)
theorem zao.ints:∀{ns:List Int},zao K H ns (ns.map V.int)
 | []=>.nil
 | _::_=>.cons rfl zao.ints
theorem zao.toInts {ns:List Int}{xs:List V}(h:zao K H ns xs):xs=ns.map V.int:=by
 unfold zao at h
 induction h with
 | nil=>rfl
 | cons h _ ih=>
  have e:_=V.int _:=h;rw[e,ih];rfl
theorem zao.inj {X:Cx}{pins:List (Addr×Obj)}{σ:St}{s:Shared}(I:Inv X pins σ H s){as bs:List α}{xs:List V}(h:zao X.K H as xs)(g:zao X.K H bs xs):as=bs:=by
 unfold zao at h g
 induction h generalizing bs with
 | nil=>cases g;rfl
 | cons h _ ih=>
  cases g with
  | cons h' t'=>rw[Rep.inj I h h',ih t']
end
theorem zhn {α:Type}[DecidableEq α]:∀(as bs:List α),as.length=bs.length→((List.range as.length).all fun j=>decide (as[j]?=bs[j]?))=decide (as=bs):=by
 intro as bs hl;by_cases h:as=bs
 ·subst h;simp
 ·rw[yai h,List.all_eq_false]
  false_or_by_contra
  rename_i z;apply h;apply ybe;intro i;by_cases hi:i < as.length
  ·false_or_by_contra
   rename_i q;exact z ⟨i,yaW.mpr hi,by simpa using q⟩
  ·rw[ya3 (by omega),ya3 (by omega)]
section
variable {α:Type}[r:Rep α]
theorem zc3 {A:Around}:A.in1.units≤A.units+1:=by
 first
  | exact yab _
  | (unfold Around.in1;simp)
theorem zkH {X:Cx}{pins:List (Addr×Obj)}{σ:St}{H:Hp}{s:Shared}{A:Around}{as bs:List α}{xs ys:List V}{us vs:List Value}(I:Inv X pins σ H s)(hu:A.units+Rep.depth α < cLine)
  (h1:zao X.K H as xs) (h2:zao X.K H bs ys) (r1:Vals xs us) (r2:Vals ys vs):∀ j (q1:j < us.toArray.size) (q2:j < vs.toArray.size),EqAt A s us.toArray[j] vs.toArray[j] (decide (as[j]?=bs[j]?)):=by
 intro j q1 q2;have l1:=r1.length;have l2:=r2.length;have m1:=h1.length;have m2:=h2.length;have j1:j < us.length:=by simpa using q1
 have j2:j < vs.length:=by simpa using q2
 obtain ⟨a,ea,ha⟩:=h1.get (i:=j) (yac (by omega));obtain ⟨b,eb,hb⟩:=h2.get (i:=j) (yac (by omega));obtain ⟨u,eu,ru⟩:=r1.get (i:=j) (yac (by omega));obtain ⟨v,ev,rv⟩:=r2.get (i:=j) (yac (by omega));have gu:us.toArray[j]=u:=by
  have:us[j]?=some us[j]:=yac j1;rw[eu]at this;simpa using (yae this).symm
 have gv:vs.toArray[j]=v:=by
  have:vs[j]?=some vs[j]:=yac j2;rw[ev]at this;simpa using (yae this).symm
 rw[gu,gv,ea,eb];have e:decide (some a=some b)=(Rep.dec a b).decide:=by
  by_cases z:a=b
  ·subst z;simp
  ·rw[yai (fun q=>z (yae q))];exact (yai z).symm
 rw[e];exact Rep.eq I hu ha hb ru rv
end
def hasL {α:Type}[Rep α](K:Frag)(H:Hp)(as:List α)(v:V):Prop:=∃ a xs,v=.ref a∧SqL K H a xs∧zao K H as xs
section
variable {α:Type}[r:Rep α]{X:Cx}{pins:List (Addr×Obj)}{σ:St}{H:Hp}{s:Shared}{A:Around}{as bs:List α}{x y:V}{u v:Value}
theorem zoV (I:Inv X pins σ H s)(h1:hasL X.K H as x)(h2:hasL X.K H bs x):as=bs:=by
 obtain ⟨a,xs,rfl,q1,h1⟩:=h1;obtain ⟨b,ys,e,q2,h2⟩:=h2;cases e
 rw[I.list_inj q2 q1]at h2;exact h1.inj I h2
theorem znm (I:Inv X pins σ H s)(hu:A.units+(Rep.depth α+1) < cLine)(h1:hasL X.K H as x)(h2:hasL X.K H bs y)(r1:RelV x u)(r2:RelV y v):RcAt A s u v (decide (as=bs)):=by
 obtain ⟨a,xs,rfl,q1,h1⟩:=h1;obtain ⟨b,ys,rfl,q2,h2⟩:=h2;cases r1
 cases r2
 obtain ⟨us,ru,pu,_⟩:=I.list q1;obtain ⟨vs,rv,pv,_⟩:=I.list q2;have l1:=ru.length;have l2:=rv.length;have m1:=h1.length;have m2:=h2.length;have hin:A.in1.units+Rep.depth α < cLine:=ya2 (ybB zc3 _) (by omega);by_cases hl:as.length=bs.length
 ·have e:=zhn as bs hl;rw[← e];have z:as.length=us.toArray.size:=by simp;omega
  rw[z];exact RcAt.lists pu.isList pv.isList (by simp;omega) (by omega) (zkH I hin h1 h2 ru rv)
 ·rw[yai (fun z=>hl (by rw[z]))];exact RcAt.lists_lengths pu.isList pv.isList (by simp;omega) (by omega)
theorem zqv (I:Inv X pins σ H s)(hu:A.units+(Rep.depth α+1) < cLine)(h1:hasL X.K H as x)(h2:hasL X.K H bs y)(r1:RelV x u)(r2:RelV y v):RcNeAt A s u v (!decide (as=bs)):=by
 obtain ⟨a,xs,rfl,q1,h1⟩:=h1;obtain ⟨b,ys,rfl,q2,h2⟩:=h2;cases r1
 cases r2
 obtain ⟨us,ru,pu,_⟩:=I.list q1;obtain ⟨vs,rv,pv,_⟩:=I.list q2;have l1:=ru.length;have l2:=rv.length;have m1:=h1.length;have m2:=h2.length;have hin:A.in1.units+Rep.depth α < cLine:=ya2 (ybB zc3 _) (by omega);by_cases hl:as.length=bs.length
 ·have e:=zhn as bs hl;rw[← e];have z:as.length=us.toArray.size:=by simp;omega
  rw[z];exact RcNeAt.lists pu.isList pv.isList (by simp;omega) (by omega) (zkH I hin h1 h2 ru rv)
 ·rw[yai (fun z=>hl (by rw[z])),Bool.not_false];exact RcNeAt.lists_lengths pu.isList pv.isList (by simp;omega) (by omega)
theorem zqw (I:Inv X pins σ H s)(hu:A.units+(Rep.depth α+1) < cLine)(h1:hasL X.K H as x)(h2:hasL X.K H bs y)(r1:RelV x u)(r2:RelV y v):EqAt A s u v (decide (as=bs)):=by
 have rc:=znm (A:=A) I hu h1 h2 r1 r2;obtain ⟨a,xs,rfl,q1,h1⟩:=h1;obtain ⟨b,ys,rfl,q2,h2⟩:=h2;cases r1
 cases r2
 by_cases hab:a=b
 ·subst hab;rw[I.list_inj q2 q1]at h2;rw[yag (h1.inj I h2)];exact EqAt.same _
 ·exact EqAt.of_refs hab rc
end
instance {α:Type} [Rep α]:Rep (List α) where
 dec:=inferInstance
 depth:=Rep.depth α+1
 has:=hasL
 mono:=fun e ⟨a,xs,h1,h2,h3⟩=>⟨a,xs,h1,h2.ext e,h3.mono e⟩
 inj:=fun I h1 h2=>zoV I h1 h2
 rc:=fun I hu h1 h2 r1 r2=>znm I hu h1 h2 r1 r2
 rn:=fun I hu h1 h2 r1 r2=>zqv I hu h1 h2 r1 r2
 eq:=fun I hu h1 h2 r1 r2=>zqw I hu h1 h2 r1 r2
def hasP {α β:Type}[Rep α][Rep β](K:Frag)(H:Hp)(p:α×β)(v:V):Prop:=∃ a x y,v=.ref a∧H a=some (.tup [x,y])∧Rep.has K H p.1 x∧Rep.has K H p.2 y
section
variable {α β:Type}[ra:Rep α][rb:Rep β]{X:Cx}{pins:List (Addr×Obj)}{σ:St}{H:Hp}{s:Shared}{A:Around}{p q:α×β}{x y:V}{u v:Value}
theorem zkK (I:Inv X pins σ H s)(h1:hasP X.K H p x)(h2:hasP X.K H q x):p=q:=by
 obtain ⟨a,x1,x2,rfl,q1,e1,e2⟩:=h1;obtain ⟨b,y1,y2,e,q2,f1,f2⟩:=h2;cases e
 have z:=I.tuple_inj (SqT.of q2) (SqT.of q1);cases z
 have g1:=Rep.inj I e1 f1;have g2:=Rep.inj I e2 f2;obtain ⟨p1,p2⟩:=p;obtain ⟨s1,s2⟩:=q;cases g1
 cases g2
 rfl
theorem znl (I:Inv X pins σ H s)(hu:A.units+(Rep.depth α+Rep.depth β+1) < cLine)(h1:hasP X.K H p x)(h2:hasP X.K H q y)(r1:RelV x u)(r2:RelV y v):RcAt A s u v (decide (p=q)):=by
 obtain ⟨a,x1,x2,rfl,q1,e1,e2⟩:=h1;obtain ⟨b,y1,y2,rfl,q2,f1,f2⟩:=h2;cases r1
 cases r2
 obtain ⟨us,ru,pu,_⟩:=I.tuple (SqT.of q1);obtain ⟨vs,rv,pv,_⟩:=I.tuple (SqT.of q2);obtain ⟨u1,u2,rfl,ru1,ru2⟩:=zh9 ru;obtain ⟨v1,v2,rfl,rv1,rv2⟩:=zh9 rv;have hin:∀ n,n≤Rep.depth α+Rep.depth β→A.in1.units+n < cLine:=fun n hn=>ya2 (ybB zc3 _) (by omega);have c1:=Rep.eq (A:=A.in1) I (hin _ (by omega)) e1 f1 ru1 rv1;have c2:=Rep.eq (A:=A.in1) I (hin _ (by omega)) e2 f2 ru2 rv2;have:=RcAt.tuples (A:=A) (s:=s) (l:=a) (b:=b) (items:=#[u1,u2]) (items2:=#[v1,v2]) (e:=fun j=>if j=0 then (Rep.dec p.1 q.1).decide else (Rep.dec p.2 q.2).decide) pu pv (by omega) (by
  intro j h1 h2;have h1':j < 2:=h1;have z:j=0∨j=1:=by omega
  rcases z with rfl | rfl
  ·exact c1
  ·exact c2)
 have e:((List.range (min (#[u1,u2]:Array Value).size (#[v1,v2]:Array Value).size)).all (fun j=>if j=0 then (Rep.dec p.1 q.1).decide else (Rep.dec p.2 q.2).decide) && (#[u1,u2]:Array Value).size == (#[v1,v2]:Array Value).size)=decide (p=q):=by
  obtain ⟨p1,p2⟩:=p;obtain ⟨s1,s2⟩:=q;show (((List.range 2).all fun j=>if j=0 then (Rep.dec p1 s1).decide else (Rep.dec p2 s2).decide) && true)=_
  rw[show List.range 2=[0,1] from rfl];simp only[ybS,List.all_nil,Bool.and_true,if_true];rw[if_neg (by decide)];by_cases z1:p1=s1
  ·by_cases z2:p2=s2
   ·subst z1 z2;simp
   ·subst z1;simp[z2]
  ·simp[z1]
 rw[e]at this;exact this
theorem zqt (I:Inv X pins σ H s)(hu:A.units+(Rep.depth α+Rep.depth β+1) < cLine)(h1:hasP X.K H p x)(h2:hasP X.K H q y)(r1:RelV x u)(r2:RelV y v):RcNeAt A s u v (!decide (p=q)):=by
 obtain ⟨a,x1,x2,rfl,q1,e1,e2⟩:=h1;obtain ⟨b,y1,y2,rfl,q2,f1,f2⟩:=h2;cases r1
 cases r2
 obtain ⟨us,ru,pu,_⟩:=I.tuple (SqT.of q1);obtain ⟨vs,rv,pv,_⟩:=I.tuple (SqT.of q2);obtain ⟨u1,u2,rfl,ru1,ru2⟩:=zh9 ru;obtain ⟨v1,v2,rfl,rv1,rv2⟩:=zh9 rv;have hin:∀ n,n≤Rep.depth α+Rep.depth β→A.in1.units+n < cLine:=fun n hn=>ya2 (ybB zc3 _) (by omega);have c1:=Rep.eq (A:=A.in1) I (hin _ (by omega)) e1 f1 ru1 rv1;have c2:=Rep.eq (A:=A.in1) I (hin _ (by omega)) e2 f2 ru2 rv2;have:=RcNeAt.tuples (A:=A) (s:=s) (l:=a) (b:=b) (items:=#[u1,u2]) (items2:=#[v1,v2]) (e:=fun j=>if j=0 then (Rep.dec p.1 q.1).decide else (Rep.dec p.2 q.2).decide) pu pv (by omega) (by
  intro j h1 h2;have h1':j < 2:=h1;have z:j=0∨j=1:=by omega
  rcases z with rfl | rfl
  ·exact c1
  ·exact c2)
 have e:((List.range (min (#[u1,u2]:Array Value).size (#[v1,v2]:Array Value).size)).all (fun j=>if j=0 then (Rep.dec p.1 q.1).decide else (Rep.dec p.2 q.2).decide) && (#[u1,u2]:Array Value).size == (#[v1,v2]:Array Value).size)=decide (p=q):=by
  obtain ⟨p1,p2⟩:=p;obtain ⟨s1,s2⟩:=q;show (((List.range 2).all fun j=>if j=0 then (Rep.dec p1 s1).decide else (Rep.dec p2 s2).decide) && true)=_
  rw[show List.range 2=[0,1] from rfl];simp only[ybS,List.all_nil,Bool.and_true,if_true];rw[if_neg (by decide)];by_cases z1:p1=s1
  ·by_cases z2:p2=s2
   ·subst z1 z2;simp
   ·subst z1;simp[z2]
  ·simp[z1]
 rw[e]at this;exact this
theorem zqu (I:Inv X pins σ H s)(hu:A.units+(Rep.depth α+Rep.depth β+1) < cLine)(h1:hasP X.K H p x)(h2:hasP X.K H q y)(r1:RelV x u)(r2:RelV y v):EqAt A s u v (decide (p=q)):=by
 have rc:=znl (A:=A) I hu h1 h2 r1 r2;have h1':=id h1;have h2':=id h2;obtain ⟨a,x1,x2,rfl,q1,e1,e2⟩:=h1;obtain ⟨b,y1,y2,rfl,q2,f1,f2⟩:=h2;cases r1
 cases r2
 by_cases hab:a=b
 ·subst hab;rw[yag (zkK I h1' h2')];exact EqAt.same _
 ·exact EqAt.of_refs hab rc
end
instance {α β:Type} [Rep α] [Rep β]:Rep (α×β) where
 dec:=inferInstance
 depth:=Rep.depth α+Rep.depth β+1
 has:=hasP
 mono:=fun e ⟨a,x,y,h1,h2,h3,h4⟩=>⟨a,x,y,h1,e _ _ h2 (fun _ z=>nomatch z),Rep.mono e h3,Rep.mono e h4⟩
 inj:=fun I h1 h2=>zkK I h1 h2
 rc:=fun I hu h1 h2 r1 r2=>znl I hu h1 h2 r1 r2
 rn:=fun I hu h1 h2 r1 r2=>zqt I hu h1 h2 r1 r2
 eq:=fun I hu h1 h2 r1 r2=>zqu I hu h1 h2 r1 r2
theorem huD {A:Around}{k:Nat}{α:Type}[Rep α](hr:Room k A)(h:Rep.depth α≤64:=by decide):A.units+Rep.depth α < cLine:=ya2 (ycg h _) hr.units
def rEqD (α:Type)[Rep α](K:Frag):R2:=fun x y H Q=>∃ a b:α,Rep.has K H a x∧Rep.has K H b y∧Q (.bl (decide (a=b))) H
def rNeD (α:Type)[Rep α](K:Frag):R2:=fun x y H Q=>∃ a b:α,Rep.has K H a x∧Rep.has K H b y∧Q (.bl (!decide (a=b))) H
section
variable {X:Cx}
theorem zku (α:Type)[Rep α](hu:X.A.units+Rep.depth α < cLine):OpR X (compareOp .Eq) (rEqD α X.K):=by
 intro pins s σ H x y v u Q I rx ry h;obtain ⟨a,b,ha,hb,q⟩:=h;refine Rep.rc I hu ha hb rx ry X.prog X.w X.xe _ ⟨.bl _,H,I,rfl,?_⟩;have e:(Rep.dec a b).decide=decide (a=b):=rfl;rw[e];exact q
theorem zgl (α:Type)[Rep α](hu:X.A.units+Rep.depth α < cLine):OpR X (compareOp .NotEq) (rNeD α X.K):=by
 intro pins s σ H x y v u Q I rx ry h;obtain ⟨a,b,ha,hb,q⟩:=h;refine Rep.rn I hu ha hb rx ry X.prog X.w X.xe _ ⟨.bl _,H,I,rfl,?_⟩;have e:(Rep.dec a b).decide=decide (a=b):=rfl;rw[e];exact q
end
end L2
namespace L2
open PySem PySem.Spec PyProof.Rows
section
variable {X:Cx}{pins:List (Addr×Obj)}{σ:St}{H:Hp}{s:Shared}{h':Heap}
theorem Inv.turnedNew {t':Nat}{fp:List Addr}{p:Addr}{o:HO}(I:Inv X pins σ H s)(k:∀ b ob,b∉fp→s.heap.get? b=some ob→h'.get? b=some ob)(hf:∀ b∈fp,FpOk X pins H b)
  (hp:s.heap.objs.size≤p) (new:zbK X.prog X.w (upd H p o) h' p o):Inv X pins σ (upd H p o) { s with heap:=h',toks:=t' }:=by
 have hn:H p=none:=I.hok.fresh hp;have nfp:∀ b u,H b=some u→b∉fp:=fun b u e z=>by rw[(hf b z).1]at e;cases e
 have nep:∀ b ob,s.heap.get? b=some ob→b≠p:=fun b ob e=>yaq (yas (yaf e) hp);refine I.step (g':=s.gens) (d':=s.drawn) (ch:=fp) (fun b hb=>?_) (fun b ob _ _ hc e _=>k b ob hc e) (fun b ob _ _ hc e _=>⟨ob.slots,k b ob hc e⟩) (fun b ob _ e n=>by rw[zaf (nep b ob e)];exact n)
  (fun b ob hc e=>⟨ob,k b ob hc e⟩) (fun b xs e=>by rw[zaf (zab e hn)];exact e) (fun b ob u e=>by rw[zaf (zab e hn)];exact e) (fun b ps e=>⟨#[],by rw[zaf (zab e hn),e];simp⟩) (fun m hm=>?_) (fun b u e=>?_) I.bare
 ·obtain ⟨_,h2,_,h4,h5,h6⟩:=hf b hb;exact ⟨h4,h2,h5,h6⟩
 ·obtain ⟨ob,es,ep,ho,r⟩:=hm;exact ⟨ob,es,ep,k _ ob (fun z=>(hf _ z).2.1 rfl) ho,r⟩
 ·by_cases hb:b=p
  ·subst hb;rw[zac]at e;cases e;exact new
  ·rw[zaf hb]at e;refine (I.hok b u e).stay (fun c v hc q=>k c v ?_ q) (fun c q=>by rw[zaf (zab q hn)];exact q) fun c xs q=>by rw[zaf (zab q hn)];exact q
   rcases hc with z | z
   ·rw[z];exact nfp b u e
   ·exact nfp c _ z
theorem zlS {P:Program}{w:World}{H:Hp}{h:Heap}{p:Addr}{x y:V}{u v:Value}(rx:RelV x u)(ry:RelV y v)(e:h.get? p=some { cls:=.type "tuple",data:=.seq #[u,v] }):zbK P w H h p (.tup [x,y]):=
 ⟨by show 2≤sizeLine;decide,[u,v],.cons rx (.cons ry .nil),_,e,rfl,0,rfl⟩
end
def Ite (K:Frag)(a:Addr):It:=
 ⟨fun i H=>∃ xs x,SqL K H a xs∧xs[i]?=some x,fun i H x H'=>∃ p y,x=.ref p∧H p=none∧(∀ xs,SqL K H a xs→xs[i]?=some y)∧H'=upd H p (.tup [.int i,y]),fun i H=>∃ xs,SqL K H a xs∧xs.length≤i⟩
theorem zlQ {P:Program}{w:World}{K:Frag}{es:List Expr}{k0}{pos:Pos}(a it e:Addr)(hne:e≠it):Turn P w K (.Tuple es k0 pos) (Ite K a) [e,it] e (fun i h=>(∃ old,IsEnum h e it i old)∧h.IsListIter it a i) where
 mem:=by simp
 obj:=fun i h st b hb=>by
  obtain ⟨⟨old,he⟩,o,ho,c,d⟩:=st;rcases yaj.mp hb with z | z
  ·subst z;exact ⟨_,he,fun v z=>by cases z⟩
  ·have z:=yap.mp z;subst z;exact ⟨o,ho,fun v z=>by rw[d]at z;cases z⟩
 keep:=fun i h h' st k=>by
  obtain ⟨⟨old,he⟩,hi⟩:=st;exact ⟨⟨old,k e (by simp) _ he⟩,hi.at fun o q=>k it (by simp) o q⟩
 item:=by
  intro X hP hw hK hc i pins s σ H E I hf st hg;subst hP hw hK;obtain ⟨⟨old,he⟩,hi⟩:=st;obtain ⟨xs,x,hq,hx⟩:=hg;obtain ⟨its,rv,p,hz⟩:=I.list hq;obtain ⟨u,hu,ru⟩:=rv.get hx;refine wpAny_pyNext_enum_item he hi p.isList (x:=u) (by simpa using hu) hne fun h1 he1 hi1 ht1 _ k1=>?_;refine ⟨_,rfl,wpAny_letOwnedTupleGo_enum (s:={ s with heap:=h1,toks:=s.toks+1 }) he1 fun h2 he2 sb=>?_⟩;have np:s.heap.objs.size≠e:=ybh (yaf he);have ht2:h2.get? s.heap.objs.size=some { cls:=.type "tuple",data:=.seq #[.int i s.toks,u] }:=(sb.2 _ np).trans ht1;have I2:Inv X pins σ (upd H s.heap.objs.size (.tup [.int i,x])) { s with heap:=h2,toks:=s.toks+1 }:=
   I.turnedNew (fp:=[e,it]) (fun b ob hb q=>(sb.2 b (fun z=>hb (by simp[z]))).trans (k1 b ob (fun z=>hb (by simp[z])) (fun z=>hb (by simp[z])) q)) hf (yab _) (zlS ⟨_,rfl⟩ ru ht2)
  refine ⟨.ref s.heap.objs.size,_,I2,rfl,⟨_,x,rfl,I.hok.fresh (yab _),fun ys hy=>by rw[I.list_inj hy hq];exact hx,rfl⟩,⟨⟨u,?_⟩,?_⟩,fun b hb=>?_⟩
  ·have z:IsEnum h2 e it ((i:Int)+1) u:=he2;exact z
  ·exact hi1.at fun o q=>(sb.2 it (Ne.symm hne)).trans q
  ·have z:=(hf b hb).1;rw[zaf ?_]
   ·exact z
   ·rcases yaj.mp hb with q | q
    ·rw[q];exact Ne.symm np
    ·rw[yap.mp q];obtain ⟨o,ho,_⟩:=hi;exact yaq (yaf ho)
 done:=by
  intro X hP hw hK hc i pins s σ H E I hf st hg;subst hP hw hK;obtain ⟨⟨old,he⟩,hi⟩:=st;obtain ⟨xs,hq,hx⟩:=hg;obtain ⟨its,rv,p,hz⟩:=I.list hq;obtain ⟨f0,f1,f2,f3,f4,f5⟩:=hf it (by simp);have hl:=rv.length;exact wpAny_pyNext_enum_end (I.ok.hd hc) he hi p.isList (by simp;omega) fun h' eb=>⟨rfl,I.turned (t':=s.toks) (fun b o hb q=>eb b o hb q) f0 f1 f3 f4 f5⟩
 self:=fun _ _ _ _ _ st h=>by
  obtain ⟨⟨old,he⟩,_⟩:=st;exact wpAny_pyIter_enum he h
def zsl (K:Frag)(ta:TA):TI:=fun σ H R=>ta σ H fun vs H1=>∃ a,vs=[.ref a]∧(∃ xs,SqL K H1 a xs)∧R (Ite K a) H1
section
variable {X:Cx}
theorem zdx {es:List Expr}{k0}{tp:Pos}{a:Expr}{ta:TA}{p pos:Pos}(hg:Gl X "enumerate")(hm:X.mg "enumerate" = none)(ha:PA X [a] ta)(hs:starEach [a] X.env=[(false,eval a X.env)]:=by rfl):PI X (.Tuple es k0 tp) (.Call (.Name "enumerate" p) [a] [] pos) (zsl X.K ta):=by
 intro pins s σ H R I h;refine Call_ (zft I hg hm boot_enumerate (PyProof.Rows.callWith_type1 (thn (ha pos pins s σ H _ I h) fun us s1 zq0=>?_) hs rfl));obtain ⟨vs,H1,I1,r1,q1⟩:=zq0;obtain ⟨l,e,⟨xs,hq⟩,q⟩:=q1;subst e;cases r1 with
 | cons r rr=>
  cases rr
  cases r
  obtain ⟨its,rv,pl,hz⟩:=I1.list hq;refine call_enumerate_list pl.isList fun h' he hi _ hk=>?_;have I2:Inv X pins σ H1 { s1 with heap:=h' }:=I1.kept (t':=s1.toks) hk;refine wpAny_pyIter_enum (s:={ s1 with heap:=h' }) he ⟨_,[s1.heap.objs.size+1,s1.heap.objs.size],_,_,H1,rfl,I2,zlQ l s1.heap.objs.size (s1.heap.objs.size+1) (Nat.succ_ne_self _),⟨⟨_,he⟩,hi⟩,fun b hb=>?_,q⟩;have hb':s1.heap.objs.size≤b:=by
   rcases yaj.mp hb with z | z
   ·rw[z];exact yaX _
   ·rw[yap.mp z];exact yab _
  exact I1.fpOk hb' (I1.hok.fresh hb')
end
theorem zhT {K:Frag}{a:Addr}{xs:List V}{g:TG}{tb:TS}{D:Ends}{σ:St}{H:Hp}(Pv:Nat→St→Hp→Prop)(h0:Pv 0 σ H)(hl:∀ i σ H,i≤xs.length→Pv i σ H→SqL K H a xs)
  (hs:∀ i x σ H p,xs[i]?=some x→Pv i σ H→H p=none→g (.ref p) σ (upd H p (.tup [.int i,x])) fun σ2 H2=>tb { D with nx:=Pv (i+1),ct:=Pv (i+1),bk:=D.nx } σ2 H2) (hd:∀ σ H,Pv xs.length σ H→D.nx σ H) :
  ∃ W:Nat→Nat→St→Hp→Prop,(∃ m,W 0 m σ H)∧∀ i m σ H,W i m σ H→((Ite K a).stop i H∧D.nx σ H)∨((Ite K a).go i H∧∃ N:St→Hp→Prop,(∀ σ' H',N σ' H'→∃ m',m' < m∧W (i+1) m' σ' H')∧∀ x H',(Ite K a).yld i H x H'→g x σ H' fun σ2 H2=>tb { D with nx:=N,ct:=N,bk:=D.nx } σ2 H2):=by
 refine ⟨fun i m σ H=>i+m=xs.length∧Pv i σ H,⟨xs.length,by omega,h0⟩,fun i m σ H zq0=>?_⟩;obtain ⟨e,pv⟩:=zq0;have hS:=hl i σ H (by omega) pv;by_cases hi:i < xs.length
 ·refine .inr ⟨⟨xs,xs[i],hS,yac hi⟩,Pv (i+1),fun σ' H' q=>⟨m - 1,by omega,by omega,q⟩,fun x H' y=>?_⟩;obtain ⟨p,z,rfl,hp,hz,rfl⟩:=y;exact hs i z σ H p (hz xs hS) pv hp
 ·have:i=xs.length:=by omega
  subst this;exact .inl ⟨⟨xs,hS,yab _⟩,hd σ H pv⟩
def Itz (K:Frag)(a b:Addr):It:=
 ⟨fun i H=>∃ xs ys x y,SqL K H a xs∧SqL K H b ys∧xs[i]?=some x∧ys[i]?=some y,fun i H x H'=>∃ p y z,x=.ref p∧H p=none∧(∀ xs,SqL K H a xs→xs[i]?=some y)∧(∀ xs,SqL K H b xs→xs[i]?=some z)∧H'=upd H p (.tup [y,z]),fun i H=>∃ xs ys,SqL K H a xs∧SqL K H b ys∧(xs.length≤i∨ys.length≤i)⟩
theorem znX {P:Program}{w:World}{K:Frag}{es:List Expr}{k0}{pos:Pos}{a b z TI TO i1 i2:Addr}(D:ZipApart z TI TO i1 i2 a b):Turn P w K (.Tuple es k0 pos) (Itz K a b) [z,TI,TO,i1,i2] z
  (fun i h=>IsZip h z TI TO .none∧IsPair h TI (.ref i1) (.ref i2)∧(∃ u v,IsPair h TO u v)∧h.IsListIter i1 a i∧h.IsListIter i2 b i) where
 mem:=by simp
 obj:=fun i h st c hc=>by
  obtain ⟨hz,hTI,⟨u,v,hTO⟩,⟨o1,e1,_,d1⟩,⟨o2,e2,_,d2⟩⟩:=st;simp only[yaj,yax,or_false]at hc;rcases hc with rfl | rfl | rfl | rfl | rfl
  ·exact ⟨_,hz,fun v q=>by cases q⟩
  ·exact ⟨_,hTI,fun v q=>by cases q⟩
  ·exact ⟨_,hTO,fun v q=>by cases q⟩
  ·exact ⟨o1,e1,fun v q=>by rw[d1]at q;cases q⟩
  ·exact ⟨o2,e2,fun v q=>by rw[d2]at q;cases q⟩
 keep:=fun i h h' st k=>by
  obtain ⟨hz,hTI,⟨u,v,hTO⟩,h1,h2⟩:=st;exact ⟨k z (by simp) _ hz,k TI (by simp) _ hTI,⟨u,v,k TO (by simp) _ hTO⟩,h1.at fun o q=>k i1 (by simp) o q,h2.at fun o q=>k i2 (by simp) o q⟩
 item:=by
  intro X hP hw hK hc i pins s σ H E I hf st hg;subst hP hw hK;obtain ⟨hz,hTI,⟨u0,v0,hTO⟩,h1,h2⟩:=st;obtain ⟨xs,ys,x,y,hqa,hqb,hx,hy⟩:=hg;obtain ⟨its,rv,p,_⟩:=I.list hqa;obtain ⟨jts,rw',p',_⟩:=I.list hqb;obtain ⟨u,hu,ru⟩:=rv.get hx;obtain ⟨v,hv,rv'⟩:=rw'.get hy;refine wpAny_pyNext_zip_item D hz hTI hTO h1 h2 p.isList p'.isList (x:=u) (y:=v) (by simpa using hu) (by simpa using hv) fun h1' hz1 hTO1 hi1 hi2 ht1 _ k1=>?_;refine ⟨_,rfl,wpAny_letOwnedTupleGo_zip (s:={ s with heap:=h1' }) hz1 fun h2' hz2 sb=>?_⟩;have np:s.heap.objs.size≠z:=ybh (yaf hz);have ht2:h2'.get? s.heap.objs.size=some { cls:=.type "tuple",data:=.seq #[u,v] }:=(sb.2 _ np).trans ht1;have I2:Inv X pins σ (upd H s.heap.objs.size (.tup [x,y])) { s with heap:=h2',toks:=s.toks }:=
   I.turnedNew (fp:=[z,TI,TO,i1,i2]) (fun c ob hb q=>(sb.2 c (fun r=>hb (by simp[r]))).trans (k1 c ob (fun r=>hb (by simp[r])) (fun r=>hb (by simp[r])) (fun r=>hb (by simp[r])) (fun r=>hb (by simp[r])) q)) hf (yab _) (zlS ru rv' ht2)
  refine ⟨.ref s.heap.objs.size,_,I2,rfl,⟨_,x,y,rfl,I.hok.fresh (yab _),fun ys hy'=>by rw[I.list_inj hy' hqa];exact hx,fun ys hy'=>by rw[I.list_inj hy' hqb];exact hy,rfl⟩,⟨hz2,(sb.2 _ D.TIz).trans (k1 TI _ D.TIz D.TITO D.TIi1 D.TIi2 hTI),⟨_,_,(sb.2 _ D.TOz).trans hTO1⟩,hi1.at fun o q=>(sb.2 i1 D.i1z).trans q,hi2.at fun o q=>(sb.2 i2 D.i2z).trans q⟩,fun c hb=>?_⟩;have zf:=(hf c hb).1;have lt:c < s.heap.objs.size:=by
   simp only[yaj,yax,or_false]at hb;obtain ⟨o1,e1,_⟩:=h1;obtain ⟨o2,e2,_⟩:=h2;rcases hb with rfl | rfl | rfl | rfl | rfl
   ·exact yaf hz
   ·exact yaf hTI
   ·exact yaf hTO
   ·exact yaf e1
   ·exact yaf e2
  rw[zaf (yaq lt)];exact zf
 done:=by
  intro X hP hw hK hc i pins s σ H E I hf st hg;subst hP hw hK;obtain ⟨hz,hTI,⟨u0,v0,hTO⟩,h1,h2⟩:=st;obtain ⟨xs,ys,hqa,hqb,hend⟩:=hg;obtain ⟨its,rv,p,_⟩:=I.list hqa;obtain ⟨jts,rw',p',_⟩:=I.list hqb;have l1:=rv.length;have l2:=rw'.length;refine wpAny_pyNext_zip_end (I.ok.hd hc) D hz hTI hTO h1 h2 p.isList p'.isList (by
   rcases hend with q | q
   ·left;simp;omega
   ·right;simp;omega) fun h' kk=>⟨rfl,?_⟩
  refine I.step (g':=s.gens) (d':=s.drawn) (t':=s.toks) (ch:=[z,TI,TO,i1,i2]) (fun c hb=>?_) (fun c ob _ _ hn q _=>kk c ob (fun r=>hn (by simp[r])) (fun r=>hn (by simp[r])) (fun r=>hn (by simp[r])) (fun r=>hn (by simp[r])) q)
   (fun c ob _ _ hn q _=>⟨ob.slots,kk c ob (fun r=>hn (by simp[r])) (fun r=>hn (by simp[r])) (fun r=>hn (by simp[r])) (fun r=>hn (by simp[r])) q⟩) (fun _ _ _ _ n=>n)
   (fun c ob hn q=>⟨ob,kk c ob (fun r=>hn (by simp[r])) (fun r=>hn (by simp[r])) (fun r=>hn (by simp[r])) (fun r=>hn (by simp[r])) q⟩) (fun _ _ q=>q) (fun _ _ _ q=>q) (fun c ps q=>⟨#[],by rw[q];simp⟩) (fun m hm=>?_) (fun c u e=>?_) I.bare
  ·obtain ⟨_,q2,_,q4,q5,q6⟩:=hf c hb;exact ⟨q4,q2,q5,q6⟩
  ·obtain ⟨ob,es,ep,ho,r⟩:=hm;have nL:∀ c∈[z,TI,TO,i1,i2],X.env.locals≠c:=fun c hc=>Ne.symm (hf c hc).2.1;exact ⟨ob,es,ep,kk _ ob (nL z (by simp)) (nL TO (by simp)) (nL i1 (by simp)) (nL i2 (by simp)) ho,r⟩
  ·have nf:∀ c' u,H c'=some u→∀ q∈[z,TI,TO,i1,i2],c'≠q:=fun c' u e q hq r=>by rw[r,(hf q hq).1]at e;cases e
   refine (I.hok c u e).stay (fun c' v hc' q=>?_) (fun _ q=>q) fun _ _ q=>q;have go:∀ u',H c'=some u'→h'.get? c'=some v:=fun u' e'=>kk c' v (nf c' _ e' z (by simp)) (nf c' _ e' TO (by simp)) (nf c' _ e' i1 (by simp)) (nf c' _ e' i2 (by simp)) q;rcases hc' with r | r
   ·exact go u (by rw[r];exact e)
   ·exact go _ r
 self:=fun _ _ _ _ _ st h=>wpAny_pyIter_zip st.1 h
theorem zlJ {l l' n:Nat}(hl:l < n)(hl':l' < n):ZipApart (n+4) (n+2) (n+3) n (n+1) l l':=by
 constructor <;> (intro z;have z':(_:Nat)=_:=z;omega)
theorem zqU {n c:Nat}(h:c∈[n+4,n+2,n+3,n,n+1]):n≤c:=by
 simp only[yaj,yax,or_false]at h;omega
def iZip (K:Frag)(ta:TA):TI:=fun σ H R=>ta σ H fun vs H1=>∃ a b,vs=[.ref a,.ref b]∧(∃ xs,SqL K H1 a xs)∧(∃ xs,SqL K H1 b xs)∧R (Itz K a b) H1
section
variable {X:Cx}
theorem zgg {es:List Expr}{k0}{tp:Pos}{a b:Expr}{ta:TA}{p pos:Pos}(hg:Gl X "zip")(hm:X.mg "zip" = none)(ha:PA X [a,b] ta)(hs:starEach [a,b] X.env=[(false,eval a X.env),(false,eval b X.env)]:=by rfl)(hs2:starEach [b] X.env=[(false,eval b X.env)]:=by rfl):PI X (.Tuple es k0 tp) (.Call (.Name "zip" p) [a,b] [] pos) (iZip X.K ta):=by
 intro pins s σ H R I h;refine Call_ (zft I hg hm boot_zip (PyProof.Rows.callWith_type1 (thn (ha pos pins s σ H _ I h) fun us s1 zq0=>?_) (by rw[hs,hs2]) (by rw[hs2];rfl)));obtain ⟨vs,H1,I1,r1,q1⟩:=zq0;obtain ⟨l,l',e,⟨xs,hq⟩,⟨ys,hq'⟩,q⟩:=q1;subst e;cases r1 with
 | cons r rr=>
  cases rr with
  | cons r' rr=>
   cases rr
   cases r
   cases r'
   obtain ⟨its,rv,pl,hz⟩:=I1.list hq;obtain ⟨jts,rv',pl',hz'⟩:=I1.list hq';have hl:l < s1.heap.objs.size:=by obtain ⟨o,_,e,_⟩:=pl;exact yaf e
   have hl':l' < s1.heap.objs.size:=by obtain ⟨o,_,e,_⟩:=pl';exact yaf e
   refine call_zip_2 pl.isList pl'.isList fun h' hz hTI hTO hi hi' _ hk=>?_;have I2:Inv X pins σ H1 { s1 with heap:=h' }:=I1.kept (t':=s1.toks) hk;refine wpAny_pyIter_zip (s:={ s1 with heap:=h' }) hz ⟨_,[s1.heap.objs.size+4,s1.heap.objs.size+2,s1.heap.objs.size+3,s1.heap.objs.size,s1.heap.objs.size+1],_,_,H1,rfl,I2,znX (zlJ hl hl'),⟨hz,hTI,⟨_,_,hTO⟩,hi,hi'⟩,fun c hb=>?_,q⟩;have hb':s1.heap.objs.size≤c:=zqU hb;exact I1.fpOk hb' (I1.hok.fresh hb')
end
theorem zqB {K:Frag}{a b:Addr}{xs ys:List V}{g:TG}{tb:TS}{D:Ends}{σ:St}{H:Hp}(hlen:xs.length=ys.length)(Pv:Nat→St→Hp→Prop)(h0:Pv 0 σ H)(hl:∀ i σ H,i≤xs.length→Pv i σ H→SqL K H a xs∧SqL K H b ys)
  (hs:∀ i x y σ H p,xs[i]?=some x→ys[i]?=some y→Pv i σ H→H p=none→g (.ref p) σ (upd H p (.tup [x,y])) fun σ2 H2=>tb { D with nx:=Pv (i+1),ct:=Pv (i+1),bk:=D.nx } σ2 H2) (hd:∀ σ H,Pv xs.length σ H→D.nx σ H) :
  ∃ W:Nat→Nat→St→Hp→Prop,(∃ m,W 0 m σ H)∧∀ i m σ H,W i m σ H→((Itz K a b).stop i H∧D.nx σ H)∨((Itz K a b).go i H∧∃ N:St→Hp→Prop,(∀ σ' H',N σ' H'→∃ m',m' < m∧W (i+1) m' σ' H')∧∀ x H',(Itz K a b).yld i H x H'→g x σ H' fun σ2 H2=>tb { D with nx:=N,ct:=N,bk:=D.nx } σ2 H2):=by
 refine ⟨fun i m σ H=>i+m=xs.length∧Pv i σ H,⟨xs.length,by omega,h0⟩,fun i m σ H zq0=>?_⟩;obtain ⟨e,pv⟩:=zq0;obtain ⟨hS,hS'⟩:=hl i σ H (by omega) pv;by_cases hi:i < xs.length
 ·refine .inr ⟨⟨xs,ys,xs[i],ys[i]'(by omega),hS,hS',yac hi,yac (by omega)⟩,Pv (i+1),fun σ' H' q=>⟨m - 1,by omega,by omega,q⟩,fun x H' y=>?_⟩;obtain ⟨p,z,z',rfl,hp,hz,hz',rfl⟩:=y;exact hs i z z' σ H p (hz xs hS) (hz' ys hS') pv hp
 ·have:i=xs.length:=by omega
  subst this;exact .inl ⟨⟨xs,ys,hS,hS',.inl (yab _)⟩,hd σ H pv⟩
end L2
namespace L2
open PySem PySem.Spec PyProof.Rows
def zb6 (X:Cx)(N:List Str)(scope:Scope)(cl:List (Str×Addr))(C:Addr)(s₂:Shared)(H₂:Hp)(fp:List Addr):Cx:=
 { X with N:=N,s₀:=s₂,H₀:=H₂,env:=compEnvC scope cl C X.env,outer:=X.stack,stack:=X.stack,ex:=fp,fn:=fun _=>false,xe:=fun _ _=>False }
structure ze7 (scope:Scope)(env:Env)(cl:List (Str×Addr)):Prop where
 eq:closureFor scope env=pure cl
 sub:∀ x c,cl.lookup x=some c→env.cells.lookup x=some c
 has:∀ x,(x,NameKind.free)∈scope.names→∃ c,cl.lookup x=some c
theorem zgF {env:Env}:∀(names:List (Str×NameKind)) (cs:List (Str×Addr)),(∀ x,(x,NameKind.free)∈names→∃ c,env.cells.lookup x=some c)→(∀ x c,cs.lookup x=some c→env.cells.lookup x=some c)→
  ∃ cl:List (Str×Addr),(forIn names cs (fun (x:Str×NameKind) (r:List (Str×Addr))=>if (x.2 == NameKind.free)=true then (do let c ← cellOf env x.1;pure (ForInStep.yield ((x.1,c)::r))) else pure (ForInStep.yield r)):Sem (List (Str×Addr)))=pure cl∧
   (∀ x c,cl.lookup x=some c→env.cells.lookup x=some c)∧(∀ x c,cs.lookup x=some c→∃ c',cl.lookup x=some c')∧∀ x,(x,NameKind.free)∈names→∃ c,cl.lookup x=some c
 | [],cs,_,h2=>⟨cs,by rw[List.forIn_nil],h2,fun x c e=>⟨c,e⟩,fun _ z=>nomatch z⟩
 | (n,k)::r,cs,h1,h2=>by
  by_cases hk:k=.free
  ·subst hk;obtain ⟨c,hc⟩:=h1 n yav;have hn:∀ x c',((n,c)::cs).lookup x=some c'→env.cells.lookup x=some c':=fun x c' e=>by
    rw[yaJ]at e;cases hx:x == n with
    | true=>
     rw[hx]at e;cases e
     rw[eq_of_beq hx];exact hc
    | false=>
     rw[hx]at e;exact h2 x c' e
   obtain ⟨cl,e,s1,s2,s3⟩:=zgF r ((n,c)::cs) (fun x hx=>h1 x (yau _ hx)) hn;have here:∃ c',cl.lookup n=some c':=s2 n c (by rw[yaJ,beq_self_eq_true]);refine ⟨cl,?_,s1,fun x c' q=>?_,fun x hx=>?_⟩
   ·rw[List.forIn_cons,if_pos (by rfl)];have q:cellOf env n=pure c:=by unfold cellOf;rw[hc]
    rw[q];simp only[pure_bind];exact e
   ·cases hxn:x == n with
    | true=>rw[eq_of_beq hxn];exact here
    | false=>exact s2 x c' (by rw[yaJ,hxn];exact q)
   ·rcases yaj.mp hx with z | z
    ·cases z;exact here
    ·exact s3 x z
  ·obtain ⟨cl,e,s1,s2,s3⟩:=zgF r cs (fun x hx=>h1 x (yau _ hx)) h2;refine ⟨cl,?_,s1,s2,fun x hx=>?_⟩
   ·have hb:(k == NameKind.free)=false:=by simpa using hk
    rw[List.forIn_cons,if_neg (by rw[hb];exact yay)];simp only[pure_bind];exact e
   ·rcases yaj.mp hx with z | z
    ·cases z;exact absurd rfl hk
    ·exact s3 x z
theorem zdH {scope:Scope}{env:Env}(h:∀ x,(x,NameKind.free)∈scope.names→∃ c,env.cells.lookup x=some c):∃ cl,ze7 scope env cl:=by
 obtain ⟨cl,e,s1,_,s3⟩:=zgF scope.names [] h (fun _ _ z=>nomatch z);refine ⟨cl,?_,s1,s3⟩;unfold closureFor;exact (by simpa using e)
theorem zbV {env:Env}:∀{names:List (Str×NameKind)} {x:Str},names.lookup x=some .free→
  (names.map fun (n,k)=>if (k == NameKind.free && env.scope.kind == .function && env.kindOf n == some .cell) then (n,NameKind.cell) else (n,k)).lookup x=some .cell∨
  (names.map fun (n,k)=>if (k == NameKind.free && env.scope.kind == .function && env.kindOf n == some .cell) then (n,NameKind.cell) else (n,k)).lookup x=some .free
 | [],_,h=>by simp at h
 | (n,k)::r,x,h=>by
  have ih:=@zbV env r x;show List.lookup x ((if (k == NameKind.free && env.scope.kind == .function && env.kindOf n == some .cell)=true then (n,NameKind.cell) else (n,k))::_)=_∨List.lookup x ((if (k == NameKind.free && env.scope.kind == .function && env.kindOf n == some .cell)=true then (n,NameKind.cell) else (n,k))::_)=_
  cases hx:x == n with
  | true=>
   simp only[yaJ,hx]at h;cases h
   by_cases hc:(NameKind.free == NameKind.free && env.scope.kind == .function && env.kindOf n == some .cell)=true
   ·rw[if_pos hc];left;simp only[yaJ,hx]
   ·rw[if_neg hc];right;simp only[yaJ,hx]
  | false=>
   simp only[yaJ,hx]at h;by_cases hc:(k == NameKind.free && env.scope.kind == .function && env.kindOf n == some .cell)=true
   ·rw[if_pos hc];simp only[yaJ,hx];exact ih h
   ·rw[if_neg hc];simp only[yaJ,hx];exact ih h
theorem zej {env:Env}:∀{names:List (Str×NameKind)} {x:Str} {k':NameKind},(names.map fun (n,k)=>if (k == NameKind.free && env.scope.kind == .function && env.kindOf n == some .cell) then (n,NameKind.cell) else (n,k)).lookup x=some k'→k'=.cell∨k'=.free→
  (∀ y∈names,y.2≠.cell)→(x,NameKind.free)∈names
 | [],_,_,h,_,_=>by simp at h
 | (n,k)::r,x,k',h,hk,hc=>by
  have ih:=@zej env r x k';have h':List.lookup x ((if (k == NameKind.free && env.scope.kind == .function && env.kindOf n == some .cell)=true then (n,NameKind.cell) else (n,k))::r.map fun (n,k)=>if (k == NameKind.free && env.scope.kind == .function && env.kindOf n == some .cell) then (n,NameKind.cell) else (n,k))=some k':=h
  cases hx:x == n with
  | true=>
   have e:=eq_of_beq hx;subst e;by_cases hf:k=.free
   ·subst hf;exact yav
   ·have hb:(k == NameKind.free)=false:=by simpa using hf
    rw[if_neg (by rw[hb];simp),yaJ,hx]at h';cases h'
    rcases hk with z | z
    ·exact absurd z (hc (x,k) yav)
    ·exact absurd z hf
  | false=>
   refine yau _ (ih ?_ hk fun y hy=>hc y (yau _ hy));by_cases hcd:(k == NameKind.free && env.scope.kind == .function && env.kindOf n == some .cell)=true
   ·rw[if_pos hcd,yaJ,hx]at h';exact h'
   ·rw[if_neg hcd,yaJ,hx]at h';exact h'
def zcA (own:Nat)(cap:List Nat)(σ:St):St:=List.replicate own none++cap.map fun i=>(σ[i]?).getD none
structure zkW (X:Cx)(scope:Scope)(N:List Str)(own:Nat)(cap:List Nat):Prop where
 kind:scope.kind=.function
 nocell:(scope.names.all fun y=>y.2 != .cell)=true
 locs:(scope.names.all fun y=>y.2 != .local || scope.names.lookup y.1 == some .local)=true
 frees:(scope.names.all fun y=>y.2 != .free || (X.env.kindOf y.1 == some .cell || X.env.kindOf y.1 == some .free))=true
 len:N.length=own+cap.length
 caps:((List.range cap.length).all fun j=>(N[own+j]? == X.N[cap[j]!]?) && (match N[own+j]? with | some x=>scope.names.lookup x == some .free && (X.env.kindOf x == some .cell || X.env.kindOf x == some .free) | none=>false))=true
section
variable {prog:Program}{w:World}{A:Around}{R:Result→Shared→Prop}{s:Shared}
theorem zgC {elt target iter:Expr}{ifs:List Expr}{scope:Scope}{pos:Pos}{it acc:Value}{env:Env}(I:Nat→Shared→Prop)
  (turn:∀ n s,I n s→wpAny (model prog w) A (pyNext it) (fun r s₁=>match r with
   | none=>R (.ok .next) s₁
   | some v=>wpAny (model prog w) A (letOwnedTupleGo target it v) (fun _ s₁'=>wpAny (model prog w) A (assign target env v) (fun _ s₂=>
     wpAny (model prog w) A (forIn ifs true fun c r=>if r=true then do let ok ← isTrue c env (eval c env);pure (ForInStep.yield ok) else pure (ForInStep.yield r)) (fun ok s₃=>
      if ok=true then wpAny (model prog w) A (eval elt env) (fun x s₄=>
       wpAny (model prog w) A (call (.builtin "list.append") [acc,x]) (fun _ s₅=>∃ m,m < n∧I m s₅) (fun _ _=>False) s₄) (fun _ _=>False) s₃
      else ∃ m,m < n∧I m s₃) (fun _ _=>False) s₂) (fun _ _=>False) s₁') (fun _ _=>False) s₁) (fun _ _=>False) s)
  (n:Nat) (h:I n s) :
  codeAny (model prog w) A (.compLoop (.ListComp elt [⟨target,iter,ifs,0⟩] scope pos) 0 it acc env) R s:=by
 refine codeAny_loop rfl I (fun n s hI=>?_) n h;show wpAny _ A ((compTurn (.ListComp elt [⟨target,iter,ifs,0⟩] scope pos) 0 it acc env).onRaise (fun x=>do noteFrame x env;theTreesLotGoes x)) _ _ s
 refine wpAny_noted ?_;rw[compTurn_list];refine wpAny_bind (wpAny_standAt (wpAny_bind (wpAny_mono (turn n s hI) (fun r s₁ h₁=>?_) fun _ _ h'=>h'.elim)));cases r with
 | none=>exact wpAny_pure h₁
 | some v=>
  refine wpAny_bind (wpAny_mono h₁ (fun _ s₁' h₁'=>?_) fun _ _ h'=>h'.elim);refine wpAny_bind (wpAny_mono h₁' (fun _ s₂ h₂=>wpAny_bind (wpAny_mono h₂ (fun ok s₃ h₃=>?_) fun _ _ h'=>h'.elim)) fun _ _ h'=>h'.elim);cases ok with
  | true=>
   simp only[if_true]at h₃ ⊢;exact wpAny_bind (wpAny_bind (wpAny_mono h₃ (fun x s₄ h₄=>wpAny_bind (wpAny_mono h₄ (fun _ s₅ h₅=>wpAny_pure (wpAny_pure ⟨rfl,h₅⟩)) fun _ _ h'=>h'.elim)) fun _ _ h'=>h'.elim))
  | false=>
   simp only[ycj,if_false]at h₃ ⊢;exact wpAny_pure ⟨rfl,h₃⟩
end
section
variable {X:Cx}
def PTs (X:Cx)(ifs:List Expr)(t:TT):Prop:=
 ∀(pins:List (Addr×Obj)) (s:Shared) (σ:St) (H:Hp) (Q:Bool→Hp→Prop),Inv X pins σ H s→t σ H Q→
  wpAny (model X.prog X.w) X.A (forIn ifs true fun c r=>if r=true then do let ok ← isTrue c X.env (eval c X.env);pure (ForInStep.yield ok) else pure (ForInStep.yield r)) (TP X pins σ Q) X.xe s
def tYes:TT:=fun _ H Q=>Q true H
theorem zbj:PTs X [] tYes:=fun _ _ _ H _ I h=>wpAny_tests_nil ⟨H,I,h⟩
theorem zek {c:Expr}{t:TT}(h:PT X c t):PTs X [c] t:=fun pins s σ H Q I q=>wpAny_tests_one (h pins s σ H Q I q)
theorem zoQ {pins:List (Addr×Obj)}{σ:St}{H:Hp}{s:Shared}{N:List Str}{own:Nat}{cap:List Nat}{scope:Scope}{cl:List (Str×Addr)}{C:Addr}{fp:List Addr}{h₁:Heap}{tk:Nat}{D:Addr}
  (I:Inv X pins σ H s) (c:zkW X scope N own cap) (hcl:ze7 scope X.env cl) (f:∀ b∈fp,FpOk X pins H b) (hD:s.heap.objs.size≤D) (hC:s.heap.objs.size≤C) (hCD:D≠C)
  (kp:∀ b o,s.heap.get? b=some o→h₁.get? b=some o) (hnew:h₁.get? D=some { cls:=.type "list",data:=.seq #[] }) (hns:∃ m,h₁.Ns C m) (hfp:∀ b∈fp,b < s.heap.objs.size) (hcalm:X.calm=true) :
  Inv (zb6 X N scope cl C s H fp) pins (zcA own cap σ) (upd H D (.lst [])) { s with heap:=h₁,toks:=tk }:=by
 have hfr:H D=none:=I.hok.fresh hD;have hfrC:H C=none:=I.hok.fresh hC;have sz:∀ b o,s.heap.get? b=some o→b≠D∧b≠C:=fun b o e=>⟨yaq (yas (yaf e) hD),yaq (yas (yaf e) hC)⟩;have cells:∀ x cc,cl.lookup x=some cc→∃ v,s.heap.IsCell cc v:=fun x cc e=>I.cell x cc (hcl.sub x cc e);have cellne:∀ x cc,cl.lookup x=some cc→cc≠D∧cc≠C:=fun x cc e=>by
  obtain ⟨v,o,ho,_⟩:=cells x cc e;exact sz cc o ho
 have ok:(zb6 X N scope cl C s H fp).Ok:=by
  refine ⟨I.ok.mod,c.kind,I.ok.glob,I.ok.blt,hC,fun x y cc e1 e2=>I.ok.inj x y cc (hcl.sub x cc e1) (hcl.sub y cc e2),fun x hx=>?_,(fun x cc z _=>nomatch z),I.ok.hd,I.ok.frames,.inl rfl,fun b hb=>?_,fun b o e=>I.bs b o e,?_,fun b o e hb=>?_,fun b hb z=>?_,I.stack,fun b hb=>I.stkFree b hb⟩
  ·have hm:(x,NameKind.free)∈scope.names:=by
    rcases hx with z | z
    ·exact zej (env:=X.env) (names:=scope.names) (x:=x) (k':=.cell) z (.inl rfl) fun y hy q=>by
      have:=yaQ.mp c.nocell y hy;rw[q]at this;exact absurd this (by decide)
    ·exact zej (env:=X.env) (names:=scope.names) (x:=x) (k':=.free) z (.inr rfl) fun y hy q=>by
      have:=yaQ.mp c.nocell y hy;rw[q]at this;exact absurd this (by decide)
   exact hcl.has x hm
  ·exact ⟨yaq (yas (hfp b hb) hC),fun x cc e z=>(f b hb).2.2.2.2.1 x cc (hcl.sub x cc e) z⟩
  ·exact yat I.ok.bsz I.sz
  ·obtain ⟨_,_,_,h4,_⟩:=f b hb;rcases h4 with z | z
   ·exact I.ok.noex b o e z
   ·exact absurd (yas (yaf e) (yat I.ok.bsz z)) (yaM _)
  ·obtain ⟨_,h2,h3,_⟩:=f b hb;rcases yaj.mp (I.stkSub b z) with q | q
   ·exact h2 q
   ·exact h3 q
 have hokN:zbK X.prog X.w (upd H D (.lst [])) h₁ D (.lst []):=⟨yaC _,[],0,.nil,hnew⟩;refine ⟨ok,I.os.symm ▸ rfl,I.bare,Un.laid kp hD hfr,?_,fun x cc e=>?_,?_,fun x cc e=>?_,fun p hp=>?_,I.hok.laid kp hD hokN,?_⟩
 ·obtain ⟨m,hm⟩:=hns;refine ⟨m,hm,fun i x v e1 e2 e3=>?_⟩;have hi:own≤i:=by
   false_or_by_contra
   rename_i z;unfold zcA at e2;rw[ybk (by rw[ya1];omega),ycf]at e2;split at e2 <;> cases e2
  obtain ⟨j,rfl⟩:∃ j,i=own+j:=⟨i - own,by omega⟩;have hj:j < cap.length:=by
   have:=(yah.mp e1).1;have z:=c.len;have this':own+j < N.length:=this;omega
  have hc:=yaQ.mp c.caps j (yaW.mpr hj);have e1':N[own+j]?=some x:=e1;rw[e1']at hc;simp only[ybm,beq_iff_eq,yb4]at hc;obtain ⟨hN,hf,hk⟩:=hc;have e2':σ[cap[j]!]?=some (some v):=by
   unfold zcA at e2;rw[ya0 (by rw[ya1];omega),ya1,show own+j - own=j by omega,yal]at e2;have g:cap[j]! = cap[j]:=by simp[hj]
   rw[yac hj,ybd]at e2;rw[g];have e2:=yae e2;cases q:σ[cap[j]]? with
   | none=>rw[q]at e2;cases e2
   | some z=>rw[q]at e2;exact congrArg some e2
  obtain ⟨m0,_,hl⟩:=I.loc;obtain ⟨u,ru,lk⟩:=hl (cap[j]!) x v hN.symm e2' (by
   rcases hk with z | z
   ·exact .inr (.inl z)
   ·exact .inr (.inr z))
  refine ⟨u,ru,.inr ⟨zbV (env:=X.env) hf,?_⟩⟩;rcases lk with ⟨z,_⟩ | ⟨_,cc,ec,ic⟩
  ·rcases hk with q | q
   ·rw[q]at z;cases z
   ·rw[q]at z;cases z
  ·obtain ⟨c',hc'⟩:=hcl.has x (by
    have:(x,NameKind.free)∈scope.names:=by
     have hlk:=hf;obtain ⟨l1,l2,hs,hno⟩:=List.lookup_eq_some_iff.mp hlk;rw[hs];exact yaO _ yav
    exact this)
   have:=hcl.sub x c' hc';rw[ec]at this;cases this
   obtain ⟨o,ho,hd⟩:=ic;exact ⟨cc,hc',o,kp cc o ho,hd⟩
 ·obtain ⟨v,o,ho,hd⟩:=cells x cc e;exact ⟨v,o,kp cc o ho,hd⟩
 ·show upd H D (.lst []) C=none;rw[zaf (Ne.symm hCD)];exact hfrC
 ·show upd H D (.lst []) cc=none;rw[zaf (cellne x cc e).1];exact I.freeC x cc (hcl.sub x cc e)
 ·obtain ⟨e,n,ne,nf,d⟩:=I.pin p hp;refine ⟨kp _ _ e,?_,(sz _ _ e).2,fun z=>?_,d⟩
  ·show upd H D (.lst []) p.1=none;rw[zaf (sz _ _ e).1];exact n
  ·rcases yaj.mp (I.stkSub p.1 z) with q | q
   ·exact ne q
   ·exact nf q
 ·show (zcA own cap σ).length=N.length;unfold zcA;rw[yak,ya1,yaa,c.len]
def zn2 (own:Nat)(cap:List Nat)(wi:TI)(g:TG)(ts:TT)(te:TE):TE:=fun σ H Q=>wi σ H fun J H1=>∀ D,H1 D=none→∃ W:Nat→Nat→St→Hp→Prop,(∃ m,W 0 m (zcA own cap σ) (upd H1 D (.lst [])))∧∀ i m σ H,W i m σ H→
 (J.stop i H∧Q (.ref D) H)∨(J.go i H∧∀ x H',J.yld i H x H'→g x σ H' fun σ2 H2=>ts σ2 H2 fun b H3=>if b=true then te σ2 H3 fun y H4=>∃ xs,H4 D=some (.lst xs)∧xs.length < sizeLine∧∃ m',m' < m∧W (i+1) m' σ2 (upd H4 D (.lst (xs++[y]))) else ∃ m',m' < m∧W (i+1) m' σ2 H3)
theorem ziY {pins:List (Addr×Obj)}{σ:St}{H2:Hp}{s2:Shared}{N:List Str}{own:Nat}{cap:List Nat}{scope:Scope}{cl:List (Str×Addr)}{fp:List Addr}{tg elt iter:Expr}{ifs:List Expr}{pos:Pos}{J:It}{it:Addr}{tn:Nat→Heap→Prop}{g:TG}{ts:TT}{te:TE}{Q:VK}
  {E:Value→Shared→Prop} {RR:Value→Addr→Result→Shared→Prop}
  (hcalm:X.calm=true) (c:zkW X scope N own cap) (hcl:ze7 scope X.env cl)
  (hg:∀ cl C s₂ H₂ fp,PG (zb6 X N scope cl C s₂ H₂ fp) tg g) (hts:∀ cl C s₂ H₂ fp,PTs (zb6 X N scope cl C s₂ H₂ fp) ifs ts) (he:∀ cl C s₂ H₂ fp,PE (zb6 X N scope cl C s₂ H₂ fp) elt te)
  (I2:Inv X pins σ H2 s2) (T:Turn X.prog X.w X.K tg J fp it tn) (st2:tn 0 s2.heap) (f2:∀ b∈fp,FpOk X pins H2 b)
  (rd:∀ D,H2 D=none→∃ W:Nat→Nat→St→Hp→Prop,(∃ m,W 0 m (zcA own cap σ) (upd H2 D (.lst [])))∧∀ i m σ H,W i m σ H→
   (J.stop i H∧Q (.ref D) H)∨(J.go i H∧∀ x H',J.yld i H x H'→g x σ H' fun σ2 H2=>ts σ2 H2 fun b H3=>if b=true then te σ2 H3 fun y H4=>∃ xs,H4 D=some (.lst xs)∧xs.length < sizeLine∧∃ m',m' < m∧W (i+1) m' σ2 (upd H4 D (.lst (xs++[y]))) else ∃ m',m' < m∧W (i+1) m' σ2 H3))
  (hRR:∀ D C s' H',Inv X pins σ H' s'→(∃ m,s'.heap.Ns C m)→FpOk X pins H' C→Q (.ref D) H'→RR (.ref D) C (.ok .next) s') :
  wpAny (model X.prog X.w) X.A (newList []) (fun acc s₃=>wpAny (model X.prog X.w) X.A (newFunctionEnv scope X.env.globals cl [] X.env.qual none .none (some X.env)) (fun cenv s₄=>
   codeAny (model X.prog X.w) X.A (.compStart (.ListComp elt [⟨tg,iter,ifs,0⟩] scope pos) 0 (.ref it) acc { cenv with scope:=relabel scope X.env }) (RR acc cenv.locals) s₄) E s₃) E s2:=by
 have hcell:∀ y∈scope.names,y.2≠.cell:=fun y hy q=>by
  have:=yaQ.mp c.nocell y hy;rw[q]at this;exact absurd this (by decide)
 have hfp:∀ b∈fp,b < s2.heap.objs.size:=fun b hb=>by
  obtain ⟨o,e,_⟩:=T.obj 0 _ st2 b hb;exact yaf e
 refine wpAny_newObj_type (wpAny_newFunctionEnv hcell (by intro y hy;simp at hy) (fun h₁ hns₁ hsb₁=>?_) c.kind);dsimp only at hns₁ hsb₁ ⊢;generalize hHH:s2.heap.push { cls:=.type "list",dict:=none,data:=.seq ([]:List Value).toArray }=HH at hns₁ hsb₁ ⊢;have hC:HH.objs.size=s2.heap.objs.size+1:=by rw[← hHH,ybj]
 have hDC:s2.heap.objs.size≠HH.objs.size:=by rw[hC];exact yaq (ybw _)
 have hCle:s2.heap.objs.size≤HH.objs.size:=by rw[hC];exact yaX _
 have old:∀ b o,s2.heap.get? b=some o→h₁.get? b=some o:=fun b o e=>hsb₁.extBut b o (yaq (by rw[hC];exact Nat.lt_succ_of_lt (yaf e))) (yam _ (hHH ▸ yam _ e));have hnew:h₁.get? s2.heap.objs.size=some { cls:=.type "list",data:=.seq #[] }:=hsb₁.extBut _ _ hDC (yam _ (hHH ▸ yaD _ rfl));have I3:∀ tk,Inv (zb6 X N scope cl HH.objs.size s2 H2 fp) pins (zcA own cap σ) (upd H2 s2.heap.objs.size (.lst [])) { s2 with heap:=h₁,toks:=tk }:=fun tk=>
  zoQ I2 c hcl f2 (yab _) hCle hDC old hnew ⟨_,hns₁⟩ hfp hcalm
 obtain ⟨W,⟨m0,w0⟩,turn⟩:=rd s2.heap.objs.size (I2.hok.fresh (yab _));have st3:tn 0 h₁:=T.keep _ _ _ st2 fun b _ o e=>old b o e;have fr3:∀ b∈fp,upd H2 s2.heap.objs.size (.lst []) b=none:=fun b hb=>by rw[zaf (yaq (hfp b hb))];exact (f2 b hb).1
 have stat:∀{H':Hp},(∀ b∈fp,H' b=none)→∀ b∈fp,FpOk (zb6 X N scope cl HH.objs.size s2 H2 fp) pins H' b:=fun hn b hb=>by
  obtain ⟨_,h2,h3,_,h5,h6⟩:=f2 b hb;refine ⟨hn b hb,yaq (yas (hfp b hb) hCle),fun z=>?_,.inl hb,fun x cc e=>h5 x cc (hcl.sub x cc e),h6⟩;rcases yaj.mp (I2.stkSub b z) with q | q
  ·exact h2 q
  ·exact h3 q
 have loop:∀ s₃:Shared,s₃={ s2 with heap:=h₁,toks:=s2.toks+([]:List (Str×Value)).length }→
   codeAny (model X.prog X.w) X.A (.compLoop (.ListComp elt [⟨tg,iter,ifs,0⟩] scope pos) 0 (.ref it) (.ref s2.heap.objs.size) (compEnvC scope cl HH.objs.size X.env)) (RR (.ref s2.heap.objs.size) HH.objs.size) s₃:=by
  rintro s₃ rfl;refine zgC (fun n s'=>∃ i σ' H',Inv (zb6 X N scope cl HH.objs.size s2 H2 fp) pins σ' H' s'∧tn i s'.heap∧(∀ b∈fp,H' b=none)∧W i n σ' H') ?_ m0 ⟨0,_,_,I3 _,st3,fr3,w0⟩;rintro n s3 ⟨i,σ3,H3,J3,t3,fr,w3⟩;rcases turn i n σ3 H3 w3 with ⟨stop,qn⟩ | ⟨go,step⟩
  ·refine thn (T.done (zb6 X N scope cl HH.objs.size s2 H2 fp) rfl rfl rfl hcalm i pins s3 σ3 H3 (fun _ _=>False) J3 (stat fr) t3 stop) fun r s4 zq0=>?_;obtain ⟨hr,I4⟩:=zq0;subst hr;obtain ⟨mm,hmm,_⟩:=I4.loc;refine hRR _ _ s4 H3 (I2.call' I4.os I4.base I4.hok I4.bare fun b hb=>?_) ⟨mm,hmm⟩ (I2.fpOk hCle I4.free) qn;obtain ⟨_,h2,_,h4,h5,h6⟩:=f2 b hb;exact ⟨h4,h2,h5,h6⟩
  ·refine thn (T.item (zb6 X N scope cl HH.objs.size s2 H2 fp) rfl rfl rfl hcalm i pins s3 σ3 H3 (fun _ _=>False) J3 (stat fr) t3 go) fun r s4 zq0=>?_;obtain ⟨u,hr,h4⟩:=zq0;subst hr;refine thn h4 fun _ s5 zq0=>?_;obtain ⟨x,H5,I5,r5,y5,st5,fr5⟩:=zq0;have I5':=I5.pinned (stat fr5) (T.obj _ _ st5);have back:∀{σ7:St} {H7:Hp} {s7:Shared} {m':Nat},Inv (zb6 X N scope cl HH.objs.size s2 H2 fp) (pins++zg6 fp s5.heap) σ7 H7 s7→W (i+1) m' σ7 H7→∃ i σ' H',Inv (zb6 X N scope cl HH.objs.size s2 H2 fp) pins σ' H' s7∧tn i s7.heap∧(∀ b∈fp,H' b=none)∧W i m' σ' H':=fun {σ7 H7 s7 m'} I7 w7=>by
    refine ⟨i+1,σ7,H7,I7.unpinned,T.keep _ _ _ st5 fun b hb o e=>(I7.pin (b,o) (yaO _ (yaO _ (zcx hb e)))).1,fun b hb=>?_,w7⟩;obtain ⟨o,e,d⟩:=T.obj _ _ st5 b hb;exact (I7.pin (b,o) (yaO _ (yaO _ (zcx hb e)))).2.1
   refine thn (hg cl HH.objs.size s2 H2 fp _ s5 σ3 H5 x u _ I5' r5 (step x H5 y5)) fun _ s6 zq0=>?_;obtain ⟨σ6,H6,I6,q6⟩:=zq0;refine thn (hts cl HH.objs.size s2 H2 fp _ s6 σ6 H6 _ I6 q6) fun b s7 zq0=>?_;obtain ⟨H7,I7,q7⟩:=zq0;cases b with
   | false=>
    rw[if_neg yay]at q7 ⊢;obtain ⟨m',hm,w7⟩:=q7;exact ⟨m',hm,back I7 w7⟩
   | true=>
    rw[if_pos rfl]at q7 ⊢;refine thn (he cl HH.objs.size s2 H2 fp _ s7 σ6 H7 _ I7 q7) fun v s8 zq0=>?_;obtain ⟨y,H8,I8,r8,q8⟩:=zq0;obtain ⟨xs,hx,hz,m',hm,w8⟩:=q8;refine thn (zaN (X:=zb6 X N scope cl HH.objs.size s2 H2 fp) _ s8 σ6 H8 (.ref s2.heap.objs.size) [y] (.ref s2.heap.objs.size) [v] (fun _ H9=>H9=upd H8 s2.heap.objs.size (.lst (xs++[y]))) I8 rfl (.cons r8 .nil) ⟨_,xs,y,rfl,rfl,hx,hz,rfl⟩) fun _ s9 zq0=>?_;obtain ⟨_,H9,I9,_,e9⟩:=zq0;subst e9;exact ⟨m',hm,back I9 w8⟩
 refine codeAny_compStart_list (loop _ rfl) ?_;exact T.self _ 0 _ _ _ st3 (loop _ rfl)
theorem zbd {N:List Str}{own:Nat}{cap:List Nat}{scope:Scope}{tg elt iter:Expr}{ifs:List Expr}{pos:Pos}{wi:TI}{g:TG}{ts:TT}{te:TE}(hcalm:X.calm=true)(hi:PI X tg iter wi)(c:zkW X scope N own cap)
  (hg:∀ cl C s₂ H₂ fp,PG (zb6 X N scope cl C s₂ H₂ fp) tg g) (hts:∀ cl C s₂ H₂ fp,PTs (zb6 X N scope cl C s₂ H₂ fp) ifs ts) (he:∀ cl C s₂ H₂ fp,PE (zb6 X N scope cl C s₂ H₂ fp) elt te)
  (hs:∀ x,foldedSetIterable iter X.env x=pure x:=by intro _;rfl):PE X (.ListComp elt [⟨tg,iter,ifs,0⟩] scope pos) (zn2 own cap wi g ts te):=by
 intro pins s σ H Q I h;obtain ⟨cl,hcl⟩:=zdH (scope:=scope) (env:=X.env) fun x hx=>I.ok.has x (by
  have:=yaQ.mp c.frees _ hx;simpa using this)
 rw[eval_ListComp];refine wpAny_comprehension_free (use:=none) rfl hs hcl.eq c.kind (fun x hx hl=>by
  have:=yaQ.mp c.locs x hx;rw[hl]at this;simpa using this) (thn (hi pins s σ H _ I h) fun v s1 h1=>thn h1 fun itv s2 h2=>?_)
 obtain ⟨it,fp,tn,J,H2,e,I2,T,st2,f2,rd⟩:=h2;subst e;refine ziY (RR:=fun acc C=>compPost (model X.prog X.w) X.A X.xe none (EP X pins σ Q) acc C) hcalm c hcl hg hts he I2 T st2 f2 rd ?_;intro D C s' H' I' hm fC q;obtain ⟨m,hm⟩:=hm;obtain ⟨f0,f1,f2,f3,f4,f5⟩:=fC;exact ⟨m,hm,fun h' hsb=>⟨.ref D,H',I'.turned (t':=s'.toks) (fun b o hb e=>(hsb.2 b hb).trans e) f0 f1 f3 f4 f5,rfl,q⟩⟩
theorem zgd {i:Nat}{x:Str}{N:List Str}{own:Nat}{cap:List Nat}{scope:Scope}{tg elt iter:Expr}{ifs:List Expr}{pos pos' spos:Pos}{wi:TI}{g:TG}{ts:TT}{te:TE}(hN:X.N.Nodup)(hxi:X.N[i]?=some x)(hx:X.env.scope.names.lookup x=some .local)(hcalm:X.calm=true)(hi:PI X tg iter wi)(c:zkW X scope N own cap)
  (hg:∀ cl C s₂ H₂ fp,PG (zb6 X N scope cl C s₂ H₂ fp) tg g) (hts:∀ cl C s₂ H₂ fp,PTs (zb6 X N scope cl C s₂ H₂ fp) ifs ts) (he:∀ cl C s₂ H₂ fp,PE (zb6 X N scope cl C s₂ H₂ fp) elt te)
  (hsw:swapsWith (.ListComp elt [⟨tg,iter,ifs,0⟩] scope pos) (some (.Name x pos')) spos.line X.env=pure true:=by rfl)
  (hs:∀ x,foldedSetIterable iter X.env x=pure x:=by intro _;rfl):PS X (.Assign [.Name x pos'] (.ListComp elt [⟨tg,iter,ifs,0⟩] scope pos) spos) (tAsg (zn2 own cap wi g ts te) (zgR i)):=by
 intro pins s σ H D I h;obtain ⟨cl,hcl⟩:=zdH (scope:=scope) (env:=X.env) fun x hx=>I.ok.has x (by
  have:=yaQ.mp c.frees _ hx;simpa using this)
 rw[exec_Assign_Name_used _ _ _ _ hsw];refine wpAny_bind (wpAny_standAt (wpAny_bind ?_));show wpAny _ X.A (do let _ ← comprehension (.ListComp elt [⟨tg,iter,ifs,0⟩] scope pos) scope X.env _ (newList []) false (eval iter X.env) (some (assign (.Name x pos') X.env))) _ _ s
 refine wpAny_bind (wpAny_mono (wpAny_comprehension_free (use:=some (assign (.Name x pos') X.env)) (Q:=fun _ s'=>SP X pins D .next s') rfl hs hcl.eq c.kind (fun x hx hl=>by
  have:=yaQ.mp c.locs x hx;rw[hl]at this;simpa using this) (thn (hi pins s σ H _ I h) fun v s1 h1=>thn h1 fun itv s2 h2=>?_)) (fun _ s' hq=>wpAny_pure (wpAny_pure hq)) fun _ _ e=>e)
 obtain ⟨it,fp,tn,J,H2,e,I2,T,st2,f2,rd⟩:=h2;subst e;refine ziY (RR:=fun acc C=>compPost (model X.prog X.w) X.A X.xe (some (assign (.Name x pos') X.env)) (fun _ s'=>SP X pins D .next s') acc C) (Q:=fun x H1=>zgR i x σ H1 D.nx) hcalm c hcl hg hts he I2 T st2 f2 rd ?_;intro Dd C s' H' I' hm fC q;obtain ⟨m,hm⟩:=hm;have hne:∀ a,(a=X.env.locals∨X.env.cells.lookup x=some a)→a≠C:=fun a z=>by
  obtain ⟨f0,f1,f2,f3,f4,f5⟩:=fC;rcases z with z | z
  ·rw[z];exact Ne.symm f1
  ·exact f4 x a z
 show wpAny _ X.A (assign (.Name x pos') X.env (.ref Dd)) _ _ _;refine wpAny_assign_Name (zif I' hN hxi (.inl hx) (v:=.ref Dd) rfl (fun s'' I'' hch=>?_) (.inr hx));obtain ⟨a,hsb,ha⟩:=hch;refine ⟨m,hm.sameBut hsb (Ne.symm (hne a ha)),fun h' hs'=>?_⟩;obtain ⟨f0,f1,f2,f3,f4,f5⟩:=fC;exact ⟨_,H',I''.turned (t':=s''.toks) (fun b o hb e=>(hs'.2 b hb).trans e) f0 f1 f3 f4 f5,q⟩
end
end L2
namespace L2
open PySem PySem.Spec PyProof.Rows PySem.SeqAt
class Srt (α:Type)[Rep α] where
 blt:α→α→Bool
 irrefl:∀ a,blt a a=false
 trans:∀ a b c,blt a b=true→blt b c=true→blt a c=true
 negTrans:∀ a b c,blt a c=true→blt a b=true∨blt b c=true
 total:∀ a b,blt a b=false→blt b a=false→a=b
 kd:SortKind
 one:α
 lt:∀{X:Cx} {pins:List (Addr×Obj)} {σ:St} {H:Hp} {s:Shared} {A:Around} {a b:α} {x y:V} {u v:Value} {Q:Bool→Shared→Prop} {E:Value→Shared→Prop},Inv X pins σ H s→Rep.has X.K H a x→Rep.has X.K H b y→RelV x u→RelV y v→Q (blt a b) s→wpAny (model X.prog X.w) A (keyLt' kd u v) Q E s
 kind:∀{X:Cx} {pins:List (Addr×Obj)} {σ:St} {H:Hp} {s:Shared} {A:Around} {as:List α} {xs:List V} {us:List Value} {Q:SortKind→Shared→Prop} {E:Value→Shared→Prop},Inv X pins σ H s→zao X.K H as xs→Vals xs us→2≤us.length→Q kd s→wpAny (model X.prog X.w) A (keyKind' us.toArray) Q E s
section
variable {α:Type}[Rep α][Srt α]
noncomputable def srtKind (α:Type)[Rep α][Srt α](K:Frag)(H:Hp):PyProof.Rows.KeyKind where
 α:=α
 blt:=Srt.blt
 irrefl:=Srt.irrefl
 trans:=Srt.trans
 negTrans:=Srt.negTrans
 total:=Srt.total
 keyOf:=fun u=>open Classical in if h:∃ a:α,∃ x,RelV x u∧Rep.has K H a x then some (Classical.choose h) else none
 dflt:=Srt.one
theorem zoP {X:Cx}{pins:List (Addr×Obj)}{σ:St}{H:Hp}{s:Shared}{a:α}{x:V}{u:Value}(I:Inv X pins σ H s)(r:RelV x u)(h:Rep.has X.K H a x):(srtKind α X.K H).keyOf u=some a:=by
 have e:∃ a:α,∃ x,RelV x u∧Rep.has X.K H a x:=⟨a,x,r,h⟩;unfold srtKind;dsimp only;rw[dif_pos e];obtain ⟨y,ry,hy⟩:=Classical.choose_spec e;have z:=ry.inj r;subst z;exact congrArg some (Rep.inj I hy h)
theorem zha {K:Frag}{H:Hp}{a:α}{u:Value}(h:(srtKind α K H).keyOf u=some a):∃ x,RelV x u∧Rep.has K H a x:=by
 unfold srtKind at h;dsimp only at h;split at h
 ·rename_i e;cases h
  exact Classical.choose_spec e
 ·cases h
def zez (as:List α):List α:=as.mergeSort fun a b=>!Srt.blt b a
theorem zcw (as:List α):(zez as).Perm as:=List.mergeSort_perm _ _
theorem zga {as:List α}{a:α}:a∈zez as↔a∈as:=(zcw as).mem_iff
theorem zdu (as:List α):(zez as).length=as.length:=(zcw as).length_eq
theorem znH {a b:α}(h:Srt.blt a b=true):Srt.blt b a=false:=by
 cases e:Srt.blt b a with
 | false=>rfl
 | true=>
  have:=Srt.trans _ _ _ h e;rw[Srt.irrefl]at this;cases this
theorem zke (as:List α):(zez as).Pairwise fun a b=>Srt.blt b a=false:=by
 have h:=List.pairwise_mergeSort (le:=fun a b:α=>!Srt.blt b a) (fun a b c h1 h2=>by
  simp only[yb5]at h1 h2 ⊢;cases e:Srt.blt c a with
  | false=>rfl
  | true=>
   rcases Srt.negTrans c b a e with z | z
   ·rw[h2]at z;cases z
   ·rw[h1]at z;cases z) (fun a b=>by
  cases e:Srt.blt b a with
  | false=>rfl
  | true=>rw[znH e];rfl) as
 exact h.imp fun {a b} z=>by simpa using z
theorem zn8 {as bs:List α}(hp:bs.Perm as)(hs:bs.Pairwise fun a b=>Srt.blt b a=false):bs=zez as:=
 List.Perm.eq_of_pairwise (fun a b _ _ h1 h2=>Srt.total a b h2 h1) hs (zke as) (hp.trans (zcw as).symm)
theorem zg2 {as:List α}(hn:as.Nodup):(zez as).Pairwise fun a b=>Srt.blt a b=true:=by
 have h1:=zke as;have h2:(zez as).Nodup:=(zcw as).nodup_iff.mpr hn;refine (h1.and h2).imp fun {a b} z=>?_;cases e:Srt.blt a b with
 | true=>rfl
 | false=>exact absurd (Srt.total a b e z.1) z.2
theorem ziI {K:Frag}{H:Hp}:∀{out:List Value},(∀ v∈out,∃ a:α,∃ x,RelV x v∧Rep.has K H a x∧(srtKind α K H).keyOf v=some a)→
  ∃(ws:List V) (bs:List α),Vals ws out∧zao K H bs ws∧bs=out.map (Tim.keyV (srtKind α K H))
 | [],_=>⟨[],[],.nil,.nil,rfl⟩
 | v::out,h=>by
  obtain ⟨ws,bs,h1,h2,h3⟩:=ziI (out:=out) fun u hu=>h u (yau _ hu);obtain ⟨a,x,r,e,k⟩:=h v yav;refine ⟨x::ws,a::bs,.cons r h1,.cons e h2,?_⟩;rw[yaw,← h3];have z:Tim.keyV (srtKind α K H) v=a:=by
   unfold Tim.keyV;rw[k];rfl
  rw[z];rfl
theorem zm7 {X:Cx}{pins:List (Addr×Obj)}{σ:St}{H:Hp}{s:Shared}(I:Inv X pins σ H s):∀{as:List α} {xs:List V} {us:List Value},zao X.K H as xs→Vals xs us→us.map (Tim.keyV (srtKind α X.K H))=as∧∀ v∈us,∃ a:α,∃ x,RelV x v∧Rep.has X.K H a x∧(srtKind α X.K H).keyOf v=some a
 | _,_,_,.nil,.nil=>⟨rfl,fun _ z=>nomatch z⟩
 | _,_,_,.cons e t,.cons r q=>by
  obtain ⟨h1,h2⟩:=zm7 I t q;have k:=zoP I r e;refine ⟨?_,fun v hv=>?_⟩
  ·rw[yaw,h1];unfold Tim.keyV;rw[k];rfl
  ·rcases yaj.mp hv with z | z
   ·subst z;exact ⟨_,_,r,e,k⟩
   ·exact h2 v z
end
instance:Srt Int where
 blt:=fun a b=>decide (a < b)
 irrefl:=fun a=>by simp
 trans:=fun a b c h1 h2=>by
  simp only[decide_eq_true_eq]at *;omega
 negTrans:=fun a b c h=>by
  simp only[decide_eq_true_eq]at *;omega
 total:=fun a b h1 h2=>by
  simp only[decide_eq_false_iff_not]at *;omega
 kd:=oneType'
 one:=0
 lt:=fun {X pins σ H s A a b x y u v Q E} _ h1 h2 r1 r2 q=>by
  have h1:x=.int a:=h1;have h2:y=.int b:=h2;subst h1 h2;obtain ⟨t,rfl⟩:=r1;obtain ⟨t',rfl⟩:=r2;exact PySem.W.kat_lt_int q
 kind:=fun {X pins σ H s A as xs us Q E} _ h r hl q=>by
  have e:=zao.toInts h;subst e;have hi:IntsAre us as:=by
   clear q hl
   induction as generalizing us with
   | nil=>cases r;exact .nil
   | cons a as ih=>
    cases r with
    | cons r1 r2=>
     obtain ⟨t,rfl⟩:=r1;exact .cons a t (ih (by first | exact zao.ints | assumption) r2)
  match us,hl,hi with
  | v₁::v₂::rest,_,hi=>
   rw[keyKind_ints hi];exact wpAny_pure q
def pLt (a b:Int×Int):Bool:=decide (a.1 < b.1) || (decide (a.1=b.1) && decide (a.2 < b.2))
theorem zcY {a b:Int×Int}:pLt a b=true↔a.1 < b.1∨(a.1=b.1∧a.2 < b.2):=by
 unfold pLt;simp
theorem zji {a b:Int×Int}:pLt a b=false↔¬ (a.1 < b.1∨(a.1=b.1∧a.2 < b.2)):=by
 rw[← zcY];simp
theorem zhI {X:Cx}{pins:List (Addr×Obj)}{σ:St}{H:Hp}{s:Shared}{a:Int×Int}{x:V}{u:Value}(I:Inv X pins σ H s)(h:Rep.has X.K H a x)(r:RelV x u) :
  ∃(p:Addr) (o:Obj) (n:Nat) (t t':Tok),u=.ref p∧s.heap.get? p=some o∧o.cls=.type "tuple"∧o.data=.seq #[.int a.1 t,.int a.2 t'] n:=by
 obtain ⟨p,x1,x2,rfl,q,e1,e2⟩:=(show hasP X.K H a x from h);have e1:x1=.int a.1:=e1;have e2:x2=.int a.2:=e2;subst e1 e2;cases r
 obtain ⟨us,ru,pu,_⟩:=I.tuple (SqT.of q);obtain ⟨u1,u2,rfl,⟨t,rfl⟩,⟨t',rfl⟩⟩:=zh9 ru;obtain ⟨o,ho,hc,n,hd⟩:=pu;exact ⟨p,o,n,t,t',rfl,ho,hc,hd⟩
theorem zpv {prog:Program}{w:World}{A:Around}{E:Value→Shared→Prop}{s:Shared}{x y:Int}{t u:Tok}{Q:Bool→Shared→Prop}(b:Bool)(h:Q (decide (x < y)) s):wpAny (model prog w) A (oneLt' b (.int x t) (.int y u)) Q E s:=by
 cases b with
 | true=>
  rw[← keyLt'_oneType];exact PySem.W.kat_lt_int h
 | false=>exact PySem.W.kat_one _ _ (lt_int h)
instance:Srt (Int×Int) where
 blt:=pLt
 irrefl:=fun a=>by rw[zji];omega
 trans:=fun a b c h1 h2=>by
  rw[zcY]at *;omega
 negTrans:=fun a b c h=>by
  rw[zcY]at *;rw[zcY];omega
 total:=fun a b h1 h2=>by
  rw[zji]at *;obtain ⟨a1,a2⟩:=a;obtain ⟨b1,b2⟩:=b;have:a1=b1∧a2=b2:=by dsimp only at *;omega
  rw[this.1,this.2]
 kd:=tuples' true
 one:=(0,0)
 lt:=fun {X pins σ H s A a b x y u v Q E} I h1 h2 r1 r2 q=>by
  obtain ⟨p,o,n,t1,t2,rfl,ho,hc,hd⟩:=zhI I h1 r1;obtain ⟨p',o',n',t3,t4,rfl,ho',hc',hd'⟩:=zhI I h2 r2;refine PySem.W.kat_lt ho hd ho' hd' ?_;show PySem.W.KatLex X.prog X.w A true _ Q [(.int a.1 t1,.int b.1 t3),(.int a.2 t2,.int b.2 t4)] 0 s;refine PySem.W.kat_cons (EqAt.int_int a.1 t1 b.1 t3 _ _ _ _ (PySem.W.kat_go (fun e=>PySem.W.kat_yes ?_) (fun e=>PySem.W.kat_no ?_)))
  ·have e1:a.1=b.1:=eq_of_beq e;refine PySem.W.kat_cons (EqAt.int_int a.2 t2 b.2 t4 _ _ _ _ (PySem.W.kat_go (fun e=>PySem.W.kat_yes (PySem.W.kat_nil ?_)) (fun e=>PySem.W.kat_no (zpv _ ?_))))
   ·have e2:a.2=b.2:=eq_of_beq e;have z:pLt a b=false:=by rw[zji];omega
    rw[z]at q;exact q
   ·have z:pLt a b=decide (a.2 < b.2):=by
     unfold pLt;rw[yai (by omega:¬ a.1 < b.1),yag e1];rfl
    rw[z]at q;exact q
  ·have e1:¬ a.1=b.1:=fun z=>by rw[z]at e;simp at e
   refine zpv _ ?_;have z:pLt a b=decide (a.1 < b.1):=by
    unfold pLt;rw[yai e1];simp
   rw[z]at q;exact q
 kind:=fun {X pins σ H s A as xs us Q E} I h r hl q=>by
  have go:∀{as:List (Int×Int)} {xs:List V} {us:List Value},zao X.K H as xs→Vals xs us→∃ fs,PySem.W.KatTups s.heap us fs∧fs.length=us.length∧∀ v∈fs,∃ i t,v=Value.int i t:=by
   intro as
   induction as with
   | nil=>
    intro xs us h r;cases h
    cases r
    exact ⟨[],.nil,rfl,fun _ z=>nomatch z⟩
   | cons a as ih=>
    intro xs us h r;cases h with
    | cons h1 h2=>
     cases r with
     | cons r1 r2=>
      obtain ⟨fs,f1,f2,f3⟩:=ih h2 r2;obtain ⟨p,o,n,t,t',rfl,ho,hc,hd⟩:=zhI I h1 r1;refine ⟨.int a.1 t::fs,PySem.W.KatTups.cons ho hc hd rfl f1,by rw[yaI,yaI,f2],fun v hv=>?_⟩;rcases yaj.mp hv with z | z
      ·exact ⟨_,_,z⟩
      ·exact f3 v z
  obtain ⟨fs,f1,f2,f3⟩:=go h r;refine PySem.W.kat_kind (T:=.type "int") f1 (by omega) (fun v hv=>?_) (by decide) ?_
  ·obtain ⟨i,t,rfl⟩:=f3 v hv;exact PySem.W.Looks.of_pure rfl
  ·exact q
end L2
namespace L2
open PySem PySem.Spec PyProof.Rows
section
variable {X:Cx}
theorem zfW {x:Str}{i:Int}{pos:Pos}(hg:Gl X x)(hm:∃ t,X.mg x=some (.int i t))(hd:(x == ("__debug__" : Str))=false:=by decide):PE X (.Name x pos) (tC (.int i)):=by
 obtain ⟨t,e⟩:=hm;exact zp3 hg e ⟨t,rfl⟩ hd
end
theorem zaT {K:Frag}{a D:Addr}{xs:List V}{g:TG}{ts:TT}{te:TE}{σ:St}{H:Hp}{Q:Hp→Prop}(Pv:Nat→St→Hp→Prop)(h0:Pv 0 σ H)(hl:∀ i σ H,i≤xs.length→Pv i σ H→SqL K H a xs)
  (hs:∀ i m x σ H,xs[i]?=some x→i+m=xs.length→Pv i σ H→g x σ H fun σ2 H2=>ts σ2 H2 fun b H3=>if b=true then te σ2 H3 fun y H4=>∃ zs,H4 D=some (.lst zs)∧zs.length < sizeLine∧∃ m',m' < m∧(i+1+m'=xs.length∧Pv (i+1) σ2 (upd H4 D (.lst (zs++[y])))) else ∃ m',m' < m∧(i+1+m'=xs.length∧Pv (i+1) σ2 H3))
  (hd:∀ σ H,Pv xs.length σ H→Q H) :
  ∃ W:Nat→Nat→St→Hp→Prop,(∃ m,W 0 m σ H)∧∀ i m σ H,W i m σ H→((Itl K a).stop i H∧Q H)∨((Itl K a).go i H∧∀ x H',(Itl K a).yld i H x H'→g x σ H' fun σ2 H2=>ts σ2 H2 fun b H3=>if b=true then te σ2 H3 fun y H4=>∃ xs,H4 D=some (.lst xs)∧xs.length < sizeLine∧∃ m',m' < m∧W (i+1) m' σ2 (upd H4 D (.lst (xs++[y]))) else ∃ m',m' < m∧W (i+1) m' σ2 H3):=by
 refine ⟨fun i m σ H=>i+m=xs.length∧Pv i σ H,⟨xs.length,by omega,h0⟩,fun i m σ H zq0=>?_⟩;obtain ⟨e,pv⟩:=zq0;have hS:=hl i σ H (by omega) pv;by_cases hi:i < xs.length
 ·refine .inr ⟨⟨xs,xs[i],hS,yac hi⟩,fun x H' y=>?_⟩;obtain ⟨e1,y⟩:=y;subst e1;exact hs i m x σ _ (y xs hS) e pv
 ·have:i=xs.length:=by omega
  subst this;exact .inl ⟨⟨xs,hS,yab _⟩,hd σ H pv⟩
theorem zfi {lo:Int}{n:Nat}{D:Addr}{g:TG}{ts:TT}{te:TE}{σ:St}{H:Hp}{Q:Hp→Prop}(Pv:Nat→St→Hp→Prop)(h0:Pv 0 σ H)
  (hs:∀ i m σ H,i+m=n→i < n→Pv i σ H→g (.int (lo+i)) σ H fun σ2 H2=>ts σ2 H2 fun b H3=>if b=true then te σ2 H3 fun y H4=>∃ zs,H4 D=some (.lst zs)∧zs.length < sizeLine∧∃ m',m' < m∧(i+1+m'=n∧Pv (i+1) σ2 (upd H4 D (.lst (zs++[y])))) else ∃ m',m' < m∧(i+1+m'=n∧Pv (i+1) σ2 H3))
  (hd:∀ σ H,Pv n σ H→Q H) :
  ∃ W:Nat→Nat→St→Hp→Prop,(∃ m,W 0 m σ H)∧∀ i m σ H,W i m σ H→((Itr lo n).stop i H∧Q H)∨((Itr lo n).go i H∧∀ x H',(Itr lo n).yld i H x H'→g x σ H' fun σ2 H2=>ts σ2 H2 fun b H3=>if b=true then te σ2 H3 fun y H4=>∃ xs,H4 D=some (.lst xs)∧xs.length < sizeLine∧∃ m',m' < m∧W (i+1) m' σ2 (upd H4 D (.lst (xs++[y]))) else ∃ m',m' < m∧W (i+1) m' σ2 H3):=by
 refine ⟨fun i m σ H=>i+m=n∧Pv i σ H,⟨n,by omega,h0⟩,fun i m σ H zq0=>?_⟩;obtain ⟨e,pv⟩:=zq0;by_cases hi:i < n
 ·refine .inr ⟨hi,fun x H' y=>?_⟩;obtain ⟨e1,y⟩:=y;subst e1 y;exact hs i m σ _ e hi pv
 ·have:i=n:=by omega
  subst this;exact .inl ⟨yab _,hd σ H pv⟩
end L2
namespace L2
open PySem PySem.Spec PyProof.Rows
theorem zfl:∀{ns:List Int} {us:List Value},Vals (ns.map V.int) us→IntsAre us ns
 | [],_,.nil=>.nil
 | n::_,_,.cons ⟨t,e⟩ q=>by
  subst e;exact .cons n t (zfl q)
end L2
namespace L2
open PySem PySem.Spec PyProof.Rows
section
variable {X:Cx}
theorem ziw:OpR X (compareOp .IsNot) (fun x y H Q=>∃ b c,x=.bl b∧y=.bl c∧Q (.bl (b != c)) H):=by
 intro pins s σ H x y v u Q I rx ry h;obtain ⟨b,c,rfl,rfl,q⟩:=h;cases rx
 cases ry
 exact isnot_bool ⟨.bl _,H,I,rfl,q⟩
end
theorem zpz:kitO "tuple" "tuple" = some true:=by decide +kernel
end L2
namespace L2
theorem zcU {i:Nat}{x:V}{σ:St}{H:Hp}{A B:St→Hp→Prop}(h:A (σ.set i (some x)) H):zgR i x σ H fun σ2 H2=>tYes σ2 H2 fun b H3=>if b=true then A σ2 H3 else B σ2 H3:=by
 show (if true=true then A (σ.set i (some x)) H else B (σ.set i (some x)) H)
 rw[if_pos rfl];exact h
end L2
namespace L2
open PySem PySem.Spec PyProof.Rows
theorem zgX:∀{bs:List Bool} {us:List Value},Vals (bs.map V.bl) us→us=bs.map Value.bool
 | [],_,.nil=>rfl
 | b::_,_,.cons e q=>by
  have e:_=Value.bool b:=e;rw[e,zgX q];rfl
section
variable {X:Cx}
theorem zgI (hc:X.calm=true):ze8 X (.builtin "all") (fun xs H Q=>∃(p:Addr) (bs:List Bool),xs=[.ref p]∧SqL X.K H p (bs.map V.bl)∧Q (.bl (bs.all id)) H):=by
 intro pins s σ H xs us Q I r h;obtain ⟨p,bs,rfl,hq,q⟩:=h;obtain ⟨u,rfl,rx⟩:=zhr r;cases rx
 obtain ⟨its,rv,pl,_⟩:=I.list hq;have e:=zgX rv;subst e;have hl:=pl.isList;have hlt:p < s.heap.objs.size:=by obtain ⟨_,e,_⟩:=hl;exact yaf e
 refine call_all_walk (wpAny_pyIter_list hl ?_);refine ⟨s.heap.objs.size,[s.heap.objs.size,p],[s.heap.objs.size],(bs.map Value.bool).toArray.size,_,_,fun i=>(bs[i]?).getD true,rfl,Walks.list (A:=X.A.in1) (I.ok.hd hc) _ p (yaq hlt) _,
  ⟨⟨_,yaD _ rfl,rfl,rfl⟩,hl.push _⟩,fun i v s' Q' E' hP hQ=>?_,fun h' tk hk=>?_⟩
 ·have hP:(bs.map Value.bool)[i]?=some v:=by simpa using hP
  rw[yal]at hP;cases e:bs[i]? with
  | none=>rw[e]at hP;cases hP
  | some b=>
   rw[e]at hP;cases hP
   simp only[e,Option.getD_some]at hQ;exact wpAny_truthy_bool hQ
 ·have e:((List.range (bs.map Value.bool).toArray.size).all fun i=>(bs[i]?).getD true)=bs.all id:=by
   rw[yaz,yaa];exact PyProof.Rows.LSm.range_all bs
  rw[e];have kk:∀ b o,s.heap.get? b=some o→h'.get? b=some o:=fun b o eb=>hk b o (fun hm=>by rw[yap.mp hm]at eb;exact yaM _ (yaf eb)) (yam _ eb);have I':Inv X pins σ H { s with heap:=h',toks:=tk }:=I.kept (t':=tk) kk;exact ⟨.bl _,H,I',rfl,q⟩
end
end L2
namespace L2
open PySem PySem.Spec PyProof.Rows
section
variable {X:Cx}{K:Frag}
theorem zcu (h:X.K=K:=by rfl):IxR X (rIxL K):=by
 subst h;exact zax
theorem zbr (h:X.K=K:=by rfl):IxR X (rIxT K):=by
 subst h;exact zaF
end
end L2
namespace L2
open PySem PySem.Spec PyProof.Rows
theorem zh6 {c:TT}{tb:TS}{D:Ends}{σ:St}{H:Hp}(Pv Pe:St→Hp→Prop)(μ:St→Hp→Nat)(h0:Pv σ H)
  (hs:∀ σ H,Pv σ H→c σ H fun b H1=>if b=true then tb { D with nx:=fun σ' H'=>Pv σ' H'∧μ σ' H' < μ σ H,ct:=fun σ' H'=>Pv σ' H'∧μ σ' H' < μ σ H,bk:=D.nx } σ H1 else Pe σ H1)
  (mono:∀ σ H Q Q',(∀ b H1,Q b H1→Q' b H1)→c σ H Q→c σ H Q') (he:∀ σ H,Pe σ H→D.nx σ H):zlX c tb D σ H:=by
 refine znT Pv μ h0 (fun σ H p=>mono σ H _ _ (fun b H1 q=>?_) (hs σ H p)) mono;cases b with
 | true=>exact q
 | false=>exact he _ _ q
def zqT (c:TT):Prop:=∀ σ H Q Q',(∀ b H1,Q b H1→Q' b H1)→c σ H Q→c σ H Q'
theorem zl1 {a b:TT}(ha:zqT a)(hb:zqT b):zqT (tAnd a b):=fun σ H Q Q' m h=>ha σ H _ _ (fun c H1 q=>by
 cases c with
 | false=>exact m _ _ q
 | true=>exact hb σ H1 Q Q' m q) h
section
variable {X:Cx}{K:Frag}
theorem zhJ (h:X.K=K:=by rfl):OpR X (compareOp .NotIn) (rIn K true):=by
 subst h;exact zfo
theorem zff {es:List Expr}{k:Nat}{t:TGs}{n:Nat}{pos:Pos}(hc:X.calm=true)(h:PGs X es t)(hK:X.K=K:=by rfl)
  (hn:(assignEach es X.env).length=n:=by rfl) (hst:(assignEach es X.env).findIdx? (·.1)=none:=by rfl):PG X (.Tuple es k pos) (gTup K n t):=by
 subst hK;exact zfn hc h hn hst
end
theorem zkS {K:Frag}{a b D:Addr}{xs ys:List V}{g:TG}{ts:TT}{te:TE}{σ:St}{H:Hp}{Q:Hp→Prop}(hlen:xs.length=ys.length)(Pv:Nat→St→Hp→Prop)(h0:Pv 0 σ H)(hl:∀ i σ H,i≤xs.length→Pv i σ H→SqL K H a xs∧SqL K H b ys)
  (hs:∀ i m x y σ H r,xs[i]?=some x→ys[i]?=some y→i+m=xs.length→Pv i σ H→H r=none→g (.ref r) σ (upd H r (.tup [x,y])) fun σ2 H2=>ts σ2 H2 fun b H3=>if b=true then te σ2 H3 fun y H4=>∃ zs,H4 D=some (.lst zs)∧zs.length < sizeLine∧∃ m',m' < m∧(i+1+m'=xs.length∧Pv (i+1) σ2 (upd H4 D (.lst (zs++[y])))) else ∃ m',m' < m∧(i+1+m'=xs.length∧Pv (i+1) σ2 H3))
  (hd:∀ σ H,Pv xs.length σ H→Q H) :
  ∃ W:Nat→Nat→St→Hp→Prop,(∃ m,W 0 m σ H)∧∀ i m σ H,W i m σ H→((Itz K a b).stop i H∧Q H)∨((Itz K a b).go i H∧∀ x H',(Itz K a b).yld i H x H'→g x σ H' fun σ2 H2=>ts σ2 H2 fun b H3=>if b=true then te σ2 H3 fun y H4=>∃ xs,H4 D=some (.lst xs)∧xs.length < sizeLine∧∃ m',m' < m∧W (i+1) m' σ2 (upd H4 D (.lst (xs++[y]))) else ∃ m',m' < m∧W (i+1) m' σ2 H3):=by
 refine ⟨fun i m σ H=>i+m=xs.length∧Pv i σ H,⟨xs.length,by omega,h0⟩,fun i m σ H zq0=>?_⟩;obtain ⟨e,pv⟩:=zq0;obtain ⟨hS,hS'⟩:=hl i σ H (by omega) pv;by_cases hi:i < xs.length
 ·refine .inr ⟨⟨xs,ys,xs[i],ys[i]'(by omega),hS,hS',yac hi,yac (by omega)⟩,fun x H' y=>?_⟩;obtain ⟨p,z,z',rfl,hp,hz,hz',rfl⟩:=y;exact hs i m z z' σ H p (hz xs hS) (hz' ys hS') e pv hp
 ·have:i=xs.length:=by omega
  subst this;exact .inl ⟨⟨xs,ys,hS,hS',.inl (yab _)⟩,hd σ H pv⟩
end L2
namespace L2
open PySem PySem.Spec PyProof.Rows
section
variable {X:Cx}
theorem znG (hc:X.calm=true):ze8 X (.builtin "min") (fun xs H Q=>∃(p:Addr) (ns:List Int),xs=[.ref p]∧SqL X.K H p (ns.map V.int)∧0 < ns.length∧∀ M,M∈ns→(∀ a,a∈ns→M≤a)→Q (.int M) H):=by
 intro pins s σ H xs us Q I r h;obtain ⟨p,ns,rfl,hq,hne,q⟩:=h;obtain ⟨u,rfl,rx⟩:=zhr r;cases rx
 obtain ⟨its,rv,pl,_⟩:=I.list hq;have hi:=zfl rv;obtain ⟨xs,hx⟩:=hi.allInts.items;have hl':s.heap.IsList p (intItems xs):=hx ▸ pl.isList;have e1:ns=xs.toList.map (·.1):=by
  rw[← nums_intItems,← hx];exact (show numsOf its.toArray.toList=ns from hi.numsOf).symm
 have hsz:0 < xs.size:=by
  rw[e1,yaa,ybv]at hne;exact hne
 refine min_intList (I.ok.hd hc) hl' hsz fun v h' tk hv hk=>?_;obtain ⟨t,rfl⟩:=intItems_at hv;obtain ⟨h1,h2⟩:=argBest_lt (numAt xs) (xs.size - 1);refine ⟨.int _,H,Inv.kept (t':=tk) I hk,⟨t,rfl⟩,q _ ?_ fun a ha=>?_⟩
 ·rw[e1,numAt_eq];rw[yad,yac (by rw[yaa,ybv];omega)];exact yaG _
 ·rw[e1]at ha;obtain ⟨j,hj,rfl⟩:=mem_getD ha;rw[yaa,ybv]at hj;rw[← numAt_eq];exact h2 j (by omega)
end
theorem zf7 {K:Frag}{a D:Addr}{xs:List V}{g:TG}{ts:TT}{te:TE}{σ:St}{H:Hp}{Q:Hp→Prop}(Pv:Nat→St→Hp→Prop)(h0:Pv 0 σ H)(hl:∀ i σ H,i≤xs.length→Pv i σ H→SqT K H a xs)
  (hs:∀ i m x σ H,xs[i]?=some x→i+m=xs.length→Pv i σ H→g x σ H fun σ2 H2=>ts σ2 H2 fun b H3=>if b=true then te σ2 H3 fun y H4=>∃ zs,H4 D=some (.lst zs)∧zs.length < sizeLine∧∃ m',m' < m∧(i+1+m'=xs.length∧Pv (i+1) σ2 (upd H4 D (.lst (zs++[y])))) else ∃ m',m' < m∧(i+1+m'=xs.length∧Pv (i+1) σ2 H3))
  (hd:∀ σ H,Pv xs.length σ H→Q H) :
  ∃ W:Nat→Nat→St→Hp→Prop,(∃ m,W 0 m σ H)∧∀ i m σ H,W i m σ H→((Itt K a).stop i H∧Q H)∨((Itt K a).go i H∧∀ x H',(Itt K a).yld i H x H'→g x σ H' fun σ2 H2=>ts σ2 H2 fun b H3=>if b=true then te σ2 H3 fun y H4=>∃ xs,H4 D=some (.lst xs)∧xs.length < sizeLine∧∃ m',m' < m∧W (i+1) m' σ2 (upd H4 D (.lst (xs++[y]))) else ∃ m',m' < m∧W (i+1) m' σ2 H3):=by
 refine ⟨fun i m σ H=>i+m=xs.length∧Pv i σ H,⟨xs.length,by omega,h0⟩,fun i m σ H zq0=>?_⟩;obtain ⟨e,pv⟩:=zq0;have hS:=hl i σ H (by omega) pv;by_cases hi:i < xs.length
 ·refine .inr ⟨⟨xs,xs[i],hS,yac hi⟩,fun x H' y=>?_⟩;obtain ⟨e1,y⟩:=y;subst e1;exact hs i m x σ _ (y xs hS) e pv
 ·have:i=xs.length:=by omega
  subst this;exact .inl ⟨⟨xs,hS,yab _⟩,hd σ H pv⟩
end L2
namespace L2
open PySem PySem.Spec PyProof.Rows
def Itv (K:Frag)(a:Addr)(n:Nat):It:=
 ⟨fun i H=>i < n∧∃ xs,SqL K H a xs∧xs.length=n,fun i H x H'=>H'=H∧∀ xs,SqL K H a xs→xs.length=n→xs.reverse[i]?=some x,fun i _=>i=n⟩
theorem znY {P:Program}{w:World}{K:Frag}{tg:Expr}(a it:Addr)(n:Nat):Turn P w K tg (Itv K a n) [it] it (fun i h=>h.IsRevIter it a ((n:Int) - 1 - (i:Int))) where
 mem:=by simp
 obj:=fun i h st b hb=>by
  have e:b=it:=by simpa using hb
  subst e;obtain ⟨o,e,c,d⟩:=st;exact ⟨o,e,fun v z=>by rw[d]at z;cases z⟩
 keep:=fun i h h' st k=>st.at fun o e=>k it (by simp) o e
 item:=by
  intro X hP hw hK hc i pins s σ H E I hf st hg;subst hP hw hK;obtain ⟨hi,xs,hq,hn⟩:=hg;obtain ⟨its,rv,p,hz⟩:=I.list hq;have hx:xs[n - 1 - i]?=some (xs[n - 1 - i]'(by omega)):=yac (by omega);obtain ⟨u,hu,ru⟩:=rv.get hx;obtain ⟨f0,f1,f2,f3,f4,f5⟩:=hf it (by simp);have e1:(n:Int) - 1 - (i:Int)=((n - 1 - i:Nat):Int):=by omega
  rw[e1]at st;refine wpAny_pyNext_rev_item st p.isList (x:=u) (by simpa using hu) fun h' st' sb=>?_;have e2:((n - 1 - i:Nat):Int) - 1=(n:Int) - 1 - ((i+1:Nat):Int):=by omega
  rw[e2]at st';have I1:Inv X pins σ H { s with heap:=h' }:=I.turned (t':=s.toks) (fun b o hb e=>(sb.2 b hb).trans e) f0 f1 f3 f4 f5;obtain ⟨o,e,c,d⟩:=id st';refine ⟨u,rfl,zoX (s:={ s with heap:=h' }) e c d (by decide) ⟨xs[n - 1 - i]'(by omega),H,I1,ru,⟨rfl,fun ys hy hyn=>?_⟩,st',fun b hb=>(hf b hb).1⟩⟩;rw[I.list_inj hy hq,yck (by omega),show xs.length - 1 - i=n - 1 - i by omega];exact hx
 done:=by
  intro X hP hw hK hc i pins s σ H E I hf st hg;subst hP hw hK;have hi:i=n:=hg;subst hi;obtain ⟨f0,f1,f2,f3,f4,f5⟩:=hf it (by simp);have e1:(i:Int) - 1 - (i:Int) = -1:=by omega
  rw[e1]at st;exact wpAny_pyNext_rev_end (I.ok.hd hc) st fun h' eb=>⟨rfl,I.turned (t':=s.toks) (fun b o hb e=>eb b o hb e) f0 f1 f3 f4 f5⟩
 self:=fun _ _ _ _ _ st h=>wpAny_pyIter_revIter st h
def iRev (K:Frag)(ta:TA):TI:=fun σ H R=>ta σ H fun vs H1=>∃ a xs,vs=[.ref a]∧SqL K H1 a xs∧R (Itv K a xs.length) H1
section
variable {X:Cx}
theorem zjg {tg:Expr}{a:Expr}{ta:TA}{p pos:Pos}(hg:Gl X "reversed")(hm:X.mg "reversed" = none)(ha:PA X [a] ta)(hs:starEach [a] X.env=[(false,eval a X.env)]:=by rfl):PI X tg (.Call (.Name "reversed" p) [a] [] pos) (iRev X.K ta):=by
 intro pins s σ H R I h;refine Call_ (zft I hg hm boot_reversed (PyProof.Rows.callWith_type1 (thn (ha pos pins s σ H _ I h) fun us s1 zq0=>?_) hs rfl));obtain ⟨vs,H1,I1,r1,q1⟩:=zq0;obtain ⟨l,xs,e,hq,q⟩:=q1;subst e;cases r1 with
 | cons r rr=>
  cases rr
  cases r
  obtain ⟨its,rv,pl,hz⟩:=I1.list hq;have hl:=rv.length;refine call_reversed_list pl.isList ?_;have I2:Inv X pins σ H1 { s1 with heap:=s1.heap.push (revObj l ((its.toArray.size:Int) - 1)) }:=I1.kept (t':=s1.toks) fun b o e=>yam _ e;have hr:(s1.heap.push (revObj l ((its.toArray.size:Int) - 1))).IsRevIter s1.heap.objs.size l (((xs.length:Nat):Int) - 1 - ((0:Nat):Int)):=by
   refine ⟨_,yaD _ rfl,rfl,?_⟩;have:(its.toArray.size:Int) - 1=((xs.length:Nat):Int) - 1 - ((0:Nat):Int):=by
    rw[yaz,hl];omega
   rw[this];rfl
  refine wpAny_pyIter_revIter (s:={ s1 with heap:=s1.heap.push (revObj l ((its.toArray.size:Int) - 1)) }) hr ⟨_,[s1.heap.objs.size],_,_,H1,rfl,I2,znY l s1.heap.objs.size xs.length,hr,fun b hb=>?_,q⟩;have e:b=s1.heap.objs.size:=by simpa using hb
  subst e;exact I1.fpOk (yab _) (I1.hok.fresh (yab _))
end
theorem zqC {K:Frag}{a:Addr}{xs:List V}{g:TG}{tb:TS}{D:Ends}{σ:St}{H:Hp}(Pv:Nat→St→Hp→Prop)(h0:Pv 0 σ H)(hl:∀ i σ H,i≤xs.length→Pv i σ H→SqL K H a xs)
  (hs:∀ i x σ H,xs.reverse[i]?=some x→Pv i σ H→g x σ H fun σ2 H2=>tb { D with nx:=Pv (i+1),ct:=Pv (i+1),bk:=D.nx } σ2 H2) (hd:∀ σ H,Pv xs.length σ H→D.nx σ H) :
  ∃ W:Nat→Nat→St→Hp→Prop,(∃ m,W 0 m σ H)∧∀ i m σ H,W i m σ H→((Itv K a xs.length).stop i H∧D.nx σ H)∨((Itv K a xs.length).go i H∧∃ N:St→Hp→Prop,(∀ σ' H',N σ' H'→∃ m',m' < m∧W (i+1) m' σ' H')∧∀ x H',(Itv K a xs.length).yld i H x H'→g x σ H' fun σ2 H2=>tb { D with nx:=N,ct:=N,bk:=D.nx } σ2 H2):=by
 refine ⟨fun i m σ H=>i+m=xs.length∧Pv i σ H,⟨xs.length,by omega,h0⟩,fun i m σ H zq0=>?_⟩;obtain ⟨e,pv⟩:=zq0;have hS:=hl i σ H (by omega) pv;by_cases hi:i < xs.length
 ·refine .inr ⟨⟨hi,xs,hS,rfl⟩,Pv (i+1),fun σ' H' q=>⟨m - 1,by omega,by omega,q⟩,fun x H' y=>?_⟩;obtain ⟨e1,y⟩:=y;subst e1;exact hs i x σ _ (y xs hS rfl) pv
 ·have:i=xs.length:=by omega
  subst this;exact .inl ⟨rfl,hd σ H pv⟩
end L2
namespace L2
open PySem PySem.Spec PyProof.Rows
theorem zmk {P:Program}{w:World}{k:Key}{u:Value}(h:(zaL P w).is k u=true):RelV (kV k) u:=by
 rw[zli]at h;rcases za2 h with ⟨i,t,rfl,rfl⟩ | ⟨x,t,rfl,rfl⟩
 ·exact ⟨t,rfl⟩
 ·exact ⟨t,rfl⟩
section
variable {X:Cx}
theorem zlH (hc:X.calm=true):ze8 X (.type "list") (fun xs H Q=>∃(p:Addr) (kvs:List (Key×V)),xs=[.ref p]∧H p=some (.dK kvs)∧∀ l,H l=none→Q (.ref l) (upd H l (.lst (kvs.map fun kv=>kV kv.1)))):=by
 intro pins s σ H xs us Q I r h;obtain ⟨p,kvs,rfl,hq,q⟩:=h;obtain ⟨u,rfl,rx⟩:=zhr r;cases rx
 obtain ⟨hz,hne,vs,rel,o,es,ep,h1,h2,h3,h4,h5,h6⟩:=zqH I.hok hq;have hlen:kvs.length=vs.length:=rel.length;refine PySem.W.kdl_call (PySem.W.kdl_dict (knd:=zaL X.prog X.w) (kvs:=vs) (ep:=ep) hne) (I.ok.hd hc) ⟨o,es,h1,h2,h3,h4,h5,h6⟩ (by omega) fun h' tk acc c k e hi=>?_;have hv:Vals (kvs.map fun kv=>kV kv.1) acc.toList:=by
  obtain ⟨g1,g2⟩:=hi;have key:∀(m:Nat) (kvs:List (Key×V)) (vs:List (Key×Value)) (us:List Value),KV kvs vs→us.length=vs.length→(∀(i:Nat) (v:Value),us[i]?=some v→∃ k x,vs[i]?=some (k,x)∧(zaL X.prog X.w).is k v=true)→Vals (kvs.map fun kv=>kV kv.1) us:=by
   intro m kvs
   induction kvs with
   | nil=>
    intro vs us r hl _;cases r
    have:us=[]:=ybC hl;subst this;exact .nil
   | cons kv kvs ih=>
    intro vs us r hl hh;cases r with
    | cons a b=>
     cases us with
     | nil=>cases hl
     | cons v us=>
      refine .cons ?_ (ih _ us b (Nat.succ.inj hl) fun i v e=>?_)
      ·obtain ⟨k,x,e1,e2⟩:=hh 0 v rfl;cases e1
       have h9:=zmk e2;have a1:kv.1=k:=a.1;rw[← a1]at h9;exact h9
      ·have:=hh (i+1) v (by simpa using e);simpa using this
  refine key 0 kvs vs acc.toList rel (by rw[ybv];exact g1) fun i v e=>?_;exact g2 i v (by rw[← Array.getElem?_toList];exact e)
 refine ⟨.ref s.heap.objs.size,_,I.laid (a:=s.heap.objs.size) (o:=.lst (kvs.map fun kv=>kV kv.1)) (t':=tk) k (yab _) ⟨?_,acc.toList,c,hv,by rw[Array.toArray_toList];exact e⟩,rfl,q _ (I.hok.fresh (yab _))⟩;rw[yaa];omega
end
end L2
namespace L2
open PySem PySem.Spec PyProof.Rows
def iSeq (K:Frag)(tl:TE):TI:=fun σ H R=>tl σ H fun x H1=>∃ a,x=.ref a∧((∃ xs,SqL K H1 a xs)∧R (Itl K a) H1∨(∃ xs,SqT K H1 a xs)∧R (Itt K a) H1)
section
variable {X:Cx}{tg:Expr}
theorem zrk {l:Expr}{tl:TE}(hl:PE X l tl):PI X tg l (iSeq X.K tl):=by
 intro pins s σ H R I h;refine thn (hl pins s σ H _ I h) fun v s1 zq0=>?_;obtain ⟨x,H1,I1,r1,a,e,q1⟩:=zq0;subst e;cases r1
 have new:∀ b∈[s1.heap.objs.size],FpOk X pins H1 b:=fun b hb=>by
  rw[yap.mp hb];exact I1.fpOk (yab _) (I1.hok.fresh (yab _))
 rcases q1 with ⟨⟨xs,hq⟩,q⟩ | ⟨⟨xs,hq⟩,q⟩
 ·obtain ⟨its,rv,p,hz⟩:=I1.list hq;exact wpAny_pyIter_list p.isList ⟨s1.heap.objs.size,[s1.heap.objs.size],_,_,H1,rfl,Inv.kept (t':=s1.toks) I1 (fun b o e=>yam _ e),zib a _,⟨_,yaD _ rfl,rfl,rfl⟩,new,q⟩
 ·obtain ⟨its,rv,p,hz⟩:=I1.tuple hq;exact wpAny_pyIter_tuple (show s1.heap.IsTuple a its.toArray from p) ⟨s1.heap.objs.size,[s1.heap.objs.size],_,_,H1,rfl,Inv.kept (t':=s1.toks) I1 (fun b o e=>yam _ e),zgY a _,⟨_,yaD _ rfl,rfl,rfl⟩,new,q⟩
end
end L2
namespace L2
open PySem PySem.Spec PyProof.Rows
def zbG (X:Cx)(N:List Str)(scope:Scope)(z:Str)(cl:List (Str×Addr))(C:Addr)(s₂:Shared)(H₂:Hp)(fp:List Addr):Cx:=
 { X with N:=N,s₀:=s₂,H₀:=H₂,env:=compEnvC scope ((z,C+1)::cl) C X.env,outer:=X.stack,stack:=X.stack,ex:=fp,fn:=fun x=>x == z,xe:=fun _ _=>False }
theorem zhh {n:Nat}{h:Heap}:∀{names:List (Str×NameKind)} {acc:List (Str×Addr)},names.filter (fun y=>y.2 == .cell)=[]→cellsFrom n names acc=acc∧pushCells h names=h
 | [],_,_=>⟨rfl,rfl⟩
 | (x,k)::r,acc,e=>by
  cases hk:k == NameKind.cell with
  | true=>
   rw[yaL (by exact hk)]at e;cases e
  | false=>
   rw[yaS (by rw[show ((x,k):Str×NameKind).2=k from rfl,hk];decide)]at e;unfold cellsFrom pushCells;rw[hk];exact zhh e
theorem zgG {n:Nat}{h:Heap}{z:Str}:∀{names:List (Str×NameKind)} {acc:List (Str×Addr)},names.filter (fun y=>y.2 == .cell)=[(z,.cell)]→cellsFrom n names acc=(z,n)::acc∧pushCells h names=h.push { cls:=.type "cell",data:=.cell none }
 | [],_,e=>by cases e
 | (x,k)::r,acc,e=>by
  cases hk:k == NameKind.cell with
  | true=>
   rw[yaL (by exact hk)]at e;obtain ⟨e1,e2⟩:=List.cons.inj e;have e3:x=z:=congrArg Prod.fst e1;subst e3;unfold cellsFrom pushCells;rw[hk];exact zhh e2
  | false=>
   rw[yaS (by rw[show ((x,k):Str×NameKind).2=k from rfl,hk];decide)]at e;unfold cellsFrom pushCells;rw[hk];exact zgG e
theorem zqG {M:Model}{A:Around}{E:Value→Shared→Prop}{s:Shared}{scope:Scope}{z:Str}{globals:Addr}{closure:List (Str×Addr)}{qual:Str}{env:Env}{Q:Env→Shared→Prop}
  (one:scope.names.filter (fun y=>y.2 == .cell)=[(z,.cell)])
  (hQ:Q { scope,locals:=s.heap.objs.size,globals,cells:=(z,s.heap.objs.size+1)::closure,qual,func:=none,code:=env.code,frame:=env.frame,builtins:=env.builtins } { s with heap:=(s.heap.push { cls:=.type "dict",data:=.dict #[] }).push { cls:=.type "cell",data:=.cell none } }) :
  wpAny M A (newFunctionEnv scope globals closure [] qual none .none (some env)) Q E s:=by
 simp only[newFunctionEnv,Option.isSome_some,if_true];refine wpAny_bind (wpAny_alloc ?_);refine wpAny_bind (wpAny_layCells _ (fun name kind cells=>by cases hkc:kind == NameKind.cell <;> simp[hkc]) _ _ _ _ ?_)
 rw[show ({ s with heap:=s.heap.push { cls:=.type "dict",data:=.dict #[] } }:Shared).heap.objs.size=s.heap.objs.size+1 from ybj ..];rw[(zgG (n:=s.heap.objs.size+1) (h:=s.heap) one).1,(zgG (n:=0) (h:=s.heap.push { cls:=.type "dict",data:=.dict #[] }) (acc:=[]) one).2];refine wpAny_bind ?_;rw[List.forIn_nil];exact wpAny_pure (wpAny_pure hQ)
theorem zfd {env:Env}:∀{names:List (Str×NameKind)} {x:Str} {k':NameKind},(names.map fun (n,k)=>if (k == NameKind.free && env.scope.kind == .function && env.kindOf n == some .cell) then (n,NameKind.cell) else (n,k)).lookup x=some k'→k'=.cell∨k'=.free→
  (x,NameKind.free)∈names∨(x,NameKind.cell)∈names
 | [],_,_,h,_=>by simp at h
 | (n,k)::r,x,k',h,hk=>by
  have ih:=@zfd env r x k';have h':List.lookup x ((if (k == NameKind.free && env.scope.kind == .function && env.kindOf n == some .cell)=true then (n,NameKind.cell) else (n,k))::r.map fun (n,k)=>if (k == NameKind.free && env.scope.kind == .function && env.kindOf n == some .cell) then (n,NameKind.cell) else (n,k))=some k':=h
  cases hx:x == n with
  | true=>
   have e:=eq_of_beq hx;subst e;by_cases hf:k=.free
   ·subst hf;exact .inl yav
   ·have hb:(k == NameKind.free)=false:=by simpa using hf
    rw[if_neg (by rw[hb];simp),yaJ,hx]at h';cases h'
    rcases hk with z | z
    ·subst z;exact .inr yav
    ·exact absurd z hf
  | false=>
   refine (ih ?_ hk).imp (yau _) (yau _);by_cases hcd:(k == NameKind.free && env.scope.kind == .function && env.kindOf n == some .cell)=true
   ·rw[if_pos hcd,yaJ,hx]at h';exact h'
   ·rw[if_neg hcd,yaJ,hx]at h';exact h'
structure zjS (X:Cx)(scope:Scope)(z:Str)(N:List Str)(own:Nat)(cap:List Nat):Prop where
 kind:scope.kind=.function
 one:scope.names.filter (fun y=>y.2 == .cell)=[(z,.cell)]
 look:scope.names.lookup z=some .cell
 locs:(scope.names.all fun y=>y.2 != .local || scope.names.lookup y.1 == some .local)=true
 frees:(scope.names.all fun y=>y.2 != .free || (X.env.kindOf y.1 == some .cell || X.env.kindOf y.1 == some .free))=true
 len:N.length=own+cap.length
 caps:((List.range cap.length).all fun j=>(N[own+j]? == X.N[cap[j]!]?) && (match N[own+j]? with | some x=>scope.names.lookup x == some .free && (X.env.kindOf x == some .cell || X.env.kindOf x == some .free) | none=>false))=true
section
variable {X:Cx}
theorem znh {z:Str}{pins:List (Addr×Obj)}{σ:St}{H:Hp}{s:Shared}{N:List Str}{own:Nat}{cap:List Nat}{scope:Scope}{cl:List (Str×Addr)}{C:Addr}{fp:List Addr}{h₁:Heap}{tk:Nat}{D:Addr}
  (I:Inv X pins σ H s) (c:zjS X scope z N own cap) (hcl:ze7 scope X.env cl) (f:∀ b∈fp,FpOk X pins H b) (hD:s.heap.objs.size≤D) (hC:s.heap.objs.size≤C) (hCD:D≠C)
  (kp:∀ b o,s.heap.get? b=some o→h₁.get? b=some o) (hnew:h₁.get? D=some { cls:=.type "list",data:=.seq #[] }) (hns:∃ m,h₁.Ns C m) (hcz:h₁.IsCell (C+1) none) (hDz:D≠C+1) (hfp:∀ b∈fp,b < s.heap.objs.size) (hcalm:X.calm=true) :
  Inv (zbG X N scope z cl C s H fp) pins (zcA own cap σ) (upd H D (.lst [])) { s with heap:=h₁,toks:=tk }:=by
 have hfr:H D=none:=I.hok.fresh hD;have hfrC:H C=none:=I.hok.fresh hC;have sz:∀ b o,s.heap.get? b=some o→b≠D∧b≠C:=fun b o e=>⟨yaq (yas (yaf e) hD),yaq (yas (yaf e) hC)⟩;have cells:∀ x cc,cl.lookup x=some cc→∃ v,s.heap.IsCell cc v:=fun x cc e=>I.cell x cc (hcl.sub x cc e);have cellne:∀ x cc,cl.lookup x=some cc→cc≠D∧cc≠C:=fun x cc e=>by
  obtain ⟨v,o,ho,_⟩:=cells x cc e;exact sz cc o ho
 have czlt:∀ x cc,cl.lookup x=some cc→cc≠C+1:=fun x cc e q=>by
  obtain ⟨v,o,ho,_⟩:=cells x cc e;exact absurd (show C+1 < s.heap.objs.size from (by rw[← q];exact yaf ho)) (ybp.mpr (yat hC (yaX _)))
 have lk:∀ x cc,((z,C+1)::cl).lookup x=some cc→(x=z∧cc=C+1)∨(x≠z∧cl.lookup x=some cc):=fun x cc e=>by
  rw[yaJ]at e;cases hx:x == z with
  | true=>
   rw[hx]at e;exact .inl ⟨eq_of_beq hx,(yae e).symm⟩
  | false=>
   rw[hx]at e;exact .inr ⟨fun q=>(by rw[q,beq_self_eq_true]at hx;cases hx),e⟩
 have hfrZ:H (C+1)=none:=I.hok.fresh (yat hC (yaX _));have ok:(zbG X N scope z cl C s H fp).Ok:=by
  refine ⟨I.ok.mod,c.kind,I.ok.glob,I.ok.blt,hC,fun x y cc e1 e2=>?_,fun x hx=>?_,fun x cc e1 e2=>?_,I.ok.hd,I.ok.frames,.inl rfl,fun b hb=>?_,fun b o e=>I.bs b o e,?_,fun b o e hb=>?_,fun b hb z=>?_,I.stack,fun b hb=>I.stkFree b hb⟩
  ·rcases lk x cc e1 with ⟨q1,q2⟩ | ⟨q1,q2⟩ <;> rcases lk y cc e2 with ⟨r1,r2⟩ | ⟨r1,r2⟩
   ·rw[q1,r1]
   ·exact absurd q2 (czlt y cc r2)
   ·exact absurd r2 (czlt x cc q2)
   ·exact I.ok.inj x y cc (hcl.sub x cc q2) (hcl.sub y cc r2)
  ·show ∃ c,((z,C+1)::cl).lookup x=some c;cases hxz:x == z with
   | true=>exact ⟨C+1,by rw[yaJ,hxz]⟩
   | false=>
    have hm:(x,NameKind.free)∈scope.names:=by
     have hor:(x,NameKind.free)∈scope.names∨(x,NameKind.cell)∈scope.names:=by
      rcases hx with y | y
      ·exact zfd (env:=X.env) (names:=scope.names) (x:=x) (k':=.cell) y (.inl rfl)
      ·exact zfd (env:=X.env) (names:=scope.names) (x:=x) (k':=.free) y (.inr rfl)
     rcases hor with q | q
     ·exact q
     ·have hf:(x,NameKind.cell)∈scope.names.filter (fun y=>y.2 == .cell):=yaV.mpr ⟨q,rfl⟩;rw[c.one]at hf;have e:=congrArg Prod.fst (yap.mp hf);have e:x=z:=e;rw[e,beq_self_eq_true]at hxz;cases hxz
    obtain ⟨cc,hcc⟩:=hcl.has x hm;exact ⟨cc,by rw[yaJ,hxz];exact hcc⟩
  ·have e1:(x == z)=true:=e1;rcases lk x cc e2 with ⟨_,q2⟩ | ⟨q1,_⟩
   ·rw[q2];exact yat hC (yaX _)
   ·exact absurd (eq_of_beq e1) q1
  ·exact ⟨yaq (yas (hfp b hb) hC),fun x cc e q=>by
    rcases lk x cc e with ⟨_,q2⟩ | ⟨_,q2⟩
    ·exact absurd (show C+1 < s.heap.objs.size from (by rw[← q2,q];exact hfp b hb)) (ybp.mpr (yat hC (yaX _)))
    ·exact (f b hb).2.2.2.2.1 x cc (hcl.sub x cc q2) q⟩
  ·exact yat I.ok.bsz I.sz
  ·obtain ⟨_,_,_,h4,_⟩:=f b hb;rcases h4 with z | z
   ·exact I.ok.noex b o e z
   ·exact absurd (yas (yaf e) (yat I.ok.bsz z)) (yaM _)
  ·obtain ⟨_,h2,h3,_⟩:=f b hb;rcases yaj.mp (I.stkSub b z) with q | q
   ·exact h2 q
   ·exact h3 q
 have hokN:zbK X.prog X.w (upd H D (.lst [])) h₁ D (.lst []):=⟨yaC _,[],0,.nil,hnew⟩;refine ⟨ok,I.os.symm ▸ rfl,I.bare,Un.laid kp hD hfr,?_,fun x cc e=>?_,?_,fun x cc e=>?_,fun p hp=>?_,I.hok.laid kp hD hokN,?_⟩
 ·obtain ⟨m,hm⟩:=hns;refine ⟨m,hm,fun i x v e1 e2 e3=>?_⟩;have hi:own≤i:=by
   false_or_by_contra
   rename_i z;unfold zcA at e2;rw[ybk (by rw[ya1];omega),ycf]at e2;split at e2 <;> cases e2
  obtain ⟨j,rfl⟩:∃ j,i=own+j:=⟨i - own,by omega⟩;have hj:j < cap.length:=by
   have:=(yah.mp e1).1;have z:=c.len;have this':own+j < N.length:=this;omega
  have hc:=yaQ.mp c.caps j (yaW.mpr hj);have e1':N[own+j]?=some x:=e1;rw[e1']at hc;simp only[ybm,beq_iff_eq,yb4]at hc;obtain ⟨hN,hf,hk⟩:=hc;have e2':σ[cap[j]!]?=some (some v):=by
   unfold zcA at e2;rw[ya0 (by rw[ya1];omega),ya1,show own+j - own=j by omega,yal]at e2;have g:cap[j]! = cap[j]:=by simp[hj]
   rw[yac hj,ybd]at e2;rw[g];have e2:=yae e2;cases q:σ[cap[j]]? with
   | none=>rw[q]at e2;cases e2
   | some z=>rw[q]at e2;exact congrArg some e2
  obtain ⟨m0,_,hl⟩:=I.loc;obtain ⟨u,ru,lk⟩:=hl (cap[j]!) x v hN.symm e2' (by
   rcases hk with z | z
   ·exact .inr (.inl z)
   ·exact .inr (.inr z))
  refine ⟨u,ru,.inr ⟨zbV (env:=X.env) hf,?_⟩⟩;rcases lk with ⟨z,_⟩ | ⟨_,cc,ec,ic⟩
  ·rcases hk with q | q
   ·rw[q]at z;cases z
   ·rw[q]at z;cases z
  ·obtain ⟨c',hc'⟩:=hcl.has x (by
    have:(x,NameKind.free)∈scope.names:=by
     have hlk:=hf;obtain ⟨l1,l2,hs,hno⟩:=List.lookup_eq_some_iff.mp hlk;rw[hs];exact yaO _ yav
    exact this)
   have:=hcl.sub x c' hc';rw[ec]at this;cases this
   obtain ⟨o,ho,hd⟩:=ic;refine ⟨cc,?_,o,kp cc o ho,hd⟩;show ((z,C+1)::cl).lookup x=some cc;cases hxz:x == z with
   | true=>
    rw[eq_of_beq hxz,c.look]at hf;cases hf
   | false=>rw[yaJ,hxz];exact hc'
 ·rcases lk x cc e with ⟨_,q2⟩ | ⟨_,q2⟩
  ·rw[q2];exact ⟨_,hcz⟩
  ·obtain ⟨v,o,ho,hd⟩:=cells x cc q2;exact ⟨v,o,kp cc o ho,hd⟩
 ·show upd H D (.lst []) C=none;rw[zaf (Ne.symm hCD)];exact hfrC
 ·show upd H D (.lst []) cc=none;rcases lk x cc e with ⟨_,q2⟩ | ⟨_,q2⟩
  ·rw[q2,zaf (Ne.symm hDz)];exact hfrZ
  ·rw[zaf (cellne x cc q2).1];exact I.freeC x cc (hcl.sub x cc q2)
 ·obtain ⟨e,n,ne,nf,d⟩:=I.pin p hp;refine ⟨kp _ _ e,?_,(sz _ _ e).2,fun z=>?_,d⟩
  ·show upd H D (.lst []) p.1=none;rw[zaf (sz _ _ e).1];exact n
  ·rcases yaj.mp (I.stkSub p.1 z) with q | q
   ·exact ne q
   ·exact nf q
 ·show (zcA own cap σ).length=N.length;unfold zcA;rw[yak,ya1,yaa,c.len]
theorem zlB {z:Str}{pins:List (Addr×Obj)}{σ:St}{H2:Hp}{s2:Shared}{N:List Str}{own:Nat}{cap:List Nat}{scope:Scope}{cl:List (Str×Addr)}{fp:List Addr}{tg elt iter:Expr}{ifs:List Expr}{pos:Pos}{J:It}{it:Addr}{tn:Nat→Heap→Prop}{g:TG}{ts:TT}{te:TE}{Q:VK}
  {E:Value→Shared→Prop} {RR:Value→Addr→Result→Shared→Prop}
  (hcalm:X.calm=true) (c:zjS X scope z N own cap) (hcl:ze7 scope X.env cl)
  (hg:∀ cl C s₂ H₂ fp,PG (zbG X N scope z cl C s₂ H₂ fp) tg g) (hts:∀ cl C s₂ H₂ fp,PTs (zbG X N scope z cl C s₂ H₂ fp) ifs ts) (he:∀ cl C s₂ H₂ fp,PE (zbG X N scope z cl C s₂ H₂ fp) elt te)
  (I2:Inv X pins σ H2 s2) (T:Turn X.prog X.w X.K tg J fp it tn) (st2:tn 0 s2.heap) (f2:∀ b∈fp,FpOk X pins H2 b)
  (rd:∀ D,H2 D=none→∃ W:Nat→Nat→St→Hp→Prop,(∃ m,W 0 m (zcA own cap σ) (upd H2 D (.lst [])))∧∀ i m σ H,W i m σ H→
   (J.stop i H∧Q (.ref D) H)∨(J.go i H∧∀ x H',J.yld i H x H'→g x σ H' fun σ2 H2=>ts σ2 H2 fun b H3=>if b=true then te σ2 H3 fun y H4=>∃ xs,H4 D=some (.lst xs)∧xs.length < sizeLine∧∃ m',m' < m∧W (i+1) m' σ2 (upd H4 D (.lst (xs++[y]))) else ∃ m',m' < m∧W (i+1) m' σ2 H3))
  (hRR:∀ D C s' H',Inv X pins σ H' s'→(∃ m,s'.heap.Ns C m)→FpOk X pins H' C→Q (.ref D) H'→RR (.ref D) C (.ok .next) s') :
  wpAny (model X.prog X.w) X.A (newList []) (fun acc s₃=>wpAny (model X.prog X.w) X.A (newFunctionEnv scope X.env.globals cl [] X.env.qual none .none (some X.env)) (fun cenv s₄=>
   codeAny (model X.prog X.w) X.A (.compStart (.ListComp elt [⟨tg,iter,ifs,0⟩] scope pos) 0 (.ref it) acc { cenv with scope:=relabel scope X.env }) (RR acc cenv.locals) s₄) E s₃) E s2:=by
 have hfp:∀ b∈fp,b < s2.heap.objs.size:=fun b hb=>by
  obtain ⟨o,e,_⟩:=T.obj 0 _ st2 b hb;exact yaf e
 refine wpAny_newObj_type (zqG c.one ?_);dsimp only;generalize hHH:s2.heap.push { cls:=.type "list",dict:=none,data:=.seq ([]:List Value).toArray }=HH;generalize hh₁:(HH.push { cls:=.type "dict",data:=.dict #[] }).push { cls:=.type "cell",data:=.cell none }=h₁;have hC:HH.objs.size=s2.heap.objs.size+1:=by rw[← hHH,ybj]
 have hDC:s2.heap.objs.size≠HH.objs.size:=by rw[hC];exact yaq (ybw _)
 have hCle:s2.heap.objs.size≤HH.objs.size:=by rw[hC];exact yaX _
 have kp₁:∀ b o,HH.get? b=some o→h₁.get? b=some o:=fun b o e=>hh₁ ▸ yam _ (yam _ e);have old:∀ b o,s2.heap.get? b=some o→h₁.get? b=some o:=fun b o e=>kp₁ b o (hHH ▸ yam _ e);have hnew:h₁.get? s2.heap.objs.size=some { cls:=.type "list",data:=.seq #[] }:=kp₁ _ _ (hHH ▸ yaD _ rfl);have hns₁:h₁.Ns HH.objs.size fun _=>none:=hh₁ ▸ (Heap.Ns.new HH (.type "dict")).push _;have hcz:h₁.IsCell (HH.objs.size+1) none:=by
  refine ⟨{ cls:=.type "cell",data:=.cell none },?_,rfl⟩;rw[← hh₁];have e:(HH.push { cls:=.type "dict",data:=.dict #[] }).objs.size=HH.objs.size+1:=ybj ..;rw[← e];exact yaD _ rfl
 have I3:∀ tk,Inv (zbG X N scope z cl HH.objs.size s2 H2 fp) pins (zcA own cap σ) (upd H2 s2.heap.objs.size (.lst [])) { s2 with heap:=h₁,toks:=tk }:=fun tk=>
  znh I2 c hcl f2 (yab _) hCle hDC old hnew ⟨_,hns₁⟩ hcz (by rw[hC];exact yaq (Nat.lt_succ_of_lt (ybw _))) hfp hcalm
 obtain ⟨W,⟨m0,w0⟩,turn⟩:=rd s2.heap.objs.size (I2.hok.fresh (yab _));have st3:tn 0 h₁:=T.keep _ _ _ st2 fun b _ o e=>old b o e;have fr3:∀ b∈fp,upd H2 s2.heap.objs.size (.lst []) b=none:=fun b hb=>by rw[zaf (yaq (hfp b hb))];exact (f2 b hb).1
 have stat:∀{H':Hp},(∀ b∈fp,H' b=none)→∀ b∈fp,FpOk (zbG X N scope z cl HH.objs.size s2 H2 fp) pins H' b:=fun hn b hb=>by
  obtain ⟨_,h2,h3,_,h5,h6⟩:=f2 b hb;refine ⟨hn b hb,yaq (yas (hfp b hb) hCle),fun z=>?_,.inl hb,fun x cc e=>?_,h6⟩
  ·rcases yaj.mp (I2.stkSub b z) with q | q
   ·exact h2 q
   ·exact h3 q
  ·have e:((_,HH.objs.size+1)::cl).lookup x=some cc:=e;rw[yaJ]at e;split at e
   ·exact fun q=>absurd (show HH.objs.size+1 < s2.heap.objs.size from (by rw[yae e,q];exact hfp b hb)) (ybp.mpr (yat hCle (yaX _)))
   ·exact h5 x cc (hcl.sub x cc e)
 have loop:∀ s₃:Shared,s₃={ s2 with heap:=h₁ }→
   codeAny (model X.prog X.w) X.A (.compLoop (.ListComp elt [⟨tg,iter,ifs,0⟩] scope pos) 0 (.ref it) (.ref s2.heap.objs.size) (compEnvC scope ((z,HH.objs.size+1)::cl) HH.objs.size X.env)) (RR (.ref s2.heap.objs.size) HH.objs.size) s₃:=by
  rintro s₃ rfl;refine zgC (fun n s'=>∃ i σ' H',Inv (zbG X N scope z cl HH.objs.size s2 H2 fp) pins σ' H' s'∧tn i s'.heap∧(∀ b∈fp,H' b=none)∧W i n σ' H') ?_ m0 ⟨0,_,_,I3 _,st3,fr3,w0⟩;rintro n s3 ⟨i,σ3,H3,J3,t3,fr,w3⟩;rcases turn i n σ3 H3 w3 with ⟨stop,qn⟩ | ⟨go,step⟩
  ·refine thn (T.done (zbG X N scope z cl HH.objs.size s2 H2 fp) rfl rfl rfl hcalm i pins s3 σ3 H3 (fun _ _=>False) J3 (stat fr) t3 stop) fun r s4 zq0=>?_;obtain ⟨hr,I4⟩:=zq0;subst hr;obtain ⟨mm,hmm,_⟩:=I4.loc;refine hRR _ _ s4 H3 (I2.call' I4.os I4.base I4.hok I4.bare fun b hb=>?_) ⟨mm,hmm⟩ (I2.fpOk hCle I4.free) qn;obtain ⟨_,h2,_,h4,h5,h6⟩:=f2 b hb;exact ⟨h4,h2,h5,h6⟩
  ·refine thn (T.item (zbG X N scope z cl HH.objs.size s2 H2 fp) rfl rfl rfl hcalm i pins s3 σ3 H3 (fun _ _=>False) J3 (stat fr) t3 go) fun r s4 zq0=>?_;obtain ⟨u,hr,h4⟩:=zq0;subst hr;refine thn h4 fun _ s5 zq0=>?_;obtain ⟨x,H5,I5,r5,y5,st5,fr5⟩:=zq0;have I5':=I5.pinned (stat fr5) (T.obj _ _ st5);have back:∀{σ7:St} {H7:Hp} {s7:Shared} {m':Nat},Inv (zbG X N scope z cl HH.objs.size s2 H2 fp) (pins++zg6 fp s5.heap) σ7 H7 s7→W (i+1) m' σ7 H7→∃ i σ' H',Inv (zbG X N scope z cl HH.objs.size s2 H2 fp) pins σ' H' s7∧tn i s7.heap∧(∀ b∈fp,H' b=none)∧W i m' σ' H':=fun {σ7 H7 s7 m'} I7 w7=>by
    refine ⟨i+1,σ7,H7,I7.unpinned,T.keep _ _ _ st5 fun b hb o e=>(I7.pin (b,o) (yaO _ (yaO _ (zcx hb e)))).1,fun b hb=>?_,w7⟩;obtain ⟨o,e,d⟩:=T.obj _ _ st5 b hb;exact (I7.pin (b,o) (yaO _ (yaO _ (zcx hb e)))).2.1
   refine thn (hg cl HH.objs.size s2 H2 fp _ s5 σ3 H5 x u _ I5' r5 (step x H5 y5)) fun _ s6 zq0=>?_;obtain ⟨σ6,H6,I6,q6⟩:=zq0;refine thn (hts cl HH.objs.size s2 H2 fp _ s6 σ6 H6 _ I6 q6) fun b s7 zq0=>?_;obtain ⟨H7,I7,q7⟩:=zq0;cases b with
   | false=>
    rw[if_neg yay]at q7 ⊢;obtain ⟨m',hm,w7⟩:=q7;exact ⟨m',hm,back I7 w7⟩
   | true=>
    rw[if_pos rfl]at q7 ⊢;refine thn (he cl HH.objs.size s2 H2 fp _ s7 σ6 H7 _ I7 q7) fun v s8 zq0=>?_;obtain ⟨y,H8,I8,r8,q8⟩:=zq0;obtain ⟨xs,hx,hz,m',hm,w8⟩:=q8;refine thn (zaN (X:=zbG X N scope z cl HH.objs.size s2 H2 fp) _ s8 σ6 H8 (.ref s2.heap.objs.size) [y] (.ref s2.heap.objs.size) [v] (fun _ H9=>H9=upd H8 s2.heap.objs.size (.lst (xs++[y]))) I8 rfl (.cons r8 .nil) ⟨_,xs,y,rfl,rfl,hx,hz,rfl⟩) fun _ s9 zq0=>?_;obtain ⟨_,H9,I9,_,e9⟩:=zq0;subst e9;exact ⟨m',hm,back I9 w8⟩
 refine codeAny_compStart_list (loop _ rfl) ?_;exact T.self _ 0 _ _ _ st3 (loop _ rfl)
theorem zoj (z:Str){N:List Str}{own:Nat}{cap:List Nat}{scope:Scope}{tg elt iter:Expr}{ifs:List Expr}{pos:Pos}{wi:TI}{g:TG}{ts:TT}{te:TE}(hcalm:X.calm=true)(hi:PI X tg iter wi)(c:zjS X scope z N own cap)
  (hg:∀ cl C s₂ H₂ fp,PG (zbG X N scope z cl C s₂ H₂ fp) tg g) (hts:∀ cl C s₂ H₂ fp,PTs (zbG X N scope z cl C s₂ H₂ fp) ifs ts) (he:∀ cl C s₂ H₂ fp,PE (zbG X N scope z cl C s₂ H₂ fp) elt te)
  (hs:∀ x,foldedSetIterable iter X.env x=pure x:=by intro _;rfl):PE X (.ListComp elt [⟨tg,iter,ifs,0⟩] scope pos) (zn2 own cap wi g ts te):=by
 intro pins s σ H Q I h;obtain ⟨cl,hcl⟩:=zdH (scope:=scope) (env:=X.env) fun x hx=>I.ok.has x (by
  have:=yaQ.mp c.frees _ hx;simpa using this)
 rw[eval_ListComp];refine wpAny_comprehension_free (use:=none) rfl hs hcl.eq c.kind (fun x hx hl=>by
  have:=yaQ.mp c.locs x hx;rw[hl]at this;simpa using this) (thn (hi pins s σ H _ I h) fun v s1 h1=>thn h1 fun itv s2 h2=>?_)
 obtain ⟨it,fp,tn,J,H2,e,I2,T,st2,f2,rd⟩:=h2;subst e;refine zlB (RR:=fun acc C=>compPost (model X.prog X.w) X.A X.xe none (EP X pins σ Q) acc C) hcalm c hcl hg hts he I2 T st2 f2 rd ?_;intro D C s' H' I' hm fC q;obtain ⟨m,hm⟩:=hm;obtain ⟨f0,f1,f2,f3,f4,f5⟩:=fC;exact ⟨m,hm,fun h' hsb=>⟨.ref D,H',I'.turned (t':=s'.toks) (fun b o hb e=>(hsb.2 b hb).trans e) f0 f1 f3 f4 f5,rfl,q⟩⟩
end
end L2
namespace L2
open PySem PySem.Spec PyProof.Rows
section
variable {X:Cx}
def zrh (K:Frag):R2:=fun x y H Q=>∃(a b:Addr) (xs:List V),x=.ref a∧y=.ref b∧SqL K H a xs∧SqL K H b []∧Q (.bl (!xs.isEmpty)) H
theorem zoo (hu:X.A.units+1 < cLine):OpR X (compareOp .NotEq) (zrh X.K):=by
 intro pins s σ H x y u v Q I r1 r2 h;obtain ⟨a,b,xs,rfl,rfl,q1,q2,q⟩:=h;cases r1
 cases r2
 obtain ⟨us,ru,pu,_⟩:=I.list q1;obtain ⟨vs,rv,pv,_⟩:=I.list q2;have l1:=ru.length;have l2:=rv.length;cases xs with
 | nil=>
  have hv:vs=[]:=ybC l2.symm;have hw:us=[]:=ybC l1.symm;subst hv hw;have:=PySem.SeqAt.RcNeAt.lists (A:=X.A) (s:=s) (e:=fun _=>true) pu.isList pv.isList rfl (by omega) (fun j h=>absurd h (ybD _));exact this X.prog X.w X.xe _ ⟨.bl _,H,I,rfl,q⟩
 | cons x xs=>
  have:=PySem.SeqAt.RcNeAt.lists_lengths (A:=X.A) (s:=s) pu.isList pv.isList (by simp at l1 l2 ⊢;omega) (by omega);exact this X.prog X.w X.xe _ ⟨.bl _,H,I,rfl,q⟩
end
end L2
namespace L2
open PySem PySem.Spec PyProof.Rows
structure zh4 (scope:Scope)(ps caps:List Str):Prop where
 kind:scope.kind=.function
 co:scope.isCoroutine=false
 gen:scope.isGenerator=false
 nocell:∀ x∈scope.names,x.2≠.cell
 par:∀ x∈ps,scope.names.lookup x=some .local
 cap:∀ x∈caps,scope.names.lookup x=some .free
 nd:(ps++caps).Nodup
def zgT (P:Program)(w:World)(K:Frag)(mg:Str→Option Value)(base:Heap)(N:List Str)(qual:Str)(scope:Scope)(f:Addr)(cd:Value)(cl:List (Str×Addr))(A:Around)(outer:List Env)(s:Shared)(H:Hp):Cx where
 prog:=P
 w:=w
 K:=K
 mg:=mg
 base:=base
 A:=A.deeper (PySem.W.envX qual scope s.heap.objs.size f cd cl)
 N:=N
 s₀:=s
 H₀:=H
 env:=PySem.W.envX qual scope s.heap.objs.size f cd cl
 outer:=outer
 stack:=PySem.W.envX qual scope s.heap.objs.size f cd cl::outer
 ex:=[]
 calm:=true
 fn:=fun _=>false
 pn:=[]
 xe:=fun _ _=>False
def zlF (c:Addr)(q:Str):Heap→Prop:=fun h=>h.CodeRec (.ref c) q
def zei (H:Hp)(c:Addr)(q:Str):Prop:=H c=some (.ext (zlF c q))
theorem zlE {c:Addr}{q:Str}(h1 h2:Heap)(x:zlF c q h1)(k:∀ o,h1.get? c=some o→h2.get? c=some o):zlF c q h2:=by
 obtain ⟨c',o,vs,t,e,ho,r⟩:=x;cases e
 exact ⟨c,o,vs,t,rfl,k o ho,r⟩
theorem zei.rec {P:Program}{w:World}{H:Hp}{h:Heap}{c:Addr}{q:Str}(x:zei H c q)(ok:HOk P w H h):h.CodeRec (.ref c) q:=(ok c _ x).1
theorem zg4 {x:Str}{u:Value}:∀{ps:List Str} {us:List Value} {i:Nat},ps.Nodup→ps[i]?=some x→us[i]?=some u→(ps.zip us).reverse.lookup x=some u
 | [],_,_,_,e,_=>by simp at e
 | _::_,[],_,_,_,e=>by simp at e
 | p::ps,v::us,0,hn,e1,e2=>by
  have e1:p=x:=by simpa using e1
  have e2:v=u:=by simpa using e2
  subst e1 e2;rw[ych,yb6,List.lookup_append];have z:(ps.zip us).reverse.lookup p=none:=by
   rw[List.lookup_eq_none_iff];intro y hy;have:=ybR (ybU.mp hy);simp only[beq_eq_false_iff_ne,ne_eq,bne_iff_ne];intro q;rw[yaK]at hn
   first
    | exact hn.1 (q ▸ this.1)
    | (rw[q]at hn;exact hn.1 this.1)
  rw[z];simp
 | p::ps,v::us,i+1,hn,e1,e2=>by
  rw[yaK]at hn;have ih:=zg4 (ps:=ps) (us:=us) (i:=i) hn.2 (by simpa using e1) (by simpa using e2);rw[ych,yb6,List.lookup_append,ih];rfl
def zje (n:Nat)(tb:TE)(vcs:List V)(c:Addr)(q:Str):Sp:=fun vs H Q _=>vs.length=n∧zei H c q∧tb (vs.map some++vcs.map some) H Q
theorem zpy {P:Program}{w:World}{K:Frag}{mg:Str→Option Value}{base:Heap}{k:Nat}{f c:Addr}{name qual:Str}{params:Arguments}{body:Expr}{scope:Scope}{cl:List (Str×Addr)}{pm ctv:Value}{ps caps:List Str}{vcs:List V}{tb:TE}
  (S:zh4 scope ps caps) (hf:base.get? f=some (PySem.W.kla_obj name qual params body scope cl pm c ctv)) (hlen:vcs.length=caps.length)
  (hcap:∀(j:Nat) (x:Str) (v:V),caps[j]?=some x→vcs[j]?=some v→∃ a u,cl.lookup x=some a∧base.IsCell a (some u)∧RelV v u)
  (hcell:∀ x a,cl.lookup x=some a→∃ v,base.IsCell a v) (hinj:∀ x y a,cl.lookup x=some a→cl.lookup y=some a→x=y) (hhas:∀ x,scope.names.lookup x=some .free→∃ a,cl.lookup x=some a)
  (hb:∀(A:Around) (outer:List Env) (s:Shared) (H:Hp),Room k (A.deeper (PySem.W.envX qual scope s.heap.objs.size f (.ref c) cl))→PE (zgT P w K mg base (ps++caps) qual scope f (.ref c) cl A outer s H) body tb) :
  FnOk P w K mg base CX0 (k+1) f (PySem.W.kla_fn name qual params body scope cl pm (.ref c) ctv) ps (zje ps.length tb vcs c qual):=by
 refine ⟨fun vs H Q E h=>h.1,fun A outer s H args us vs Q E hr e0 hbind r hsp=>?_⟩;obtain ⟨hl,hc,hq⟩:=hsp;have bk:∀ b o,base.get? b=some o→s.heap.get? b=some o:=fun b o e=>(e0.bs b o e).1;have hul:us.length=ps.length:=by rw[← r.length];exact hl
 refine PySem.W.kla_callFunE hr.depth (bk _ _ hf) rfl S.co S.gen rfl (hc.rec e0.hok) ?_;refine hbind _ _ _ _ ?_;refine wpAny_newFunctionEnv S.nocell (fun y hy=>S.par _ (ybR hy).1) (fun h1 hns hsb=>⟨(e0.mod.nolimit.keeps bk).fresh _ hsb,?_⟩) S.kind;show codeAny _ _ (.expr body (PySem.W.envX qual scope s.heap.objs.size f (.ref c) cl)) _ _;have hk:∀ b o,s.heap.get? b=some o→h1.get? b=some o:=fun b o e=>hsb.extBut b o (yaq (yaf e)) (yam _ e);have cellK:∀ a v,base.IsCell a v→h1.IsCell a v∧H a=none:=fun a v ⟨o,ho,hd⟩=>⟨⟨o,hk _ _ (bk _ _ ho),hd⟩,(e0.bs _ _ ho).2⟩;have ndps:ps.Nodup:=(ybq.mp S.nd).1;have noA:∀ b:Addr,b∉([]:List Addr):=fun b z=>absurd z (by simp);have I:Inv (zgT P w K mg base (ps++caps) qual scope f (.ref c) cl A outer s H) [] (vs.map some++vcs.map some) H { s with heap:=h1,toks:=s.toks+(ps.zip us).length }:=by
  refine ⟨⟨e0.mod,S.kind,rfl,rfl,yab _,hinj,fun y hy=>?_,fun y a z _=>(by cases z),fun _=>hr.hd,Around.frames_deeper e0.frames,.inr ⟨rfl,rfl⟩,fun b z=>absurd z (noA b),e0.bs,e0.bsz,fun b _ _=>noA b,fun b z=>absurd z (noA b),e0.funs,e0.frf⟩,
   rfl,e0.bare,Un.kept hk,⟨_,hns,fun i y v h1' h2 h3=>?_⟩,fun y a h=>?_,e0.hok.fresh (yab _),fun y a h=>?_,fun p hp=>absurd (show p∈([]:List (Addr×Obj)) from hp) (by simp),e0.hok.kept hk,?_⟩
  ·have hy:scope.names.lookup y=some .cell∨scope.names.lookup y=some .free:=hy;rcases hy with hy | hy
   ·exact absurd rfl (S.nocell _ (PySem.mem_of_lookup hy))
   ·exact hhas y hy
  ·have h1':(ps++caps)[i]?=some y:=h1';by_cases hi:i < ps.length
   ·rw[ybk hi]at h1';rw[ybk (by rw[yaa];omega),yal]at h2;cases e:vs[i]? with
    | none=>rw[e]at h2;cases h2
    | some v'=>
     rw[e]at h2;cases h2
     obtain ⟨u,hu,ru⟩:=r.get e;exact ⟨u,ru,.inl ⟨S.par y (yaP h1'),zg4 ndps h1' hu⟩⟩
   ·rw[ya0 (by omega)]at h1';rw[ya0 (by rw[yaa];omega),yaa,yal]at h2;cases e:vcs[i - vs.length]? with
    | none=>rw[e]at h2;cases h2
    | some v'=>
     rw[e]at h2;cases h2
     rw[hl]at e;obtain ⟨a,u,e1,e2,ru⟩:=hcap _ _ _ h1' e;exact ⟨u,ru,.inr ⟨.inr (S.cap y (yaP h1')),a,e1,(cellK _ _ e2).1⟩⟩
  ·obtain ⟨v,z⟩:=hcell y a h;exact ⟨v,(cellK _ _ z).1⟩
  ·obtain ⟨v,z⟩:=hcell y a h;exact (cellK _ _ z).2
  ·show (vs.map some++vcs.map some).length=(ps++caps).length;rw[yak,yak,yaa,yaa,hl,hlen]
 refine PySem.W.kla_codeExpr (wpAny_mono (hb A outer s H (hr.deeper _) [] _ _ H Q I hq) (fun u s' hu=>?_) fun _ _ z=>(show False from z).elim);obtain ⟨v,H',J,rv,q⟩:=hu;exact ⟨v,H',J.os,J.bare,J.base,J.hok,rv,q⟩
end L2
namespace L2
open PySem PySem.Spec PyProof.Rows
def Gro (Pt:Addr)(H H':Hp):Prop:=∀ b o,b≠Pt→H b=some o→H' b=some o
theorem Gro.refl (Pt:Addr)(H:Hp):Gro Pt H H:=fun _ _ _ h=>h
structure zaC (H:Hp)(Pt:Addr)(pos:Pos)(q:Str):Prop where
 ex:∃ tab:Array Value,H Pt=some (.tbl tab)∧TriplesOk tab.toList∧(codeAmong pos tab.toList=none∨∃ c,codeAmong pos tab.toList=some (.ref c)∧zei H c q)
theorem zaC.ext {H H':Hp}{Pt:Addr}{pos:Pos}{q:Str}(x:zaC H Pt pos q)(e:Ext H H'):zaC H' Pt pos q:=by
 obtain ⟨tab,h1,h2,h3⟩:=x.ex;refine ⟨tab,e _ _ h1 (fun _ z=>nomatch z),h2,?_⟩;rcases h3 with h3 | ⟨c,h3,h4⟩
 ·exact .inl h3
 ·exact .inr ⟨c,h3,e _ _ h4 (fun _ z=>nomatch z)⟩
theorem zaC.gro {H H':Hp}{Pt P2:Addr}{pos:Pos}{q:Str}(x:zaC H Pt pos q)(e:Gro P2 H H')(hne:Pt≠P2)(h2:∃ tab,H P2=some (.tbl tab)):zaC H' Pt pos q:=by
 obtain ⟨tab,h1,h3,h4⟩:=x.ex;refine ⟨tab,e _ _ hne h1,h3,?_⟩;rcases h4 with h4 | ⟨c,h4,h5⟩
 ·exact .inl h4
 ·refine .inr ⟨c,h4,e _ _ (fun z=>?_) h5⟩;obtain ⟨tab2,y⟩:=h2;rw[← z,show H c=_ from h5]at y;cases y
def BMAt (mg:Str→Option Value)(base:Heap):Prop:=∃ bm o,mg "__builtins__" = some (.ref bm)∧bm≠builtinsNs∧bm≠mainGlobals∧base.get? bm=some o∧o.cls=.type "module"∧o.dict=some builtinsNs∧o.data=.plain
section
variable {X:Cx}{pins:List (Addr×Obj)}{σ:St}{H:Hp}{s:Shared}{params:Arguments}{body:Expr}{scope:Scope}{lpos:Pos}{c Pt:Addr}{Q:Value→Shared→Prop}
theorem zkN {c':Addr}{q:Str}{tab more:Array Value}{h':Heap}{tk:Nat}(I:Inv X pins σ H s)(hP:H Pt=some (.tbl tab))(hx:∀ b o,b≠Pt→s.heap.get? b=some o→h'.get? b=some o)(hge:s.heap.objs.size≤c')
  (hrec:h'.CodeRec (.ref c') q) (htb:h'.get? Pt=some (PySem.W.tabObj (tab++more))):Inv X pins σ (upd (upd H Pt (.tbl (tab++more))) c' (.ext (zlF c' q))) { s with heap:=h',toks:=tk }:=by
 have hfr:H c'=none:=I.hok.fresh hge;have nPc:Pt≠c':=zab hP hfr;have low:∀ b u,H b=some u→b≠c':=fun b u e=>zab e hfr;have lows:∀ b o,s.heap.get? b=some o→b≠c':=fun b o e=>yaq (yas (yaf e) hge);have nP:∀ b,H b=none→b≠Pt:=fun b n z=>by rw[z,hP]at n;cases n
 refine I.un (t':=tk) ⟨fun b o e n _ _=>hx b o (nP b n) e,fun b o e n _ _=>⟨o.slots,hx b o (nP b n) e⟩,fun b o e n _=>?_,fun b o e _=>?_,fun b xs e=>?_,fun b o u e=>?_,fun b ps e=>?_⟩ fun a o e=>?_
 ·rw[zaf (lows b o e),zaf (nP b n)];exact n
 ·by_cases z:b=Pt
  ·exact ⟨_,by rw[z];exact htb⟩
  ·exact ⟨o,hx b o z e⟩
 ·rw[zaf (low b _ e),zaf (fun z=>by rw[z,hP]at e;cases e)]
  exact e
 ·rw[zaf (low b _ e),zaf (fun z=>by rw[z,hP]at e;cases e)]
  exact e
 ·by_cases z:b=Pt
  ·rw[z,hP]at e;cases e
   exact ⟨more,by rw[z,zaf nPc,zac]⟩
  ·exact ⟨#[],by rw[zaf (low b _ e),zaf z,e];simp⟩
 ·by_cases z:a=c'
  ·subst z;rw[zac]at e;cases e
   obtain ⟨c2,o2,vs,t,e2,ho2,r2⟩:=id hrec;cases e2
   exact ⟨hrec,⟨o2,ho2⟩,fun h1 h2 x k=>zlE h1 h2 x k⟩
  ·rw[zaf z]at e;by_cases y:a=Pt
   ·subst y;rw[zac]at e;cases e
    exact htb
   ·rw[zaf y]at e;refine (I.hok a o e).stay (fun b u hb q=>hx b u ?_ q) (fun b q=>?_) fun b xs q=>?_
    ·rcases hb with rfl | hb
     ·exact y
     ·intro z2;rw[z2,hP]at hb;cases hb
    ·rw[zaf (low b _ q),zaf (fun z2=>by rw[z2,hP]at q;cases q)]
     exact q
    ·rw[zaf (low b _ q),zaf (fun z2=>by rw[z2,hP]at q;cases q)]
     exact q
theorem zkC (I:Inv X pins σ H s)(hdef:defaultsOf params X.env=([],[]))(hfr:∀ x,(x,NameKind.free)∈scope.names→(X.env.kindOf x=some .cell∨X.env.kindOf x=some .free))(hcode:X.env.code=.ref c)(hC:codeHdIn X.K c Pt=true)(hBM:BMAt X.mg X.base)
  (hT:zaC H Pt lpos (X.env.qual ++ "<lambda>"))
  (h:∀(f c':Addr) (cl:List (Str×Addr)) (pm ctv:Value) (H':Hp) (s':Shared),ze7 scope X.env cl→Inv X pins σ H' s'→s'.heap.get? f=some (PySem.W.kla_obj "<lambda>" (X.env.qual ++ "<lambda>") params body scope cl pm c' ctv)→H' f=none→s.heap.objs.size≤f→
   Gro Pt H H'→zaC H' Pt lpos (X.env.qual ++ "<lambda>")→zei H' c' (X.env.qual ++ "<lambda>")→Q (.ref f) s') :
  wpAny (model X.prog X.w) X.A (eval (.Lambda params body scope lpos) X.env) Q X.xe s:=by
 obtain ⟨cl,hcl⟩:=zdH (scope:=scope) (env:=X.env) fun x hx=>I.ok.has x (hfr x hx);obtain ⟨tab,hP,ht,hor⟩:=hT.ex;have hPo:s.heap.get? Pt=some (PySem.W.tabObj tab):=I.hok Pt _ hP;have C:PySem.W.CodeHd s.heap c Pt:=(PySem.W.codeHd_of_K I.ok.mod.kin hC).keeps I.bk;have hgl:=I.mod.glob.keeps I.bk;have hgP:mainGlobals≠Pt:=fun z=>by
  obtain ⟨o,es,ep,e,_⟩:=I.mod.glob;have:=(I.bs _ _ e).2;rw[z,hP]at this;cases this
 have hb:s.heap.BuiltinsAt X.mg Pt:=by
  obtain ⟨bm,o,b1,b2,b3,b4,b5⟩:=hBM;refine ⟨bm,o,b1,b2,b3,fun z=>?_,I.bk _ _ b4,b5⟩;have:=(I.bs _ _ b4).2;rw[z,hP]at this;cases this
 refine PySem.W.kla_eval hdef ?_;rcases hor with hnone | ⟨c',hsome,hca⟩
 ·refine PySem.W.kla_makeFunction (clos:=cl) hcl.eq I.ok.glob hgl hcode C hPo ht hnone hgP hb fun c' ctv h' tk hx hge hlt hrec htb=>?_;have hx':∀ o2 b o,b≠Pt→s.heap.get? b=some o→(h'.push o2).get? b=some o:=fun o2 b o n e=>yam _ (hx b o n e);have I':=zkN (c':=c') (q:=X.env.qual ++ "<lambda>") (tk:=tk) I hP (hx' _) hge (hrec.push (PySem.W.kla_obj "<lambda>" (X.env.qual ++ "<lambda>") params body scope cl ((X.mg "__name__").getD .none) c' ctv)) (yam _ htb);have hsz:s.heap.objs.size≤h'.objs.size:=ya5 (ya2 hge hlt);have nPc:Pt≠c':=zab hP (I.hok.fresh hge);have eT:(tab++#[rawInt lpos.line,rawInt lpos.col,.ref c']).toList=tab.toList++[rawInt lpos.line,rawInt lpos.col,.ref c']:=by simp
  have hTI:zaC (upd (upd H Pt (.tbl (tab++#[rawInt lpos.line,rawInt lpos.col,.ref c']))) c' (.ext (zlF c' (X.env.qual ++ "<lambda>")))) Pt lpos (X.env.qual ++ "<lambda>"):=
   ⟨_,by rw[zaf nPc,zac],by rw[eT];exact TriplesOk_snoc _ _ _ _ ht,.inr ⟨c',by rw[eT];exact codeAmong_snoc _ ht hnone,zac⟩⟩
  refine h h'.objs.size c' cl _ ctv _ _ hcl I' (yaD _ rfl) ?_ hsz ?_ hTI zac
  ·rw[zaf (ybh hlt),zaf (fun z=>?_)]
   ·exact I.hok.fresh hsz
   ·have:=yaf hPo;rw[← z]at this;exact absurd this (ybp.mpr hsz)
  ·intro b o n e;rw[zaf (zab e (I.hok.fresh hge)),zaf n];exact e
 ·refine PySem.W.kla_makeFunctionHit (clos:=cl) hcl.eq I.ok.glob hgl hcode C hPo ht hsome hb fun ctv h' tk hk hsz=>?_;exact h h'.objs.size c' cl _ ctv H _ hcl (I.kept (t':=tk) fun b o e=>yam _ (hk b o e)) (yaD _ rfl) (I.hok.fresh hsz) hsz (Gro.refl _ _) hT hca
end
end L2
namespace L2
open PySem PySem.Spec PyProof.Rows
def zcb (X:Cx)(s:Shared)(H:Hp):Heap:=PySem.W.hideAll s.heap (trk s.heap H++frs X.stack)
theorem zeq {h b1 b2:Heap}:∀{l:List Env},h.FunFrames b1 l→(∀ b∈frs l,b2.get? b=none)→h.FunFrames b2 l
 | [],_,_=>trivial
 | env::l,⟨h1,⟨L,o,h2,h3,h4,h5⟩,h6⟩,k=>by
  have m:∀ b∈frs l,b∈frs (env::l):=fun b hb=>by
   unfold frs;rw[ybO,h2];exact yau _ hb
  refine ⟨h1,⟨L,o,h2,k L ?_,h4,h5⟩,zeq h6 fun b hb=>k b (m b hb)⟩;unfold frs;rw[ybO,h2];exact yav
section
variable {X:Cx}{pins:List (Addr×Obj)}{σ:St}{H:Hp}{s:Shared}
theorem zc5 {b:Addr}{o:Obj}(e:s.heap.get? b=some o)(n:H b=none)(hf:b∉frs X.stack):(zcb X s H).get? b=some o:=
 PySem.W.hideAll_get _ e fun hm=>by
  rcases yaH.mp hm with z | z
  ·have q:(H b).isSome=true:=(yaV.mp z).2;rw[n]at q;cases q
  ·exact hf z
theorem ziz {b:Addr}{o:Obj}(e:(zcb X s H).get? b=some o):s.heap.get? b=some o∧H b=none∧b∉frs X.stack:=by
 have e1:=PySem.W.of_hideAll _ e;have hm:b∉trk s.heap H++frs X.stack:=fun z=>by
  unfold zcb at e;rw[PySem.W.hideAll_none _ z]at e;cases e
 rw[yaH,not_or]at hm;refine ⟨e1,?_,hm.2⟩;cases q:H b with
 | none=>rfl
 | some u=>exact absurd (yaV.mpr ⟨yaW.mpr (yaf e1),by rw[q];rfl⟩) hm.1
theorem zhk (I:Inv X pins σ H s):∀ b o,X.base.get? b=some o→(zcb X s H).get? b=some o:=fun b o e=>by
 obtain ⟨h1,h2⟩:=I.bs b o e;refine zc5 h1 h2 fun z=>?_;have:=(I.stack.mem z).1;rw[e]at this;cases this
theorem zgL (I:Inv X pins σ H s):Env0 X.prog X.w X.K X.mg (zcb X s H) X.A X.stack s H:=by
 have sub:=zhk I;refine ⟨I.ok.frames,⟨I.mod.kin.keeps sub,I.mod.glob.keeps sub,?_,I.mod.nolimit.keeps sub⟩,fun b o e=>⟨(ziz e).1,(ziz e).2.1⟩,ybQ (PySem.W.hideAll_size _ _),zeq I.stack fun b hb=>PySem.W.hideAll_none _ (yaO _ hb),I.stkFree,I.hok,I.bare⟩;obtain ⟨mb,h1,h2⟩:=I.mod.blt;exact ⟨mb,h1.keeps sub,h2⟩
end
structure FV (P:Program)(w:World)(K:Frag)(mg:Str→Option Value)(base:Heap)(k:Nat)(f:Addr)(ps:List Str)(sp:Sp):Prop where
 ex:∃ fd,FnOk P w K mg base CX0 k f fd ps sp∧zd9 K fd ps []∧PySem.W.FnAt f base
section
variable {X:Cx}
def zq6 (X:Cx)(kr:Nat)(tf:TE)(t:TA):TE:=fun σ H Q=>tf σ H fun x H1=>∃ f k ps sp,x=.ref f∧FV X.prog X.w X.K X.mg X.base k f ps sp∧k≤kr∧t σ H1 fun vs H2=>sp vs H2 Q E0
theorem zhG {kr:Nat}{x:Str}{e:Expr}{es:List Expr}{tf:TE}{t:TA}{p pos:Pos}(hr:Room kr X.A)(hf:PE X (.Name x p) tf)(ha:PA X (e::es) t)
  (he:starEach (e::es) X.env=(false,eval e X.env)::starEach es X.env:=by rfl) (hpl:(backTo pos (starEach es X.env)).any (·.1)=false:=by rfl):PE X (.Call (.Name x p) (e::es) [] pos) (zq6 X kr tf t):=by
 intro pins s σ H Q I h;refine wpAny_Call_Name_kw (thn (hf pins s σ H _ I h) fun u s1 zq0=>?_);obtain ⟨x1,H1,I1,r1,q1⟩:=zq0;obtain ⟨f,k,ps,sp,rfl,hF,hk,q⟩:=q1;cases r1
 obtain ⟨fd,ok,bd,oc,od,fd2,sl,ho⟩:=hF.ex;refine PySem.W.callWith_F ⟨oc,od,fd2,sl,I1.bk _ _ ho⟩ (thn (ha pos pins s1 σ H1 _ I1 q) fun us s2 zq0=>?_) he hpl;obtain ⟨vs,H2,I2,r,q2⟩:=zq0;refine ⟨⟨oc,od,fd2,sl,I2.bk _ _ ho⟩,?_⟩;exact zmh ok (hr.mono hk) bd .nil zol I2 r (by rw[yaN];exact q2)
structure zh5 (X:Cx)(params:Arguments)(body:Expr)(scope:Scope)(ps caps:List Str)(cap:List Nat):Prop where
 sc:zh4 scope ps caps
 frees:∀ x,(x,NameKind.free)∈scope.names→(X.env.kindOf x=some .cell∨X.env.kindOf x=some .free)
 capAt:∀(j:Nat) (x:Str),caps[j]?=some x→∃ i:Nat,cap[j]?=some i∧X.N[i]?=some x∧(X.env.kindOf x=some .cell∨X.env.kindOf x=some .free)
 dflt:defaultsOf params X.env=([],[])
 binds:∀(cl:List (Str×Addr)) (pm cdv ct:Value) (us:List Value),us.length=ps.length→bindArgs (PySem.W.kla_fn "<lambda>" (X.env.qual ++ "<lambda>") params body scope cl pm cdv ct) ⟨us,[]⟩=pure (ps.zip us)
 own:∀ x,X.fn x=true
theorem zsm {pins:List (Addr×Obj)}{σ:St}{H:Hp}{s:Shared}{params:Arguments}{body:Expr}{scope:Scope}{ps caps:List Str}{cap:List Nat}{f c':Addr}{cl:List (Str×Addr)}{pm ctv:Value}{vcs:List V}{tb:TE}{k n:Nat}(I:Inv X pins σ H s)(L:zh5 X params body scope ps caps cap)(hcl:ze7 scope X.env cl)
  (ho:s.heap.get? f=some (PySem.W.kla_obj "<lambda>" (X.env.qual ++ "<lambda>") params body scope cl pm c' ctv)) (hn:H f=none) (hfr:∀ b∈frs X.stack,b < n) (hge:n≤f)
  (hv:vcs.length=caps.length) (hvs:∀(j i:Nat) (v:V),cap[j]?=some i→vcs[j]?=some v→σ[i]?=some (some v))
  (hb:∀(base:Heap) (f:Addr) (cd:Value) (cl:List (Str×Addr)) (A:Around) (outer:List Env) (s:Shared) (H:Hp),Room k (A.deeper (PySem.W.envX (X.env.qual ++ "<lambda>") scope s.heap.objs.size f cd cl))→PE (zgT X.prog X.w X.K X.mg base (ps++caps) (X.env.qual ++ "<lambda>") scope f cd cl A outer s H) body tb) :
  FV X.prog X.w X.K X.mg (zcb X s H) (k+1) f ps (zje ps.length tb vcs c' (X.env.qual ++ "<lambda>")):=by
 have nf:f∉frs X.stack:=fun z=>absurd (yas (hfr f z) hge) (yaM _);have hbf:=zc5 (X:=X) ho hn nf;have cellB:∀ x a v,X.env.cells.lookup x=some a→s.heap.IsCell a v→(zcb X s H).IsCell a v:=fun x a v e ⟨o,h1,h2⟩=>by
  refine ⟨o,zc5 h1 (I.freeC x a e) fun z=>?_,h2⟩;rcases yaj.mp (I.stkSub a z) with y | y
  ·exact I.cne x a e y
  ·obtain ⟨_,o2,h3,_⟩:=I.ok.funs.mem y;exact absurd (yas (yaf h3) (I.ok.cab x a (L.own x) e)) (yaM _)
 refine ⟨_,zpy L.sc hbf hv (fun j x v h1 h2=>?_) (fun x a e=>?_) (fun x y a h1 h2=>I.ok.inj x y a (hcl.sub x a h1) (hcl.sub y a h2)) (fun x e=>?_) (fun A outer s H hr=>hb _ f _ cl A outer s H hr),.all (L.binds cl pm (.ref c') ctv),⟨_,_,_,_,hbf⟩⟩
 ·obtain ⟨i,e1,e2,e3⟩:=L.capAt j x h1;obtain ⟨m,hm,hl⟩:=I.loc;obtain ⟨u,ru,lk⟩:=hl i x v e2 (hvs j i v e1 h2) (by
   rcases e3 with z | z
   ·exact .inr (.inl z)
   ·exact .inr (.inr z))
  rcases lk with ⟨z,_⟩ | ⟨_,a,e4,e5⟩
  ·rcases e3 with y | y
   ·rw[y]at z;cases z
   ·rw[y]at z;cases z
  ·obtain ⟨a',e6⟩:=hcl.has x (PySem.mem_of_lookup (L.sc.cap x (yaP h1)));have e7:=hcl.sub x a' e6;rw[e4]at e7;cases e7
   exact ⟨a,u,e6,cellB x a _ e4 e5,ru⟩
 ·obtain ⟨v,z⟩:=I.cell x a (hcl.sub x a e);exact ⟨v,cellB x a v (hcl.sub x a e) z⟩
 ·exact hcl.has x (PySem.mem_of_lookup e)
def zn3 (X:Cx)(n kf:Nat)(ps:List Str)(cap:List Nat)(Pt:Addr)(lpos:Pos)(tb te:TE)(spH:Heap→Sp):TE:=fun σ H Q=>te σ H fun x1 H1=>zaC H1 Pt lpos (X.env.qual ++ "<lambda>")∧∃ vcs:List V,vcs.length=n∧(∀(j i:Nat) (v:V),cap[j]?=some i→vcs[j]?=some v→σ[i]?=some (some v))∧
 ∀(base:Heap) (f c':Addr) (H2:Hp),Gro Pt H1 H2→zaC H2 Pt lpos (X.env.qual ++ "<lambda>")→zei H2 c' (X.env.qual ++ "<lambda>")→FV X.prog X.w X.K X.mg base kf f ps (zje ps.length tb vcs c' (X.env.qual ++ "<lambda>"))→spH base [x1,.ref f] H2 Q E0
theorem zk5 {x q1 q2:Str}{e1:Expr}{params:Arguments}{body:Expr}{scope:Scope}{lpos p pos:Pos}{te tb:TE}{spH:Heap→Sp}{j k kf:Nat}{c Pt:Addr}{ps caps:List Str}{cap:List Nat}
  (F:∀ base,FC X.prog X.w X.K X.mg base j x [q1,q2] (spH base)) (hr:Room k X.A) (h1:PE X e1 te) (L:zh5 X params body scope ps caps cap) (hcode:X.env.code=.ref c) (hC:codeHdIn X.K c Pt=true) (hBM:BMAt X.mg X.base)
  (hb:∀(base:Heap) (f:Addr) (cd:Value) (cl:List (Str×Addr)) (A:Around) (outer:List Env) (s:Shared) (H:Hp),Room kf (A.deeper (PySem.W.envX (X.env.qual ++ "<lambda>") scope s.heap.objs.size f cd cl))→PE (zgT X.prog X.w X.K X.mg base (ps++caps) (X.env.qual ++ "<lambda>") scope f cd cl A outer s H) body tb)
  (hjk:j≤k:=by decide) (hg:Gl X x:=by rfl) (hdb:(x == ("__debug__" : Str))=false:=by decide) (he:starEach [e1,.Lambda params body scope lpos] X.env=(false,eval e1 X.env)::starEach [.Lambda params body scope lpos] X.env:=by rfl)
  (he2:starEach [.Lambda params body scope lpos] X.env=[(false,eval (.Lambda params body scope lpos) X.env)]:=by rfl) (hpl:(backTo pos (starEach [.Lambda params body scope lpos] X.env)).any (·.1)=false:=by rfl) :
  PE X (.Call (.Name x p) [e1,.Lambda params body scope lpos] [] pos) (zn3 X caps.length (kf+1) ps cap Pt lpos tb te spH):=by
 intro pins s σ H Q I h;obtain ⟨g,fd,_,_,kp,m,oc,od,osl,lk⟩:=(F X.base).ex;refine wpAny_Call_Name_kw (zep I hg m ?_ hdb);refine PySem.W.callWith_K (h₀:=X.base) I.ok.mod.kin kp ?_ he hpl;rw[he];show wpAny _ _ (spliced ((false,eval e1 X.env)::backTo pos (starEach [.Lambda params body scope lpos] X.env))) _ _ s;refine Calls.spliced_cons (thn (h1 pins s σ H _ I h) fun u s1 zq0=>?_);obtain ⟨x1,H1,I1,r1,q1⟩:=zq0;obtain ⟨hT,vcs,hv,hvs,q⟩:=q1;rw[he2];show wpAny _ _ (spliced ((false,eval (.Lambda params body scope lpos) X.env)::[])) _ _ s1;refine Calls.spliced_cons (zkC I1 L.dflt L.frees hcode hC hBM hT fun f c' cl pm ctv H2 s2 hcl I2 ho hn hge hgr hT2 hca=>?_);refine Calls.spliced_nil ⟨I2.kIn,?_⟩;have hF:=zsm (k:=kf) (n:=s1.heap.objs.size) I2 L hcl ho hn (fun b hb=>by
  obtain ⟨_,o,e,_⟩:=I1.stack.mem hb;exact yaf e) hge hv hvs hb
 have hsp:=q (zcb X s2 H2) f c' H2 hgr hT2 hca hF;obtain ⟨g2,fd2,ok,bd,_,m2,_⟩:=(F (zcb X s2 H2)).ex;rw[m]at m2;cases m2
 have r2:Vals [x1,.ref f] [u,.ref f]:=.cons r1 (.cons rfl .nil);refine wpAny_call (codeAny_mono (ok.run X.A X.stack s2 H2 ⟨[u,.ref f],[]⟩ [u,.ref f] [x1,.ref f] Q E0 (hr.mono hjk) (zgL I2) (bd s2 [u,.ref f] I2.kIn rfl) r2 hsp) fun r s' hq=>?_);cases r with
 | error e=>exact False.elim hq
 | ok fl=>
  cases fl with
  | ret u=>exact I2.after hq
  | next=>exact False.elim hq
  | brk=>exact False.elim hq
  | cont=>exact False.elim hq
end
end L2
namespace L2
open PySem PySem.Spec PyProof.Rows
theorem zmX {P:Program}{w:World}{K:Frag}{mg mb:Str→Option Value}{CX:CXT}{k:Nat}{fa a:Addr}{fd:FuncData}{x:Str}{sp:Sp}{s₁:Shared}{vs:List Value}{ns:List Int}{tabs:List (Addr×Addr)}
  (KX:K.In s₁.heap) (hns:s₁.heap.Ns mainGlobals mg) (hb:s₁.heap.Ns builtinsNs mb) (hbb:∀ x:Str,x ≠ "__name__"→mb x=bootBuiltins x) (hlim:s₁.heap.NoLimit) (hg:s₁.gens=#[]) (hBM:BMAt mg s₁.heap)
  (hT:PySem.W.TabsAt tabs s₁.heap) (hKT:∀ q∈tabs,K.lookup q.2=none)
  (ha:s₁.heap.get? a=some { cls:=.type "list",data:=.seq vs.toArray }) (hi:IntsAre vs ns) (hl:ns.length≤sizeLine) (hr:Room k callerA)
  (F:∀ base:Heap,K.In base→base.Ns mainGlobals mg→BMAt mg base→FnOk P w K mg base CX k fa fd [x] sp) (hbind:∀(s:Shared) (u:Value),BindsTo s fd ⟨[u],[]⟩ [(x,u)])
  (hsp:∀ H:Hp,(∀ q∈tabs,H q.2=some (.tbl #[]))→SqL K H a (ns.map V.int)→sp [.ref a] H (fun v _=>v=.bl true) fun _ _ _=>False)
  (hCX:∀ H e s',CX [] H s₁ (fun _ _ _=>False) e s'→False) :
  codeAny (model P w) callerA (.call (.ref fa) ⟨[.ref a],[]⟩) (fun r s'=>r=.ok (.ret (.bool true))∧OldK s₁.heap s'.heap∧s'.os=s₁.os∧AllBare s'.gens) s₁:=by
 have rv:=zh8 hi;have lenV:=hi.length;have tabO:∀ b,b∈tabs.map (·.2)→s₁.heap.get? b=some (PySem.W.tabObj #[])∧isCodeTable s₁.heap b∧K.lookup b=none:=fun b hm=>by
  obtain ⟨q,hq,rfl⟩:=yaF.mp hm;exact ⟨(hT q hq).2,((hT q hq).1.tab (hT q hq).2).isCodeTable,hKT q hq⟩
 have nat:a∉tabs.map (·.2):=fun z=>by
  have:=(tabO a z).1;rw[ha]at this;cases this
 have core:∀ Hs:Hp,(∀ b,Hs b=none∨(b=a∧Hs b=some (.frz { cls:=.type "list",data:=.seq vs.toArray } (.lst (ns.map V.int)))))→(∀ H:Hp,(∀ b,b∉tabs.map (·.2)→H b=Hs b)→SqL K H a (ns.map V.int))→(Hs a≠none→K.lookup a=none)→
   codeAny (model P w) callerA (.call (.ref fa) ⟨[.ref a],[]⟩) (fun r s'=>r=.ok (.ret (.bool true))∧OldK s₁.heap s'.heap∧s'.os=s₁.os∧AllBare s'.gens) s₁:=by
  intro Hs hO hS hK;obtain ⟨H,hH⟩:∃ H:Hp,H=fun b=>if b∈tabs.map (·.2) then some (.tbl #[]) else Hs b:=⟨_,rfl⟩
  have H1:∀ b,b∈tabs.map (·.2)→H b=some (.tbl #[]):=fun b z=>by rw[hH];exact if_pos z
  have H2:∀ b,b∉tabs.map (·.2)→H b=Hs b:=fun b z=>by rw[hH];exact if_neg z
  have cases3:∀ b,H b=none∨(b=a∧H b=some (.frz { cls:=.type "list",data:=.seq vs.toArray } (.lst (ns.map V.int))))∨(b∈tabs.map (·.2)∧H b=some (.tbl #[])):=fun b=>by
   by_cases z:b∈tabs.map (·.2)
   ·exact .inr (.inr ⟨z,H1 b z⟩)
   ·rcases hO b with y | ⟨y1,y2⟩
    ·exact .inl ((H2 b z).trans y)
    ·exact .inr (.inl ⟨y1,(H2 b z).trans y2⟩)
  have hok:HOk P w H s₁.heap:=fun b u e=>by
   rcases cases3 b with y | ⟨y1,y2⟩ | ⟨y1,y2⟩
   ·rw[y]at e;cases e
   ·rw[y2]at e;cases e
    subst y1;exact ⟨ha,by rw[yaa];exact hl,vs,_,rv,ha⟩
   ·rw[y2]at e;cases e
    exact (tabO b y1).1
  have base_of:∀{b:Addr} {o:Obj},s₁.heap.get? b=some o→H b=none→(hidT s₁.heap H).get? b=some o:=fun e n=>zoU e n;have noD:∀{b:Addr} {o:Obj},s₁.heap.get? b=some o→(∀ xs n,o.data≠.seq xs n)→(∀ xs,o.data≠.fields xs)→H b=none:=fun {b o} e d1 d2=>by
   rcases cases3 b with y | ⟨y1,y2⟩ | ⟨y1,y2⟩
   ·exact y
   ·subst y1;rw[ha]at e;cases e
    exact absurd rfl (d1 _ _)
   ·rw[(tabO b y1).1]at e;cases e
    exact absurd rfl (d2 _)
  have nsK:∀{b:Addr} {m:Str→Option Value},s₁.heap.Ns b m→(hidT s₁.heap H).Ns b m:=fun {b m} ⟨o,es,ep,e,d,r⟩=>⟨o,es,ep,base_of e (noD e (fun _ _ z=>by rw[d]at z;cases z) (fun _ z=>by rw[d]at z;cases z)),d,r⟩
  have hKb:K.In (hidT s₁.heap H):=fun b o e=>base_of (KX b o e) (by
   rcases cases3 b with y | ⟨y1,y2⟩ | ⟨y1,y2⟩
   ·exact y
   ·subst y1;rw[hK (by rw[← H2 b nat,y2];exact fun z=>nomatch z)]at e;cases e
   ·rw[(tabO b y1).2.2]at e;cases e)
  have hM:Mod K mg (hidT s₁.heap H):=⟨hKb,nsK hns,⟨mb,nsK hb,hbb⟩,let ⟨mc,h1,h2⟩:=hlim;⟨mc,nsK h1,h2⟩⟩;have hBMb:BMAt mg (hidT s₁.heap H):=by
   obtain ⟨bm,o,b1,b2,b3,b4,b5,b6,b7⟩:=hBM;exact ⟨bm,o,b1,b2,b3,base_of b4 (noD b4 (fun _ _ z=>by rw[b7]at z;cases z) (fun _ z=>by rw[b7]at z;cases z)),b5,b6,b7⟩
  have e0:Env0 P w K mg (hidT s₁.heap H) callerA [] s₁ H:=⟨rfl,hM,fun b o e=>zqi e,ybQ (znk _ _),trivial,fun b hb=>absurd (show b∈([]:List Addr) from hb) (by simp),hok,.of_eq hg⟩;refine codeAny_mono ((F _ hKb (nsK hns) hBMb).run callerA [] s₁ H ⟨[.ref a],[]⟩ [.ref a] [.ref a] _ _ hr e0 (hbind s₁ (.ref a)) (.cons rfl .nil) (hsp H (fun q hq=>H1 _ (List.mem_map_of_mem hq)) (hS H H2))) fun r s' h=>?_;cases r with
  | error e=>exact (hCX H e s' h).elim
  | ok fl=>
   cases fl with
   | next=>exact False.elim h
   | brk=>exact False.elim h
   | cont=>exact False.elim h
   | ret u=>
    obtain ⟨v,H',os,bare,un,hok',r',q⟩:=h;have q':v=.bl true:=q;subst q';obtain rfl:u=Value.bool true:=r';have keep:∀ b o,H b=none→s₁.heap.get? b=some o→s'.heap.get? b=some o:=fun b o n e=>un.keep b o e n (by intro z;exact absurd (show b∈([]:List Addr) from z) (by simp)) (by simp);have frz:∀ b o,b=a→H b=some (.frz { cls:=.type "list",data:=.seq vs.toArray } (.lst (ns.map V.int)))→s₁.heap.get? b=some o→s'.heap.get? b=some o:=fun b o y1 y2 e=>by
     obtain ⟨e1,_⟩:=hok b _ y2;obtain ⟨e2,_⟩:=hok' b _ (un.frzs b _ _ y2);rw[e]at e1;cases e1
     exact e2
    have tbl:∀ b,H b=some (.tbl #[])→∃ ps,s'.heap.get? b=some (PySem.W.tabObj ps):=fun b y=>by
     obtain ⟨more,e⟩:=un.tbls b _ y;exact ⟨_,hok' b _ e⟩
    refine ⟨rfl,⟨fun b o e=>?_,fun b o e=>?_⟩,os,bare⟩
    ·rcases cases3 b with y | ⟨y1,y2⟩ | ⟨y1,y2⟩
     ·exact .inl (keep b o y e)
     ·exact .inl (frz b o y1 y2 e)
     ·obtain ⟨ps,hp⟩:=tbl b y2;obtain ⟨t1,t2,_⟩:=tabO b y1;rw[e]at t1;cases t1
      exact .inr (.inl ⟨t2,rfl,#[],ps,rfl,by rw[Array.empty_append];exact hp⟩)
    ·rcases cases3 b with y | ⟨y1,y2⟩ | ⟨y1,y2⟩
     ·exact ⟨o,keep b o y e⟩
     ·exact ⟨o,frz b o y1 y2 e⟩
     ·obtain ⟨ps,hp⟩:=tbl b y2;exact ⟨_,hp⟩
 cases hk:K.lookup a with
 | some o=>
  have e:=KX a o hk;rw[ha]at e;cases e
  exact core (fun _=>none) (fun _=>.inl rfl) (fun H _=>.inr ⟨_,vs.toArray,_,hk,rfl,rfl,rfl,by rw[yaz,lenV];exact hl,by simpa using rv⟩) fun z=>absurd rfl z
 | none=>
  refine core (fun b=>if b=a then some (.frz { cls:=.type "list",data:=.seq vs.toArray } (.lst (ns.map V.int))) else none) (fun b=>?_) (fun H h=>.inl (.inr ⟨{ cls:=.type "list",data:=.seq vs.toArray },by rw[h a nat];exact if_pos rfl⟩)) fun _=>hk
  by_cases z:b=a
  ·exact .inr ⟨z,if_pos z⟩
  ·exact .inl (if_neg z)
theorem znU {l:OpenLaw}{n k:Nat}{q:Program}{loose:List Str}{XP:(Str→Option Value)→Heap→Prop}{YP:World→Heap→Prop}{d:DefRec}{K:Params→Frag}{sp:World→Sp}{x:Str}{tabs:List (Addr×Addr)}
  (hn:l.most=some n) (hn2:n≤sizeLine) (hdf:d.params.defaults=[]) (hr:Room k callerA)
  (hY:∀(w:World) (h:Heap),YP w h→(K w.params).In h) (hYT:∀(w:World) (h:Heap),YP w h→∀ q∈tabs,h.get? q.2=some (PySem.W.tabObj #[]))
  (hC:∀(w:World),∀ q∈tabs,codeHdIn (K w.params) q.1 q.2=true∧(K w.params).lookup q.2=none)
  (F:∀(w:World) (mg:Str→Option Value) (fa:Addr) (h:Heap),(K w.params).In h→h.Ns mainGlobals mg→mg d.name=some (.ref fa)→
   ∃ fd:FuncData,(∀(s:Shared) (u:Value),BindsTo s fd ⟨[u],[]⟩ [(x,u)])∧
    ∀ base:Heap,(K w.params).In base→base.Ns mainGlobals mg→BMAt mg base→FnOk l.prog w (K w.params) mg base CX0 k fa fd [x] (sp w))
  (hsp:∀(w:World) (H:Hp) (a:Addr) (ns:List Int),ns.length≤n→(∀ q∈tabs,H q.2=some (.tbl #[]))→SqL (K w.params) H a (ns.map V.int)→sp w [.ref a] H (fun v _=>v=.bl true) fun _ _ _=>False) :
  PySem.W.WalkO q loose XP YP l.row.toRowW d [] (fun f vs=>PySem.call f vs):=by
 refine Att.attach_call hn hdf fun w s₀ s₁ mg mb fa o pm cd doc a vs ns G Y ho hd hcd hmg hobj hints hlen hg=>?_;have KX:=hY w _ Y;obtain ⟨fd,hb,hF⟩:=F w mg fa _ KX G.T.g hmg;have hBM:BMAt mg s₁.heap:=by
  obtain ⟨bm,ob,b1,b2,b3,b4,b5,b6⟩:=G.T.bmain;refine ⟨bm,ob,b1,b2,fun z=>?_,b3,b4,b5,b6⟩;obtain ⟨o,es,ep,e,hd,_⟩:=G.T.g;rw[z,e]at b3;cases b3
  rw[hd]at b6;cases b6
 exact zmX (tabs:=tabs) KX G.T.g G.T.b G.T.builtins G.T.nolimit hg hBM (fun q hq=>⟨PySem.W.codeHd_of_K KX (hC w q hq).1,hYT w _ Y q hq⟩) (fun q hq=>(hC w q hq).2) hobj hints (yat hlen hn2) hr hF hb (fun H hO hS=>hsp w H a ns hlen hO hS) fun H e s' z=>z
structure DFT (K:Frag)(mg:Str→Option Value)(x:Str)(st:Stmt)(ps:List Str)(c Pt:Addr):Prop where
 ex:∃(f:Addr) (oc:Value) (od:Option Addr) (kV dc pm:Value) (an:Option Addr) (ct:Value) (osl:Array (Option Value)),K.lookup f=some ⟨oc,od,.func (fnOf x x (zb5 st) (zbm st) (zah st) .none kV dc pm an (.ref c) ct),osl⟩∧
  codeIn K (.ref c) x=true∧keepIn K (.ref f)=true∧mg x=some (.ref f)∧zd9 K (fnOf x x (zb5 st) (zbm st) (zah st) .none kV dc pm an (.ref c) ct) ps []
 hd:codeHdIn K c Pt=true
theorem DFT.ok {P:Program}{w:World}{K:Frag}{mg:Str→Option Value}{base:Heap}{x:Str}{st:Stmt}{N ps:List Str}{k:Nat}{sp:Sp}{c Pt:Addr}(D:DFT K mg x st ps c Pt)(S:zap N ps (zah st))(len:∀ vs H Q E,sp vs H Q E→vs.length=ps.length)
  (hbody:∀(f:Addr) (A:Around) (outer:List Env) (s:Shared) (H:Hp) (vs:List V) (Q:VK) (E:XK),Room k (A.deeper (envOfC x (zah st) s.heap.objs.size f (.ref c)))→sp vs H Q E→
   ∃ t,PSs (cxOf CX0 P w K mg base N x (zah st) f (.ref c) A outer s H E).nox (zbm st) t∧t { nx:=fun _ H'=>Q .non H',rt:=Q } (zcW N vs) H):FC P w K mg base (k+1) x ps sp:=by
 obtain ⟨f,oc,od,kV,dc,pm,an,ct,osl,lk,hcd,kp,m,bd⟩:=D.ex;refine ⟨f,_,zrS lk hcd S len fun A outer s H vs Q E hr hsp=>?_,bd,kp,m,oc,od,osl,lk⟩;obtain ⟨t,h,q⟩:=hbody f A outer s H vs Q E hr hsp;exact ⟨t,h.nox,q⟩
theorem znZ {K:Frag}{x:Str}{c Pt f:Addr}{oc:Value}{od:Option Addr}{fd:FuncData}{sl:Array (Option Value)}(a:nsIn K mainGlobals x=some (some (.ref f)))(l:K.lookup f=some ⟨oc,od,.func fd,sl⟩)(t:tabIn K x=some (c,Pt)):fd.code=.ref c:=by
 unfold tabIn at t;rw[a]at t;dsimp only at t;rw[l]at t;dsimp only at t;split at t
 ·rename_i c2 hc;split at t
  ·split at t
   ·cases t
    exact hc
   ·cases t
  ·cases t
 ·cases t
end L2
namespace L2
open PySem PySem.Spec PyProof.Rows
theorem ziJ {X:Cx}{params:Arguments}{body:Expr}{scope osc:Scope}{N ps caps:List Str}{cap:List Nat}(sc:zh4 scope ps caps)
  (h1:∀ p∈scope.names,p.2=NameKind.free→osc.names.lookup p.1=some NameKind.cell) (h2:∀ p∈caps.zip cap,N[p.2]?=some p.1∧osc.names.lookup p.1=some NameKind.cell) (hl:caps.length=cap.length)
  (ho:X.env.scope=osc) (hN:X.N=N) (d:defaultsOf params X.env=([],[]))
  (b:∀(cl:List (Str×Addr)) (pm cdv ct:Value) (us:List Value),us.length=ps.length→bindArgs (PySem.W.kla_fn "<lambda>" (X.env.qual ++ "<lambda>") params body scope cl pm cdv ct) ⟨us,[]⟩=pure (ps.zip us))
  (o:∀ x,X.fn x=true):zh5 X params body scope ps caps cap:=by
 have hk:∀ x,X.env.kindOf x=osc.names.lookup x:=fun x=>by
  unfold Env.kindOf;rw[ho]
 refine ⟨sc,fun x hx=>.inl ?_,fun j x hj=>?_,d,b,o⟩
 ·rw[hk];exact h1 (x,.free) hx rfl
 ·have hj':=(yah.mp hj).1;have hc:cap[j]?=some (cap[j]'(by omega)):=yac _;have hz:(caps.zip cap)[j]?=some (x,cap[j]'(by omega)):=by
   rw[List.getElem?_zip_eq_some];exact ⟨hj,hc⟩
  obtain ⟨a1,a2⟩:=h2 _ (yaP hz);refine ⟨_,hc,?_,.inl ?_⟩
  ·rw[hN];exact a1
  ·rw[hk];exact a2
end L2
namespace L2
open PySem PySem.Spec PyProof.Rows
structure Sub (K:Frag)(mg:Str→Option Value)(b1 b2:Heap):Prop where
 mod:Mod K mg b1
 get:∀ b o,b1.get? b=some o→b2.get? b=some o
 size:b1.objs.size≤b2.objs.size
section
variable {P:Program}{w:World}{K:Frag}{mg:Str→Option Value}{b1 b2:Heap}{k:Nat}{f:Addr}{ps:List Str}{sp:Sp}
theorem FnOk.lift {CX:CXT}{fd:FuncData}(F:FnOk P w K mg b1 CX k f fd ps sp)(S:Sub K mg b1 b2):FnOk P w K mg b2 CX k f fd ps sp:=
 ⟨F.len,fun A outer s H args us vs Q E hr e0=>F.run A outer s H args us vs Q E hr ⟨e0.frames,S.mod,fun b o e=>e0.bs b o (S.get b o e),yat S.size e0.bsz,zeq e0.funs (fun b hb=>by
  cases q:b1.get? b with
  | none=>rfl
  | some o=>
   have z:=(e0.funs.mem hb).1;rw[S.get b o q]at z;exact nomatch z),e0.frf,e0.hok,e0.bare⟩⟩
theorem FV.lift (F:FV P w K mg b1 k f ps sp)(S:Sub K mg b1 b2):FV P w K mg b2 k f ps sp:=by
 obtain ⟨fd,ok,bd,oc,od,fd2,sl,ho⟩:=F.ex;exact ⟨fd,FnOk.lift ok S,bd,oc,od,fd2,sl,S.get _ _ ho⟩
theorem BMAt.lift (h:BMAt mg b1)(S:Sub K mg b1 b2):BMAt mg b2:=by
 obtain ⟨bm,o,h1,h2,h3,h4,h5⟩:=h;exact ⟨bm,o,h1,h2,h3,S.get _ _ h4,h5⟩
end
def zq5 (P:Program)(w:World)(K:Frag)(mg:Str→Option Value)(base:Heap)(kr:Nat)(tf:TE)(t:TA):TE:=fun σ H Q=>tf σ H fun x H1=>∃ f k ps sp,x=.ref f∧FV P w K mg base k f ps sp∧k≤kr∧t σ H1 fun vs H2=>sp vs H2 Q E0
theorem zok (P:Program)(w:World)(K:Frag)(mg:Str→Option Value)(base:Heap){X:Cx}{kr:Nat}{x:Str}{e:Expr}{es:List Expr}{tf:TE}{t:TA}{p pos:Pos}(hr:Room kr X.A)(hf:PE X (.Name x p) tf)(ha:PA X (e::es) t)
  (h1:X.prog=P:=by rfl) (h2:X.w=w:=by rfl) (h3:X.K=K:=by rfl) (h4:X.mg=mg:=by rfl) (h5:X.base=base:=by rfl)
  (he:starEach (e::es) X.env=(false,eval e X.env)::starEach es X.env:=by rfl) (hpl:(backTo pos (starEach es X.env)).any (·.1)=false:=by rfl):PE X (.Call (.Name x p) (e::es) [] pos) (zq5 P w K mg base kr tf t):=by
 subst h1 h2 h3 h4 h5;exact zhG hr hf ha he hpl
section
variable {X:Cx}{pins:List (Addr×Obj)}{σ:St}{H:Hp}{s:Shared}
theorem zc6 (I:Inv X pins σ H s):Sub X.K X.mg X.base (zcb X s H):=⟨I.ok.mod,zhk I,yat I.env0.bsz (ybQ (PySem.W.hideAll_size _ _).symm)⟩
def znR (X:Cx)(n kf:Nat)(ps:List Str)(cap:List Nat)(Pt:Addr)(lpos:Pos)(tb:Heap→TE)(σ:St)(H1:Hp)(q:Heap→Addr→Hp→Prop):Prop:=zaC H1 Pt lpos (X.env.qual ++ "<lambda>")∧∃ vcs:List V,vcs.length=n∧(∀(j i:Nat) (v:V),cap[j]?=some i→vcs[j]?=some v→σ[i]?=some (some v))∧
 ∀(base:Heap) (f c':Addr) (H2:Hp),Gro Pt H1 H2→zaC H2 Pt lpos (X.env.qual ++ "<lambda>")→zei H2 c' (X.env.qual ++ "<lambda>")→Sub X.K X.mg X.base base→FV X.prog X.w X.K X.mg base kf f ps (zje ps.length (tb base) vcs c' (X.env.qual ++ "<lambda>"))→q base f H2
theorem zpC {params:Arguments}{body:Expr}{scope:Scope}{ps caps:List Str}{cap:List Nat}{f c':Addr}{cl:List (Str×Addr)}{pm ctv:Value}{vcs:List V}{tb:TE}{k n:Nat}(I:Inv X pins σ H s)(L:zh5 X params body scope ps caps cap)(hcl:ze7 scope X.env cl)
  (ho:s.heap.get? f=some (PySem.W.kla_obj "<lambda>" (X.env.qual ++ "<lambda>") params body scope cl pm c' ctv)) (hn:H f=none) (hfr:∀ b∈frs X.stack,b < n) (hge:n≤f)
  (hv:vcs.length=caps.length) (hvs:∀(j i:Nat) (v:V),cap[j]?=some i→vcs[j]?=some v→σ[i]?=some (some v))
  (hb:∀(f:Addr) (cd:Value) (cl:List (Str×Addr)) (A:Around) (outer:List Env) (s1:Shared) (H1:Hp),Room k (A.deeper (PySem.W.envX (X.env.qual ++ "<lambda>") scope s1.heap.objs.size f cd cl))→PE (zgT X.prog X.w X.K X.mg (zcb X s H) (ps++caps) (X.env.qual ++ "<lambda>") scope f cd cl A outer s1 H1) body tb) :
  FV X.prog X.w X.K X.mg (zcb X s H) (k+1) f ps (zje ps.length tb vcs c' (X.env.qual ++ "<lambda>")):=by
 have nf:f∉frs X.stack:=fun z=>absurd (yas (hfr f z) hge) (yaM _);have hbf:=zc5 (X:=X) ho hn nf;have cellB:∀ x a v,X.env.cells.lookup x=some a→s.heap.IsCell a v→(zcb X s H).IsCell a v:=fun x a v e ⟨o,h1,h2⟩=>by
  refine ⟨o,zc5 h1 (I.freeC x a e) fun z=>?_,h2⟩;rcases yaj.mp (I.stkSub a z) with y | y
  ·exact I.cne x a e y
  ·obtain ⟨_,o2,h3,_⟩:=I.ok.funs.mem y;exact absurd (yas (yaf h3) (I.ok.cab x a (L.own x) e)) (yaM _)
 refine ⟨_,zpy L.sc hbf hv (fun j x v h1 h2=>?_) (fun x a e=>?_) (fun x y a h1 h2=>I.ok.inj x y a (hcl.sub x a h1) (hcl.sub y a h2)) (fun x e=>?_) (fun A outer s H hr=>hb f _ cl A outer s H hr),.all (L.binds cl pm (.ref c') ctv),⟨_,_,_,_,hbf⟩⟩
 ·obtain ⟨i,e1,e2,e3⟩:=L.capAt j x h1;obtain ⟨m,hm,hl⟩:=I.loc;obtain ⟨u,ru,lk⟩:=hl i x v e2 (hvs j i v e1 h2) (by
   rcases e3 with z | z
   ·exact .inr (.inl z)
   ·exact .inr (.inr z))
  rcases lk with ⟨z,_⟩ | ⟨_,a,e4,e5⟩
  ·rcases e3 with y | y
   ·rw[y]at z;cases z
   ·rw[y]at z;cases z
  ·obtain ⟨a',e6⟩:=hcl.has x (PySem.mem_of_lookup (L.sc.cap x (yaP h1)));have e7:=hcl.sub x a' e6;rw[e4]at e7;cases e7
   exact ⟨a,u,e6,cellB x a _ e4 e5,ru⟩
 ·obtain ⟨v,z⟩:=I.cell x a (hcl.sub x a e);exact ⟨v,cellB x a v (hcl.sub x a e) z⟩
 ·exact hcl.has x (PySem.mem_of_lookup e)
theorem zkB {params:Arguments}{body:Expr}{scope:Scope}{lpos:Pos}{tb:Heap→TE}{kf:Nat}{c Pt:Addr}{ps caps:List Str}{cap:List Nat}{q:Heap→Addr→Hp→Prop}{Qv:List Value→Shared→Prop}(I:Inv X pins σ H s)
  (L:zh5 X params body scope ps caps cap) (hcode:X.env.code=.ref c) (hC:codeHdIn X.K c Pt=true) (hBM:BMAt X.mg X.base)
  (hb:∀(base:Heap) (f:Addr) (cd:Value) (cl:List (Str×Addr)) (A:Around) (outer:List Env) (s:Shared) (H:Hp),Sub X.K X.mg X.base base→Room kf (A.deeper (PySem.W.envX (X.env.qual ++ "<lambda>") scope s.heap.objs.size f cd cl))→PE (zgT X.prog X.w X.K X.mg base (ps++caps) (X.env.qual ++ "<lambda>") scope f cd cl A outer s H) body (tb base))
  (hg:znR X caps.length (kf+1) ps cap Pt lpos tb σ H q) (h:∀ f H2 s2,Inv X pins σ H2 s2→q (zcb X s2 H2) f H2→Qv [.ref f] s2):wpAny (model X.prog X.w) X.A (spliced [(false,eval (.Lambda params body scope lpos) X.env)]) Qv X.xe s:=by
 obtain ⟨hT,vcs,hv,hvs,q⟩:=hg;refine Calls.spliced_cons (zkC I L.dflt L.frees hcode hC hBM hT fun f c' cl pm ctv H2 s2 hcl I2 ho hn hge hgr hT2 hca=>?_);have S:=zc6 I2;have hF:=zpC (k:=kf) (n:=s.heap.objs.size) (tb:=tb (zcb X s2 H2)) I2 L hcl ho hn (fun b hb=>by
  obtain ⟨_,o,e,_⟩:=I.stack.mem hb;exact yaf e) hge hv hvs (fun f cd cl A outer s H hr=>hb _ f cd cl A outer s H S hr)
 exact Calls.spliced_nil (h f H2 s2 I2 (q _ f c' H2 hgr hT2 hca S hF))
theorem znt {x:Str}{qs:List Str}{sp:Sp}{j k:Nat}{g:Addr}{Q:VK}{us:List Value}{vs:List V}(I:Inv X pins σ H s)(m:X.mg x=some (.ref g))(F:FC X.prog X.w X.K X.mg (zcb X s H) j x qs sp)(hr:Room k X.A)(hjk:j≤k)(r:Vals vs us)(h:sp vs H Q E0) :
  wpAny (model X.prog X.w) X.A (call (.ref g) us) (EP X pins σ Q) X.xe s:=by
 obtain ⟨g2,fd2,ok,bd,_,m2,_⟩:=F.ex;rw[m]at m2;cases m2
 refine wpAny_call (codeAny_mono (ok.run X.A X.stack s H ⟨us,[]⟩ us vs Q E0 (hr.mono hjk) (zgL I) (by simpa using bd s us I.kIn (by rw[yaN,← r.length];exact ok.len _ _ _ _ h)) r h) fun r s' hq=>?_);cases r with
 | error e=>exact False.elim hq
 | ok fl=>
  cases fl with
  | ret u=>exact I.after hq
  | next=>exact False.elim hq
  | brk=>exact False.elim hq
  | cont=>exact False.elim hq
end
section
variable {X:Cx}
def zl0 (X:Cx)(n kf:Nat)(ps:List Str)(cap:List Nat)(Pt:Addr)(lpos:Pos)(tb:Heap→TE)(te:TE)(spH:Heap→Sp):TE:=fun σ H Q=>te σ H fun x1 H1=>znR X n kf ps cap Pt lpos tb σ H1 fun base f H2=>spH base [x1,.ref f] H2 Q E0
theorem zjh {x:Str}{qs:List Str}{e1:Expr}{params:Arguments}{body:Expr}{scope:Scope}{lpos p pos:Pos}{te:TE}{tb:Heap→TE}{spH:Heap→Sp}{j k kf:Nat}{c Pt:Addr}{ps caps:List Str}{cap:List Nat}
  (F:∀ base,Sub X.K X.mg X.base base→FC X.prog X.w X.K X.mg base j x qs (spH base)) (hr:Room k X.A) (h1:PE X e1 te) (L:zh5 X params body scope ps caps cap) (hcode:X.env.code=.ref c) (hC:codeHdIn X.K c Pt=true) (hBM:BMAt X.mg X.base)
  (hb:∀(base:Heap) (f:Addr) (cd:Value) (cl:List (Str×Addr)) (A:Around) (outer:List Env) (s:Shared) (H:Hp),Sub X.K X.mg X.base base→Room kf (A.deeper (PySem.W.envX (X.env.qual ++ "<lambda>") scope s.heap.objs.size f cd cl))→PE (zgT X.prog X.w X.K X.mg base (ps++caps) (X.env.qual ++ "<lambda>") scope f cd cl A outer s H) body (tb base))
  (hjk:j≤k:=by decide) (hg:Gl X x:=by rfl) (hdb:(x == ("__debug__" : Str))=false:=by decide) (he:starEach [e1,.Lambda params body scope lpos] X.env=(false,eval e1 X.env)::starEach [.Lambda params body scope lpos] X.env:=by rfl)
  (he2:starEach [.Lambda params body scope lpos] X.env=[(false,eval (.Lambda params body scope lpos) X.env)]:=by rfl) (hpl:(backTo pos (starEach [.Lambda params body scope lpos] X.env)).any (·.1)=false:=by rfl) :
  PE X (.Call (.Name x p) [e1,.Lambda params body scope lpos] [] pos) (zl0 X caps.length (kf+1) ps cap Pt lpos tb te spH):=by
 intro pins s σ H Q I h;obtain ⟨g,fd,_,_,kp,m,oc,od,osl,lk⟩:=(F X.base ⟨I.ok.mod,fun _ _ e=>e,yab _⟩).ex;refine wpAny_Call_Name_kw (zep I hg m ?_ hdb);refine PySem.W.callWith_K (h₀:=X.base) I.ok.mod.kin kp ?_ he hpl;rw[he];show wpAny _ _ (spliced ((false,eval e1 X.env)::backTo pos (starEach [.Lambda params body scope lpos] X.env))) _ _ s;refine Calls.spliced_cons (thn (h1 pins s σ H _ I h) fun u s1 zq0=>?_);obtain ⟨x1,H1,I1,r1,q1⟩:=zq0;rw[he2];show wpAny _ _ (spliced [(false,eval (.Lambda params body scope lpos) X.env)]) _ _ s1;exact zkB I1 L hcode hC hBM hb q1 fun f H2 s2 I2 hsp=>⟨I2.kIn,znt I2 m (F _ (zc6 I2)) hr hjk (vs:=[x1,.ref f]) (.cons r1 (.cons rfl .nil)) hsp⟩
def zk1 (X:Cx)(n kf:Nat)(ps:List Str)(cap:List Nat)(Pt:Addr)(lpos:Pos)(tb:Heap→TE)(te te2:TE)(spH:Heap→Sp):TE:=fun σ H Q=>te σ H fun x1 H1=>te2 σ H1 fun x2 H2=>znR X n kf ps cap Pt lpos tb σ H2 fun base f H3=>spH base [x1,x2,.ref f] H3 Q E0
theorem zit {x:Str}{qs:List Str}{e1 e2:Expr}{params:Arguments}{body:Expr}{scope:Scope}{lpos p pos:Pos}{te te2:TE}{tb:Heap→TE}{spH:Heap→Sp}{j k kf:Nat}{c Pt:Addr}{ps caps:List Str}{cap:List Nat}
  (F:∀ base,Sub X.K X.mg X.base base→FC X.prog X.w X.K X.mg base j x qs (spH base)) (hr:Room k X.A) (h1:PE X e1 te) (h2:PE X e2 te2) (L:zh5 X params body scope ps caps cap) (hcode:X.env.code=.ref c) (hC:codeHdIn X.K c Pt=true) (hBM:BMAt X.mg X.base)
  (hb:∀(base:Heap) (f:Addr) (cd:Value) (cl:List (Str×Addr)) (A:Around) (outer:List Env) (s:Shared) (H:Hp),Sub X.K X.mg X.base base→Room kf (A.deeper (PySem.W.envX (X.env.qual ++ "<lambda>") scope s.heap.objs.size f cd cl))→PE (zgT X.prog X.w X.K X.mg base (ps++caps) (X.env.qual ++ "<lambda>") scope f cd cl A outer s H) body (tb base))
  (hjk:j≤k:=by decide) (hg:Gl X x:=by rfl) (hdb:(x == ("__debug__" : Str))=false:=by decide) (he:starEach [e1,e2,.Lambda params body scope lpos] X.env=(false,eval e1 X.env)::starEach [e2,.Lambda params body scope lpos] X.env:=by rfl)
  (he2:starEach [e2,.Lambda params body scope lpos] X.env=[(false,eval e2 X.env),(false,eval (.Lambda params body scope lpos) X.env)]:=by rfl) (hpl:(backTo pos (starEach [e2,.Lambda params body scope lpos] X.env)).any (·.1)=false:=by rfl) :
  PE X (.Call (.Name x p) [e1,e2,.Lambda params body scope lpos] [] pos) (zk1 X caps.length (kf+1) ps cap Pt lpos tb te te2 spH):=by
 intro pins s σ H Q I h;obtain ⟨g,fd,_,_,kp,m,oc,od,osl,lk⟩:=(F X.base ⟨I.ok.mod,fun _ _ e=>e,yab _⟩).ex;refine wpAny_Call_Name_kw (zep I hg m ?_ hdb);refine PySem.W.callWith_K (h₀:=X.base) I.ok.mod.kin kp ?_ he hpl;rw[he];show wpAny _ _ (spliced ((false,eval e1 X.env)::backTo pos (starEach [e2,.Lambda params body scope lpos] X.env))) _ _ s;refine Calls.spliced_cons (thn (h1 pins s σ H _ I h) fun u s1 zq0=>?_);obtain ⟨x1,H1,I1,r1,q1⟩:=zq0;rw[he2];show wpAny _ _ (spliced ((false,eval e2 X.env)::[(false,eval (.Lambda params body scope lpos) X.env)])) _ _ s1;refine Calls.spliced_cons (thn (h2 pins s1 σ H1 _ I1 q1) fun u2 s2 zq0=>?_);obtain ⟨x2,H2,I2,r2,q2⟩:=zq0;exact zkB I2 L hcode hC hBM hb q2 fun f H3 s3 I3 hsp=>⟨I3.kIn,znt I3 m (F _ (zc6 I3)) hr hjk (vs:=[x1,x2,.ref f]) (.cons r1 (.cons r2 (.cons rfl .nil))) hsp⟩
end
theorem zoZ {K:Frag}{a b:Addr}{xs ys:List V}{g:TG}{tb:TS}{D:Ends}{σ:St}{H:Hp}(hlen:ys.length≤xs.length)(Pv:Nat→St→Hp→Prop)(h0:Pv 0 σ H)(hl:∀ i σ H,i≤ys.length→Pv i σ H→SqL K H a xs∧SqL K H b ys)
  (hs:∀ i x y σ H p,xs[i]?=some x→ys[i]?=some y→Pv i σ H→H p=none→g (.ref p) σ (upd H p (.tup [x,y])) fun σ2 H2=>tb { D with nx:=Pv (i+1),ct:=Pv (i+1),bk:=D.nx } σ2 H2) (hd:∀ σ H,Pv ys.length σ H→D.nx σ H) :
  ∃ W:Nat→Nat→St→Hp→Prop,(∃ m,W 0 m σ H)∧∀ i m σ H,W i m σ H→((Itz K a b).stop i H∧D.nx σ H)∨((Itz K a b).go i H∧∃ N:St→Hp→Prop,(∀ σ' H',N σ' H'→∃ m',m' < m∧W (i+1) m' σ' H')∧∀ x H',(Itz K a b).yld i H x H'→g x σ H' fun σ2 H2=>tb { D with nx:=N,ct:=N,bk:=D.nx } σ2 H2):=by
 refine ⟨fun i m σ H=>i+m=ys.length∧Pv i σ H,⟨ys.length,by omega,h0⟩,fun i m σ H zq0=>?_⟩;obtain ⟨e,pv⟩:=zq0;obtain ⟨hS,hS'⟩:=hl i σ H (by omega) pv;by_cases hi:i < ys.length
 ·refine .inr ⟨⟨xs,ys,xs[i]'(by omega),ys[i],hS,hS',yac (by omega),yac hi⟩,Pv (i+1),fun σ' H' q=>⟨m - 1,by omega,by omega,q⟩,fun x H' y=>?_⟩;obtain ⟨p,z,z',rfl,hp,hz,hz',rfl⟩:=y;exact hs i z z' σ H p (hz xs hS) (hz' ys hS') pv hp
 ·have:i=ys.length:=by omega
  subst this;exact .inl ⟨⟨xs,ys,hS,hS',.inr (yab _)⟩,hd σ H pv⟩
end L2
namespace L2
open PySem PySem.Spec PyProof.Rows
def Oth (p1 p2:Pos):Prop:=(((p1.line:Int) == (p2.line:Int)) && ((p1.col:Int) == (p2.col:Int)))=false
theorem zjR {p1 p2:Pos}{c:Value}(ho:Oth p1 p2)(l:List Value)(h:TriplesOk l):codeAmong p2 (l++[rawInt p1.line,rawInt p1.col,c])=codeAmong p2 l:=by
 fun_induction TriplesOk l with
 | case1=>
  unfold Oth at ho;simp only[List.nil_append,codeAmong,rawInt];rw[ho];rfl
 | case2 a t b u x rest ih=>
  simp only[List.cons_append,codeAmong];rw[ih h]
 | case3 l h1 h2=>exact h.elim
section
variable {X:Cx}{pins:List (Addr×Obj)}{σ:St}{H:Hp}{s:Shared}{params:Arguments}{body:Expr}{scope:Scope}{lpos:Pos}{c Pt:Addr}{Q:Value→Shared→Prop}
theorem zmZ (I:Inv X pins σ H s)(hdef:defaultsOf params X.env=([],[]))(hfr:∀ x,(x,NameKind.free)∈scope.names→(X.env.kindOf x=some .cell∨X.env.kindOf x=some .free))(hcode:X.env.code=.ref c)(hC:codeHdIn X.K c Pt=true)(hBM:BMAt X.mg X.base)
  (hT:zaC H Pt lpos (X.env.qual ++ "<lambda>"))
  (h:∀(f c':Addr) (cl:List (Str×Addr)) (pm ctv:Value) (H':Hp) (s':Shared),ze7 scope X.env cl→Inv X pins σ H' s'→s'.heap.get? f=some (PySem.W.kla_obj "<lambda>" (X.env.qual ++ "<lambda>") params body scope cl pm c' ctv)→H' f=none→s.heap.objs.size≤f→
   Gro Pt H H'→zaC H' Pt lpos (X.env.qual ++ "<lambda>")→zei H' c' (X.env.qual ++ "<lambda>")→(∀ p2 q2,Oth lpos p2→zaC H Pt p2 q2→zaC H' Pt p2 q2)→Q (.ref f) s') :
  wpAny (model X.prog X.w) X.A (eval (.Lambda params body scope lpos) X.env) Q X.xe s:=by
 obtain ⟨cl,hcl⟩:=zdH (scope:=scope) (env:=X.env) fun x hx=>I.ok.has x (hfr x hx);obtain ⟨tab,hP,ht,hor⟩:=hT.ex;have hPo:s.heap.get? Pt=some (PySem.W.tabObj tab):=I.hok Pt _ hP;have C:PySem.W.CodeHd s.heap c Pt:=(PySem.W.codeHd_of_K I.ok.mod.kin hC).keeps I.bk;have hgl:=I.mod.glob.keeps I.bk;have hgP:mainGlobals≠Pt:=fun z=>by
  obtain ⟨o,es,ep,e,_⟩:=I.mod.glob;have:=(I.bs _ _ e).2;rw[z,hP]at this;cases this
 have hb:s.heap.BuiltinsAt X.mg Pt:=by
  obtain ⟨bm,o,b1,b2,b3,b4,b5⟩:=hBM;refine ⟨bm,o,b1,b2,b3,fun z=>?_,I.bk _ _ b4,b5⟩;have:=(I.bs _ _ b4).2;rw[z,hP]at this;cases this
 refine PySem.W.kla_eval hdef ?_;rcases hor with hnone | ⟨c',hsome,hca⟩
 ·refine PySem.W.kla_makeFunction (clos:=cl) hcl.eq I.ok.glob hgl hcode C hPo ht hnone hgP hb fun c' ctv h' tk hx hge hlt hrec htb=>?_;have hx':∀ o2 b o,b≠Pt→s.heap.get? b=some o→(h'.push o2).get? b=some o:=fun o2 b o n e=>yam _ (hx b o n e);have I':=zkN (c':=c') (q:=X.env.qual ++ "<lambda>") (tk:=tk) I hP (hx' _) hge (hrec.push (PySem.W.kla_obj "<lambda>" (X.env.qual ++ "<lambda>") params body scope cl ((X.mg "__name__").getD .none) c' ctv)) (yam _ htb);have hsz:s.heap.objs.size≤h'.objs.size:=ya5 (ya2 hge hlt);have nPc:Pt≠c':=zab hP (I.hok.fresh hge);have eT:(tab++#[rawInt lpos.line,rawInt lpos.col,.ref c']).toList=tab.toList++[rawInt lpos.line,rawInt lpos.col,.ref c']:=by simp
  have hTI:zaC (upd (upd H Pt (.tbl (tab++#[rawInt lpos.line,rawInt lpos.col,.ref c']))) c' (.ext (zlF c' (X.env.qual ++ "<lambda>")))) Pt lpos (X.env.qual ++ "<lambda>"):=
   ⟨_,by rw[zaf nPc,zac],by rw[eT];exact TriplesOk_snoc _ _ _ _ ht,.inr ⟨c',by rw[eT];exact codeAmong_snoc _ ht hnone,zac⟩⟩
  refine h h'.objs.size c' cl _ ctv _ _ hcl I' (yaD _ rfl) ?_ hsz ?_ hTI zac ?_
  ·rw[zaf (ybh hlt),zaf (fun z=>?_)]
   ·exact I.hok.fresh hsz
   ·have:=yaf hPo;rw[← z]at this;exact absurd this (ybp.mpr hsz)
  ·intro b o n e;rw[zaf (zab e (I.hok.fresh hge)),zaf n];exact e
  ·intro p2 q2 ho x;obtain ⟨tab',x1,x2,x3⟩:=x.ex;rw[hP]at x1;cases x1
   refine ⟨_,by rw[zaf nPc,zac],by rw[eT];exact TriplesOk_snoc _ _ _ _ ht,?_⟩;rw[eT,zjR ho _ ht];rcases x3 with x3 | ⟨c2,x3,x4⟩
   ·exact .inl x3
   ·refine .inr ⟨c2,x3,?_⟩;have m1:c2≠Pt:=fun z=>by
     have y:H c2=_:=x4;rw[z,hP]at y;cases y
    show upd _ _ _ c2=_;rw[zaf (zab x4 (I.hok.fresh hge)),zaf m1];exact x4
 ·refine PySem.W.kla_makeFunctionHit (clos:=cl) hcl.eq I.ok.glob hgl hcode C hPo ht hsome hb fun ctv h' tk hk hsz=>?_;exact h h'.objs.size c' cl _ ctv H _ hcl (I.kept (t':=tk) fun b o e=>yam _ (hk b o e)) (yaD _ rfl) (I.hok.fresh hsz) hsz (Gro.refl _ _) hT hca fun _ _ _ x=>x
end
section
variable {X:Cx}{pins:List (Addr×Obj)}{σ:St}{H:Hp}{s:Shared}
def znQ (X:Cx)(n kf:Nat)(ps:List Str)(cap:List Nat)(Pt:Addr)(lpos:Pos)(tb:Heap→TE)(σ:St)(H1:Hp)(q:Heap→Addr→Hp→Prop):Prop:=zaC H1 Pt lpos (X.env.qual ++ "<lambda>")∧∃ vcs:List V,vcs.length=n∧(∀(j i:Nat) (v:V),cap[j]?=some i→vcs[j]?=some v→σ[i]?=some (some v))∧
 ∀(base:Heap) (f c':Addr) (H2:Hp),Gro Pt H1 H2→zaC H2 Pt lpos (X.env.qual ++ "<lambda>")→zei H2 c' (X.env.qual ++ "<lambda>")→(∀ p2 q2,Oth lpos p2→zaC H1 Pt p2 q2→zaC H2 Pt p2 q2)→Sub X.K X.mg X.base base→FV X.prog X.w X.K X.mg base kf f ps (zje ps.length (tb base) vcs c' (X.env.qual ++ "<lambda>"))→q base f H2
theorem zmY {params:Arguments}{body:Expr}{scope:Scope}{lpos:Pos}{tb:Heap→TE}{kf:Nat}{c Pt:Addr}{ps caps:List Str}{cap:List Nat}{q:Heap→Addr→Hp→Prop}{Qv:List Value→Shared→Prop}(I:Inv X pins σ H s)
  (L:zh5 X params body scope ps caps cap) (hcode:X.env.code=.ref c) (hC:codeHdIn X.K c Pt=true) (hBM:BMAt X.mg X.base)
  (hb:∀(base:Heap) (f:Addr) (cd:Value) (cl:List (Str×Addr)) (A:Around) (outer:List Env) (s:Shared) (H:Hp),Sub X.K X.mg X.base base→Room kf (A.deeper (PySem.W.envX (X.env.qual ++ "<lambda>") scope s.heap.objs.size f cd cl))→PE (zgT X.prog X.w X.K X.mg base (ps++caps) (X.env.qual ++ "<lambda>") scope f cd cl A outer s H) body (tb base))
  (hg:znQ X caps.length (kf+1) ps cap Pt lpos tb σ H q) (h:∀ f H2 s2,Inv X pins σ H2 s2→q (zcb X s2 H2) f H2→Qv [.ref f] s2):wpAny (model X.prog X.w) X.A (spliced [(false,eval (.Lambda params body scope lpos) X.env)]) Qv X.xe s:=by
 obtain ⟨hT,vcs,hv,hvs,q⟩:=hg;refine Calls.spliced_cons (zmZ I L.dflt L.frees hcode hC hBM hT fun f c' cl pm ctv H2 s2 hcl I2 ho hn hge hgr hT2 hca hot=>?_);have S:=zc6 I2;have hF:=zpC (k:=kf) (n:=s.heap.objs.size) (tb:=tb (zcb X s2 H2)) I2 L hcl ho hn (fun b hb=>by
  obtain ⟨_,o,e,_⟩:=I.stack.mem hb;exact yaf e) hge hv hvs (fun f cd cl A outer s H hr=>hb _ f cd cl A outer s H S hr)
 exact Calls.spliced_nil (h f H2 s2 I2 (q _ f c' H2 hgr hT2 hca hot S hF))
end
section
variable {X:Cx}
def zlZ (X:Cx)(n kf:Nat)(ps:List Str)(cap:List Nat)(Pt:Addr)(lpos:Pos)(tb:Heap→TE)(te te2:TE)(spH:Heap→Sp):TE:=fun σ H Q=>te σ H fun x1 H1=>te2 σ H1 fun x2 H2=>znQ X n kf ps cap Pt lpos tb σ H2 fun base f H3=>spH base [x1,x2,.ref f] H3 Q E0
theorem zgi {x:Str}{qs:List Str}{e1 e2:Expr}{params:Arguments}{body:Expr}{scope:Scope}{lpos p pos:Pos}{te te2:TE}{tb:Heap→TE}{spH:Heap→Sp}{j k kf:Nat}{c Pt:Addr}{ps caps:List Str}{cap:List Nat}
  (F:∀ base,Sub X.K X.mg X.base base→FC X.prog X.w X.K X.mg base j x qs (spH base)) (hr:Room k X.A) (h1:PE X e1 te) (h2:PE X e2 te2) (L:zh5 X params body scope ps caps cap) (hcode:X.env.code=.ref c) (hC:codeHdIn X.K c Pt=true) (hBM:BMAt X.mg X.base)
  (hb:∀(base:Heap) (f:Addr) (cd:Value) (cl:List (Str×Addr)) (A:Around) (outer:List Env) (s:Shared) (H:Hp),Sub X.K X.mg X.base base→Room kf (A.deeper (PySem.W.envX (X.env.qual ++ "<lambda>") scope s.heap.objs.size f cd cl))→PE (zgT X.prog X.w X.K X.mg base (ps++caps) (X.env.qual ++ "<lambda>") scope f cd cl A outer s H) body (tb base))
  (hjk:j≤k:=by decide) (hg:Gl X x:=by rfl) (hdb:(x == ("__debug__" : Str))=false:=by decide) (he:starEach [e1,e2,.Lambda params body scope lpos] X.env=(false,eval e1 X.env)::starEach [e2,.Lambda params body scope lpos] X.env:=by rfl)
  (he2:starEach [e2,.Lambda params body scope lpos] X.env=[(false,eval e2 X.env),(false,eval (.Lambda params body scope lpos) X.env)]:=by rfl) (hpl:(backTo pos (starEach [e2,.Lambda params body scope lpos] X.env)).any (·.1)=false:=by rfl) :
  PE X (.Call (.Name x p) [e1,e2,.Lambda params body scope lpos] [] pos) (zlZ X caps.length (kf+1) ps cap Pt lpos tb te te2 spH):=by
 intro pins s σ H Q I h;obtain ⟨g,fd,_,_,kp,m,oc,od,osl,lk⟩:=(F X.base ⟨I.ok.mod,fun _ _ e=>e,yab _⟩).ex;refine wpAny_Call_Name_kw (zep I hg m ?_ hdb);refine PySem.W.callWith_K (h₀:=X.base) I.ok.mod.kin kp ?_ he hpl;rw[he];show wpAny _ _ (spliced ((false,eval e1 X.env)::backTo pos (starEach [e2,.Lambda params body scope lpos] X.env))) _ _ s;refine Calls.spliced_cons (thn (h1 pins s σ H _ I h) fun u s1 zq0=>?_);obtain ⟨x1,H1,I1,r1,q1⟩:=zq0;rw[he2];show wpAny _ _ (spliced ((false,eval e2 X.env)::[(false,eval (.Lambda params body scope lpos) X.env)])) _ _ s1;refine Calls.spliced_cons (thn (h2 pins s1 σ H1 _ I1 q1) fun u2 s2 zq0=>?_);obtain ⟨x2,H2,I2,r2,q2⟩:=zq0;exact zmY I2 L hcode hC hBM hb q2 fun f H3 s3 I3 hsp=>⟨I3.kIn,znt I3 m (F _ (zc6 I3)) hr hjk (vs:=[x1,x2,.ref f]) (.cons r1 (.cons r2 (.cons rfl .nil))) hsp⟩
end
end L2
namespace L2
open PySem PySem.Spec PyProof.Rows PySem.SeqAt
structure Tri (α β γ:Type) where
 a:α
 b:β
 c:γ
theorem Tri.ext' {α β γ:Type}:∀{p q:Tri α β γ},p.a=q.a→p.b=q.b→p.c=q.c→p=q
 | ⟨_,_,_⟩,⟨_,_,_⟩,rfl,rfl,rfl=>rfl
instance {α β γ:Type} [DecidableEq α] [DecidableEq β] [DecidableEq γ]:DecidableEq (Tri α β γ):=fun p q=>
 if h1:p.a=q.a then if h2:p.b=q.b then if h3:p.c=q.c then .isTrue (Tri.ext' h1 h2 h3) else .isFalse fun z=>h3 (by rw[z]) else .isFalse fun z=>h2 (by rw[z]) else .isFalse fun z=>h1 (by rw[z])
theorem znV {x y z:V}{us:List Value}(r:Vals [x,y,z] us):∃ u v w,us=[u,v,w]∧RelV x u∧RelV y v∧RelV z w:=by
 cases r with
 | cons r1 r=>
  cases r with
  | cons r2 r=>
   cases r with
   | cons r3 r=>
    cases r
    exact ⟨_,_,_,rfl,r1,r2,r3⟩
def has3 {α β γ:Type}[Rep α][Rep β][Rep γ](K:Frag)(H:Hp)(p:Tri α β γ)(v:V):Prop:=∃ a x y z,v=.ref a∧H a=some (.tup [x,y,z])∧Rep.has K H p.a x∧Rep.has K H p.b y∧Rep.has K H p.c z
section
variable {α β γ:Type}[ra:Rep α][rb:Rep β][rc:Rep γ]{X:Cx}{pins:List (Addr×Obj)}{σ:St}{H:Hp}{s:Shared}{A:Around}{p q:Tri α β γ}{x y:V}{u v:Value}
theorem zkL (I:Inv X pins σ H s)(h1:has3 X.K H p x)(h2:has3 X.K H q x):p=q:=by
 obtain ⟨a,x1,x2,x3,rfl,q1,e1,e2,e3⟩:=h1;obtain ⟨b,y1,y2,y3,e,q2,f1,f2,f3⟩:=h2;cases e
 have z:=I.tuple_inj (SqT.of q2) (SqT.of q1);cases z
 exact Tri.ext' (Rep.inj I e1 f1) (Rep.inj I e2 f2) (Rep.inj I e3 f3)
theorem zlT {p q:Tri α β γ}:((List.range (min 3 3)).all (fun j=>if j=0 then (Rep.dec p.a q.a).decide else if j=1 then (Rep.dec p.b q.b).decide else (Rep.dec p.c q.c).decide) && (3 == 3))=decide (p=q):=by
 rw[show List.range (min 3 3)=[0,1,2] from rfl];simp only[ybS,List.all_nil,Bool.and_true,if_true,beq_self_eq_true];rw[if_neg (by decide),if_neg (by decide),if_neg (by decide)];have e1:(Rep.dec p.a q.a).decide=decide (p.a=q.a):=rfl;have e2:(Rep.dec p.b q.b).decide=decide (p.b=q.b):=rfl;have e3:(Rep.dec p.c q.c).decide=decide (p.c=q.c):=rfl;rw[e1,e2,e3];by_cases z1:p.a=q.a
 ·by_cases z2:p.b=q.b
  ·by_cases z3:p.c=q.c
   ·rw[yag z1,yag z2,yag z3,yag (Tri.ext' z1 z2 z3)];rfl
   ·have n:¬ p=q:=fun z=>z3 (by rw[z]);rw[yai z3,yai n];simp
  ·have n:¬ p=q:=fun z=>z2 (by rw[z]);rw[yai z2,yai n];simp
 ·have n:¬ p=q:=fun z=>z1 (by rw[z]);rw[yai z1,yai n];simp
theorem zid (I:Inv X pins σ H s){B:Around}{x1 x2 x3 y1 y2 y3:V}{u1 u2 u3 v1 v2 v3:Value}(hin:∀ n,n≤Rep.depth α+Rep.depth β+Rep.depth γ→B.units+n < cLine)
  (e1:Rep.has X.K H p.a x1) (e2:Rep.has X.K H p.b x2) (e3:Rep.has X.K H p.c x3) (f1:Rep.has X.K H q.a y1) (f2:Rep.has X.K H q.b y2) (f3:Rep.has X.K H q.c y3) (r1:RelV x1 u1) (r2:RelV x2 u2) (r3:RelV x3 u3) (t1:RelV y1 v1) (t2:RelV y2 v2) (t3:RelV y3 v3) :
  ∀ j (h1:j < (#[u1,u2,u3]:Array Value).size) (h2:j < (#[v1,v2,v3]:Array Value).size),EqAt B s (#[u1,u2,u3]:Array Value)[j] (#[v1,v2,v3]:Array Value)[j] (if j=0 then (Rep.dec p.a q.a).decide else if j=1 then (Rep.dec p.b q.b).decide else (Rep.dec p.c q.c).decide):=by
 have c1:=Rep.eq (A:=B) I (hin _ (by omega)) e1 f1 r1 t1;have c2:=Rep.eq (A:=B) I (hin _ (by omega)) e2 f2 r2 t2;have c3:=Rep.eq (A:=B) I (hin _ (by omega)) e3 f3 r3 t3;intro j h1 h2;have h1':j < 3:=h1;have z:j=0∨j=1∨j=2:=by omega
 rcases z with rfl | rfl | rfl
 ·exact c1
 ·exact c2
 ·exact c3
theorem znn (I:Inv X pins σ H s)(hu:A.units+(Rep.depth α+Rep.depth β+Rep.depth γ+1) < cLine)(h1:has3 X.K H p x)(h2:has3 X.K H q y)(r1:RelV x u)(r2:RelV y v):RcAt A s u v (decide (p=q)):=by
 obtain ⟨a,x1,x2,x3,rfl,q1,e1,e2,e3⟩:=h1;obtain ⟨b,y1,y2,y3,rfl,q2,f1,f2,f3⟩:=h2;cases r1
 cases r2
 obtain ⟨us,ru,pu,_⟩:=I.tuple (SqT.of q1);obtain ⟨vs,rv,pv,_⟩:=I.tuple (SqT.of q2);obtain ⟨u1,u2,u3,rfl,ru1,ru2,ru3⟩:=znV ru;obtain ⟨v1,v2,v3,rfl,rv1,rv2,rv3⟩:=znV rv;have hin:∀ n,n≤Rep.depth α+Rep.depth β+Rep.depth γ→A.in1.units+n < cLine:=fun n hn=>ya2 (ybB zc3 _) (by omega);have:=RcAt.tuples (A:=A) (s:=s) (l:=a) (b:=b) (items:=#[u1,u2,u3]) (items2:=#[v1,v2,v3]) pu pv (by omega) (zid (p:=p) (q:=q) I hin e1 e2 e3 f1 f2 f3 ru1 ru2 ru3 rv1 rv2 rv3);rw[← zlT];exact this
theorem zqx (I:Inv X pins σ H s)(hu:A.units+(Rep.depth α+Rep.depth β+Rep.depth γ+1) < cLine)(h1:has3 X.K H p x)(h2:has3 X.K H q y)(r1:RelV x u)(r2:RelV y v):RcNeAt A s u v (!decide (p=q)):=by
 obtain ⟨a,x1,x2,x3,rfl,q1,e1,e2,e3⟩:=h1;obtain ⟨b,y1,y2,y3,rfl,q2,f1,f2,f3⟩:=h2;cases r1
 cases r2
 obtain ⟨us,ru,pu,_⟩:=I.tuple (SqT.of q1);obtain ⟨vs,rv,pv,_⟩:=I.tuple (SqT.of q2);obtain ⟨u1,u2,u3,rfl,ru1,ru2,ru3⟩:=znV ru;obtain ⟨v1,v2,v3,rfl,rv1,rv2,rv3⟩:=znV rv;have hin:∀ n,n≤Rep.depth α+Rep.depth β+Rep.depth γ→A.in1.units+n < cLine:=fun n hn=>ya2 (ybB zc3 _) (by omega);have:=RcNeAt.tuples (A:=A) (s:=s) (l:=a) (b:=b) (items:=#[u1,u2,u3]) (items2:=#[v1,v2,v3]) pu pv (by omega) (zid (p:=p) (q:=q) I hin e1 e2 e3 f1 f2 f3 ru1 ru2 ru3 rv1 rv2 rv3);rw[← zlT];exact this
theorem zqy (I:Inv X pins σ H s)(hu:A.units+(Rep.depth α+Rep.depth β+Rep.depth γ+1) < cLine)(h1:has3 X.K H p x)(h2:has3 X.K H q y)(r1:RelV x u)(r2:RelV y v):EqAt A s u v (decide (p=q)):=by
 have rc:=znn (A:=A) I hu h1 h2 r1 r2;have h1':=id h1;have h2':=id h2;obtain ⟨a,x1,x2,x3,rfl,q1,e1,e2,e3⟩:=h1;obtain ⟨b,y1,y2,y3,rfl,q2,f1,f2,f3⟩:=h2;cases r1
 cases r2
 by_cases hab:a=b
 ·subst hab;rw[yag (zkL I h1' h2')];exact EqAt.same _
 ·exact EqAt.of_refs hab rc
end
instance {α β γ:Type} [Rep α] [Rep β] [Rep γ]:Rep (Tri α β γ) where
 dec:=inferInstance
 depth:=Rep.depth α+Rep.depth β+Rep.depth γ+1
 has:=has3
 mono:=fun e ⟨a,x,y,z,h1,h2,h3,h4,h5⟩=>⟨a,x,y,z,h1,e _ _ h2 (fun _ z=>nomatch z),Rep.mono e h3,Rep.mono e h4,Rep.mono e h5⟩
 inj:=fun I h1 h2=>zkL I h1 h2
 rc:=fun I hu h1 h2 r1 r2=>znn I hu h1 h2 r1 r2
 rn:=fun I hu h1 h2 r1 r2=>zqx I hu h1 h2 r1 r2
 eq:=fun I hu h1 h2 r1 r2=>zqy I hu h1 h2 r1 r2
end L2
namespace L2
open PySem PySem.Spec PyProof.Rows
structure DM (K:Frag)(C:Addr)(m q:Str)(st:Stmt)(ps:List Str):Prop where
 ex:∃ f fd,Fun K m q st f fd∧zd9 K fd ps []∧Meth K C m f
structure FM (P:Program)(w:World)(K:Frag)(mg:Str→Option Value)(base:Heap)(C:Addr)(k:Nat)(m:Str)(ps:List Str)(sp:Sp):Prop where
 ex:∃ f fd,FnOk P w K mg base CX0 k f fd ps sp∧zd9 K fd ps []∧Meth K C m f∧∃ oc od osl,K.lookup f=some ⟨oc,od,.func fd,osl⟩
structure DI (K:Frag)(C:Addr)(q:Str)(st:Stmt)(ps:List Str):Prop where
 ex:∃ f fd,Fun K "__init__" q st f fd∧zd9 K fd ps []∧Mk K C f
structure FI (P:Program)(w:World)(K:Frag)(mg:Str→Option Value)(base:Heap)(C:Addr)(k:Nat)(ps:List Str)(sp:Sp):Prop where
 ex:∃ f fd,FnOk P w K mg base CX0 k f fd ps sp∧zd9 K fd ps []∧Mk K C f
section
variable {P:Program}{w:World}{K:Frag}{mg:Str→Option Value}{base:Heap}{C:Addr}{m q:Str}{st:Stmt}{N ps:List Str}{k:Nat}{sp:Sp}
theorem DM.ok (D:DM K C m q st ps)(S:zap N ps (zah st))(len:∀ vs H Q E,sp vs H Q E→vs.length=ps.length)
  (hbody:∀(f:Addr) (cdv:Value) (A:Around) (outer:List Env) (s:Shared) (H:Hp) (vs:List V) (Q:VK) (E:XK),Room k (A.deeper (envOfC q (zah st) s.heap.objs.size f cdv))→sp vs H Q E→
   ∃ t,PSs (cxOf CX0 P w K mg base N q (zah st) f cdv A outer s H E).nox (zbm st) t∧t { nx:=fun _ H'=>Q .non H',rt:=Q } (zcW N vs) H):FM P w K mg base C (k+1) m ps sp:=by
 obtain ⟨f,fd,F,b,me⟩:=D.ex;exact ⟨f,fd,F.ok S len fun cdv A outer s H vs Q E hr h=>hbody f cdv A outer s H vs Q E hr h,b,me,by
  obtain ⟨oc,od,kV,doc,pm,an,cdv,ct,osl,rfl,lk,hcd⟩:=F.ex;exact ⟨oc,od,osl,lk⟩⟩
theorem DI.ok (D:DI K C q st ps)(S:zap N ps (zah st))(len:∀ vs H Q E,sp vs H Q E→vs.length=ps.length)
  (hbody:∀(f:Addr) (cdv:Value) (A:Around) (outer:List Env) (s:Shared) (H:Hp) (vs:List V) (Q:VK) (E:XK),Room k (A.deeper (envOfC q (zah st) s.heap.objs.size f cdv))→sp vs H Q E→
   ∃ t,PSs (cxOf CX0 P w K mg base N q (zah st) f cdv A outer s H E).nox (zbm st) t∧t { nx:=fun _ H'=>Q .non H',rt:=Q } (zcW N vs) H):FI P w K mg base C (k+1) ps sp:=by
 obtain ⟨f,fd,F,b,me⟩:=D.ex;exact ⟨f,fd,F.ok S len fun cdv A outer s H vs Q E hr h=>hbody f cdv A outer s H vs Q E hr h,b,me⟩
end
section
variable {X:Cx}{j k:Nat}{C:Addr}{m x:Str}{ps:List Str}{sp:Sp}{o e:Expr}{es:List Expr}{ta:TE}{t:TA}{p pos apos:Pos}
theorem zp4 {pl:Sem Bool}(F:FM X.prog X.w X.K X.mg X.base C j m ps sp)(c:Cls X.K C)(hr:Room k X.A)(he:PE X o ta)(ha:PA X (e::es) t)(hjk:j≤k:=by decide)
  (hst:starEach (e::es) X.env=(false,eval e X.env)::starEach es X.env:=by rfl) (hpl:(backTo pos (starEach es X.env)).any (·.1)=false:=by rfl)
  (ht:eval (.Call (.Attribute o m apos) (e::es) [] pos) X.env=(do
   let ov ← eval o X.env
   standAt apos.atName
   let (f,first) ← holding [ov] (getMethod ov m pl)
   callWith pos f first (backTo pos (starEach (e::es) X.env)) (backToKw pos (keywordEach [] X.env))):=by rfl) :
  PE X (.Call (.Attribute o m apos) (e::es) [] pos) (zqX C m sp [] E0 ta t):=by
 obtain ⟨f,fd,ok,b,me,_⟩:=F.ex;exact zp1 he c me ok (hr.mono hjk) b .nil zol ha hst hpl ht
theorem zro (F:FI X.prog X.w X.K X.mg X.base C j ps sp)(hr:Room k X.A)(hm:X.mg x=some (.ref C))(ha:PA X (e::es) t)(hjk:j+1≤k:=by decide)(hg:Gl X x:=by rfl)
  (hdb:(x == ("__debug__" : Str))=false:=by decide) (he:starEach (e::es) X.env=(false,eval e X.env)::starEach es X.env:=by rfl) (hpl:(backTo pos (starEach es X.env)).any (·.1)=false:=by rfl) :
  PE X (.Call (.Name x p) (e::es) [] pos) (zqY C sp [] E0 t):=by
 obtain ⟨f,fd,ok,b,me⟩:=F.ex;exact zp2 me ok (hr.mono hjk) hg hm b .nil zol ha hdb he hpl
end
end L2
namespace L2
open PySem PySem.Spec PyProof.Rows
theorem znB {K:Frag}{a b D:Addr}{xs ys:List V}{g:TG}{ts:TT}{te:TE}{σ:St}{H:Hp}{Q:Hp→Prop}(hlen:ys.length≤xs.length)(Pv:Nat→St→Hp→Prop)(h0:Pv 0 σ H)(hl:∀ i σ H,i≤ys.length→Pv i σ H→SqL K H a xs∧SqL K H b ys)
  (hs:∀ i m x y σ H r,xs[i]?=some x→ys[i]?=some y→i+m=ys.length→Pv i σ H→H r=none→g (.ref r) σ (upd H r (.tup [x,y])) fun σ2 H2=>ts σ2 H2 fun b H3=>if b=true then te σ2 H3 fun y H4=>∃ zs,H4 D=some (.lst zs)∧zs.length < sizeLine∧∃ m',m' < m∧(i+1+m'=ys.length∧Pv (i+1) σ2 (upd H4 D (.lst (zs++[y])))) else ∃ m',m' < m∧(i+1+m'=ys.length∧Pv (i+1) σ2 H3))
  (hd:∀ σ H,Pv ys.length σ H→Q H) :
  ∃ W:Nat→Nat→St→Hp→Prop,(∃ m,W 0 m σ H)∧∀ i m σ H,W i m σ H→((Itz K a b).stop i H∧Q H)∨((Itz K a b).go i H∧∀ x H',(Itz K a b).yld i H x H'→g x σ H' fun σ2 H2=>ts σ2 H2 fun b H3=>if b=true then te σ2 H3 fun y H4=>∃ xs,H4 D=some (.lst xs)∧xs.length < sizeLine∧∃ m',m' < m∧W (i+1) m' σ2 (upd H4 D (.lst (xs++[y]))) else ∃ m',m' < m∧W (i+1) m' σ2 H3):=by
 refine ⟨fun i m σ H=>i+m=ys.length∧Pv i σ H,⟨ys.length,by omega,h0⟩,fun i m σ H zq0=>?_⟩;obtain ⟨e,pv⟩:=zq0;obtain ⟨hS,hS'⟩:=hl i σ H (by omega) pv;by_cases hi:i < ys.length
 ·refine .inr ⟨⟨xs,ys,xs[i]'(by omega),ys[i],hS,hS',yac (by omega),yac hi⟩,fun x H' y=>?_⟩;obtain ⟨p,z,z',rfl,hp,hz,hz',rfl⟩:=y;exact hs i m z z' σ H p (hz xs hS) (hz' ys hS') e pv hp
 ·have:i=ys.length:=by omega
  subst this;exact .inl ⟨⟨xs,ys,hS,hS',.inr (yab _)⟩,hd σ H pv⟩
end L2
namespace DictP
open PySem PySem.Spec PyProof.Rows
set_option autoImplicit false
set_option maxRecDepth 100000
theorem ziG:typeLookup (.type "list") "keys" = pure none:=by rw[typeLookup_type,builtinLookup_eq_fast];kernel_rfl
section
variable {prog:Program}{w:World}{A:Around}{E:Value→Shared→Prop}{a:Addr}{o:Obj}{h:Heap}{g:Array GenState}{d:Drawn}{t:Nat}{os:OsState}{xs:Array Value}{n:Nat}{sl:Array (Option Value)}
theorem zlo {tk:Tok}{Q:Fin→Shared→Prop}(hh:A.handled=none)(hx:h.get? a=some { cls:=.type "list",dict:=none,data:=.seq xs n,slots:=sl })
  (q:∀ h' t' e,(∀ b u,h.get? b=some u→h'.get? b=some u)→(⟨h',g,d,t',os⟩:Shared).TypeIs (.ref e) "AttributeError"→E (.ref e) ⟨h',g,d,t',os⟩) :
  wpAny (model prog w) A (Builtin.«object.__getattribute__» ⟨[.ref a,.str "keys" tk],[]⟩) Q E ⟨h,g,d,t,os⟩:=by
 have hT:(⟨h,g,d,t,os⟩:Shared).TypeIs (.ref a) "list":=⟨_,hx,rfl⟩;have f4:=ziG
 repeat (any_goals (first | assumption | wp_step))
 have hm:(Str.ofString (toString "'" ++ toString ((Manifest.find? "list").elim "list" fun x=>x.tpName)++toString "' object has no attribute '")++Str.ofString "keys" ++ Str.ofString "'").length≤sizeLine:=by decide +kernel
 generalize (Str.ofString (toString "'" ++ toString ((Manifest.find? "list").elim "list" fun x=>x.tpName)++toString "' object has no attribute '")++Str.ofString "keys" ++ Str.ofString "'")=msg at hm ⊢;unfold raiseAttrError;refine wpAny_bind (wpAny_mkStr (wpAny_bind ?_) hm);unfold newExc newTuple;refine wpAny_bind (wpAny_newObj_type ?_);refine wpAny_bind (m:=firstArgMember _ _) (wpAny_of_eq (a:=Value.none) (by rfl) ?_);refine wpAny_newObj_type ?_;refine wpAny_bind (wpAny_mkText ?_);have hX:=yaD (h.push { cls:=.type "tuple",data:=.seq #[Value.str msg t] }) (o:={ cls:=.type "AttributeError",data:=.fields (#[.ref h.objs.size,.none,.none,.none,.bool false,.none]++#[unsetMember,unsetMember]) }) rfl;have hk:∀ b u,h.get? b=some u→((h.push { cls:=.type "tuple",data:=.seq #[Value.str msg t] }).push { cls:=.type "AttributeError",data:=.fields (#[.ref h.objs.size,.none,.none,.none,.bool false,.none]++#[unsetMember,unsetMember]) }).get? b=some u:=fun b u e=>yam _ (yam _ e);have hne:h.get? (h.push { cls:=.type "tuple",data:=.seq #[Value.str msg t] }).objs.size=none:=Heap.get?_none_of_le (by simp);show wpAny (model prog w) A (noteAttr (.ref (h.push { cls:=.type "tuple",data:=.seq #[Value.str msg t] }).objs.size) (.ref a) (.str "keys" (t+1)) >>= fun _=>raiseNew (.ref (h.push { cls:=.type "tuple",data:=.seq #[Value.str msg t] }).objs.size)) Q E ⟨(h.push { cls:=.type "tuple",data:=.seq #[Value.str msg t] }).push { cls:=.type "AttributeError",data:=.fields (#[.ref h.objs.size,.none,.none,.none,.bool false,.none]++#[unsetMember,unsetMember]) },g,d,t+2,os⟩;generalize (h.push { cls:=.type "tuple",data:=.seq #[Value.str msg t] }).push { cls:=.type "AttributeError",data:=.fields (#[.ref h.objs.size,.none,.none,.none,.bool false,.none]++#[unsetMember,unsetMember]) }=h2 at hX hk ⊢;generalize (h.push { cls:=.type "tuple",data:=.seq #[Value.str msg t] }).objs.size=e at hX hne ⊢;generalize (Value.ref h.objs.size)=r0 at hX;unfold noteAttr;dsimp only;have hTe:(⟨h2,g,d,t+2,os⟩:Shared).TypeIs (.ref e) "AttributeError":=⟨_,hX,rfl⟩;refine wpAny_bind (wpAny_bind ?_);unfold lacksNameAndObj;dsimp only;refine wpAny_bind (wpAny_isInstance (T := "AttributeError") (b:=true) hTe (by rw[isSubtype_type];kernel_rfl) ?_);simp only[Bool.not_true,ycj,if_false];refine wpAny_bind (wpAny_load hX ?_);dsimp only;have i6:(#[r0,Value.none,Value.none,Value.none,Value.bool false,Value.none]++#[unsetMember,unsetMember])[6]?=some unsetMember:=by simp
 have i7:(#[r0,Value.none,Value.none,Value.none,Value.bool false,Value.none]++#[unsetMember,unsetMember])[7]?=some unsetMember:=by simp
 refine wpAny_ite_split (fun z=>absurd z (by rw[i6,i7];decide)) (fun _=>?_);refine wpAny_ite_split (fun z=>absurd z (by rw[i6,i7];decide)) (fun _=>?_);refine wpAny_pure ?_;rw[if_pos rfl];refine wpAny_bind (wpAny_rule (wpAny_bind (wpAny_typeOf hTe ?_)));dsimp only;unfold layMembers;refine wpAny_bind (wpAny_load hX ?_);dsimp only;refine wpAny_update (s:=⟨h2,g,d,t+2,os⟩) hX ?_;unfold raiseNew;refine wpAny_bind (wpAny_handled ?_);rw[hh]
 first
  | refine wpAny_throw ?_
  | refine wpAny_bind (wpAny_pure (wpAny_throw ?_))
 refine q _ _ e (fun b u eb=>?_) ⟨_,Heap.get?_update_self _ hX (Obj.isFreed_of_fields (Obj.data_mapFields rfl _)),rfl⟩;have nb:b≠e:=fun z=>by
  rw[z,hne]at eb;cases eb
 exact (ybl _ _ (Ne.symm nb)).trans (hk b u eb)
theorem zna {tk:Tok}{R:Result→Shared→Prop}(hh:A.handled=none)(hx:h.get? a=some { cls:=.type "list",dict:=none,data:=.seq xs n,slots:=sl })
  (q:∀ h' t' e,(∀ b u,h.get? b=some u→h'.get? b=some u)→(⟨h',g,d,t',os⟩:Shared).TypeIs (.ref e) "AttributeError"→R (.error (.ref e)) ⟨h',g,d,t',os⟩) :
  codeAny (model prog w) A (.call (.builtin "list.__getattribute__") ⟨[.ref a,.str "keys" tk],[]⟩) R ⟨h,g,d,t,os⟩:=
 codeAny_call_builtin F.slot_list_getattribute.plain F.entry_list_ga (F.slot_list_getattribute.check _ _ _ _ _ _ _ _ (show (⟨h,g,d,t,os⟩:Shared).TypeIs (.ref a) "list" from ⟨_,hx,rfl⟩) (F.args_list_getattribute_2 _ _) (zlo (A:=A.in1) hh hx q))
theorem zm8 {Q:Option Value→Shared→Prop}(hh:A.handled=none)(hx:h.get? a=some { cls:=.type "list",dict:=none,data:=.seq xs n,slots:=sl })
  (q:∀ h' t',(∀ b u,h.get? b=some u→h'.get? b=some u)→Q none ⟨h',g,d,t',os⟩):wpAny (model prog w) A (getAttr? (.ref a) "keys") Q E ⟨h,g,d,t,os⟩:=by
 have hT:(⟨h,g,d,t,os⟩:Shared).TypeIs (.ref a) "list":=⟨_,hx,rfl⟩;have f2:=F.slot_list_getattribute.lookup;have f3:=F.slot_list_getattribute.bind (.ref a);have f5:typeLookup (.type "list") "__getattr__" = pure none:=by rw[typeLookup_type,builtinLookup_eq_fast];kernel_rfl
 unfold getAttr? getAttrBy?
 repeat (any_goals (first | assumption | wp_step))
 refine zna hh hx fun h' t' e k ty=>?_;have su:isSubtype (.type "AttributeError") (.type "AttributeError")=pure true:=by rw[isSubtype_type];kernel_rfl
 show wpAny (model prog w) A (getattributeRaised (.ref a) (.str "keys" t) (.type "list") (.ref e) none false false) _ _ _;unfold getattributeRaised;refine wpAny_bind (wpAny_isInstance ty su ?_);rw[if_pos rfl];refine wpAny_bind (?_:wpAny _ _ (typeLookup (.type "list") "__getattr__") _ _ _);rw[f5];refine wpAny_pure ?_;show wpAny _ _ (throw (Value.ref e)) _ _ _;refine wpAny_throw ?_;show wpAny _ _ (do let b ← isInstance (.ref e) (.type "AttributeError");if b=true then pure none else throw (Value.ref e)) _ _ _
 refine wpAny_bind (wpAny_isInstance ty su ?_);exact wpAny_pure (q h' t' k)
end
end DictP
namespace DictP
open PySem PySem.Spec PyProof.Rows L2
set_option autoImplicit false
set_option maxRecDepth 100000
theorem ziV:entryFor table "dict.update.loop" = some Builtin.«dict.update.loop»:=entryFor_of_tree (by kernel_rfl)
theorem zeU:plainId "dict.update.loop" = true:=by decide +kernel
theorem zk2 {K:Type}[DecidableEq K]{kvs:List (K×Value)}{k:K}{v:Value}(h:k∉kvs.map (·.1)):stored kvs k v=kvs++[(k,v)]:=by
 unfold stored;rw[if_neg fun z=>?_];obtain ⟨kv,h1,h2⟩:=List.any_eq_true.mp z;exact h (yaF.mpr ⟨kv,h1,yaB h2⟩)
section
variable {prog:Program}{w:World}{A:Around}{R:Result→Shared→Prop}{I:Addr}{fp wr:List Addr}{G:Array GenState→Array GenState→Prop}{n:Nat}{P:Nat→Value→Prop}{St:Nat→Shared→Prop}
theorem zk7 {h0:Heap}(W:WalksS prog w A.in1 I fp wr G n P St)(d:Addr)(hdf:d∉fp)(res:Value)(kvs:List (Key×Value))(hn:n=kvs.length)(hnd:(kvs.map (·.1)).Nodup)
  (hP:∀ i v,P i v→∃ tp key k val,v=.ref tp∧tp≠d∧tp∉wr∧h0.IsTuple tp #[key,val]∧(zaL prog w).is k key=true∧kvs[i]?=some (k,val)) (hz:kvs.length≤sizeLine) :
  ∀(j i:Nat) (s:Shared) (tk:Tok),n - i=j→i≤n→St i s→(∀ b o,b≠d→b∉wr→h0.get? b=some o→s.heap.get? b=some o)→s.heap.DictOf (zaL prog w) d (kvs.take i)→
   (∀ s',Moved (d::wr) G s s'→s'.heap.DictOf (zaL prog w) d kvs→R (.ok (.ret res)) s')→codeAny (model prog w) A (.builtin "dict.update.loop" ⟨[.ref d,.ref I,.int i tk,res],[]⟩) R s:=by
 have hdw:d∉wr:=fun h=>hdf (W.sub _ h);have up:∀ b∈wr,b∈d::wr:=fun b hb=>yau _ hb;intro j
 induction j with
 | zero=>
  intro i s tk hj hi st hk hd q;have e:i=n:=by omega
  subst e;refine codeAny_builtin ziV ?_;rw[Around.under_plainId zeU _];show wpAny _ A.in1 (pyNext (.ref I) >>= _) _ _ s;refine wpAny_bind (W.done s _ _ st fun s' hm=>?_);refine wpAny_bind (?_:wpAny _ A.in1 (Builtin.Dict.addKeywords d []) _ _ s');refine wpAny_pure (wpAny_pure (q s' (hm.mono up) ?_));obtain ⟨o,es,ep,ho,r⟩:=hd;rw[hn,List.take_length]at r;exact ⟨o,es,ep,hm.heap d o hdw ho,r⟩
 | succ j ih=>
  intro i s tk hj hi st hk hd q;have hlt:i < n:=by omega
  refine codeAny_builtin ziV ?_;rw[Around.under_plainId zeU _];show wpAny _ A.in1 (pyNext (.ref I) >>= _) _ _ s;refine wpAny_bind (W.item i s _ _ hlt st fun v s' hPi st' hm=>?_);obtain ⟨tp,key,k,val,rfl,ntd,ntw,ht,hkey,hkv⟩:=hP i v hPi;obtain ⟨ot,o1,o2,nt,o3⟩:=ht;have g1:=hm.heap tp ot ntw (hk tp ot ntd ntw o1);have hd':s'.heap.DictOf (zaL prog w) d (kvs.take i):=by
   obtain ⟨o,es,ep,ho,r⟩:=hd;exact ⟨o,es,ep,hm.heap d o hdw ho,r⟩
  obtain ⟨hik,hek⟩:=yah.mp hkv;have hnew:k∉(kvs.take i).map (·.1):=fun z=>by
   rw[ybr]at z;obtain ⟨m,hm1,hm2⟩:=ycl.mp z;have h2:m < (kvs.map (·.1)).length:=by omega
   have h3:i < (kvs.map (·.1)).length:=by rw[yaa];exact hik
   have:=ya6.mp hnd m i h2 h3 (by omega);apply this;rw[hm2,List.getElem_map,hek]
  refine wpAny_bind (wpAny_holding (wpAny_bind (wpAny_tryCatch ?_)));unfold Builtin.Dict.pairItems;refine wpAny_bind (wpAny_typeOf (T := "tuple") ⟨_,g1,o2⟩ ?_);rw[if_pos (by decide)];unfold seqItems?;refine wpAny_bind (wpAny_bind (wpAny_load g1 ?_));rw[o3];refine wpAny_pure (wpAny_pure ?_);show wpAny _ A.in1 (holding [key,val] (dictSet d key val)) _ _ s';refine wpAny_holding (wpAny_dictSet_pairs hkey hd' (fun h' hd2 sb=>?_) (by rw[yao];omega));rw[zk2 hnew]at hd2;have tk1:kvs.take (i+1)=kvs.take i++[(k,val)]:=by
   rw[yaA hik,hek]
  rw[← tk1]at hd2;refine wpAny_pure ⟨plainId_quiet zeU _,ih (i+1) _ 0 (by omega) hlt (W.frame _ s' _ _ st' (yaX _) fun b hb o e=>?_) (fun b o n1 n2 e=>?_) hd2 fun s'' hm'' x3=>?_⟩
  ·rw[sb.2 b (fun h:b=d=>hdf (by rw[← h];exact hb))];exact e
  ·rw[sb.2 b n1];exact hm.heap b o n2 (hk b o n1 n2 e)
  ·refine q s'' (Moved.trans W.gtrans ((hm.mono up).then_heap (yaX _) fun b o hb e=>?_) hm'') x3;rw[sb.2 b (fun h:b=d=>hb (by rw[h];exact yav))];exact e
end
end DictP
namespace DictP
open PySem PySem.Spec PyProof.Rows L2
set_option autoImplicit false
set_option maxRecDepth 100000
section
variable {prog:Program}{w:World}{A:Around}{E:Value→Shared→Prop}{s:Shared}
theorem of_pairs {l:Addr}{items:Array Value}{nl:Nat}{sl:Array (Option Value)}{kvs:List (Key×Value)}{Q:Value→Shared→Prop}(hh:A.handled=none)(hl:s.heap.get? l=some { cls:=.type "list",dict:=none,data:=.seq items nl,slots:=sl })
  (hnd:(kvs.map (·.1)).Nodup) (hlen:items.size=kvs.length) (hz:kvs.length≤sizeLine)
  (hit:∀(i:Nat) v,items[i]?=some v→∃ tp key k val,v=.ref tp∧s.heap.IsTuple tp #[key,val]∧(zaL prog w).is k key=true∧kvs[i]?=some (k,val))
  (q:∀ h' tk,h'.DictOf (zaL prog w) s.heap.objs.size kvs→(∀ b o,s.heap.get? b=some o→h'.get? b=some o)→Q (.ref s.heap.objs.size) { s with heap:=h',toks:=tk }) :
  wpAny (model prog w) A (call (.type "dict") [.ref l]) Q E s:=by
 refine callType_codes (Q₁:=fun obj s₁=>obj=.ref s.heap.objs.size∧s₁={ s with heap:=s.heap.push { cls:=.type "dict",data:=.dict #[] } }) F.kt_called_dict (F.kt_typeCall_dict_1 _) F.entry_dict_init (kt_code_dict_new _ ⟨rfl,rfl⟩) ?_;rintro obj s₁ ⟨rfl,rfl⟩;have hnew:(s.heap.push { cls:=.type "dict",data:=.dict #[] }).DictOf (zaL prog w) s.heap.objs.size []:=Heap.DictOf.new s.heap;have hl1:=yam { cls:=.type "dict",data:=.dict #[] } hl;have hkp:∀ b o,s.heap.get? b=some o→(s.heap.push { cls:=.type "dict",data:=.dict #[] }).get? b=some o:=fun b o e=>yam _ e;have hds:s.heap.objs.size < (s.heap.push { cls:=.type "dict",data:=.dict #[] }).objs.size:=by
  rw[ybj];exact ybw _
 have hlS:l < s.heap.objs.size:=yaf hl;refine ⟨hnew.typeIs,F.args_dict_init_2 _ _,?_⟩;generalize s.heap.push { cls:=.type "dict",data:=.dict #[] }=h1 at hnew hl1 hkp hds ⊢;unfold Builtin.«dict.__init__»;refine wpAny_bind ?_;unfold Builtin.Dict.selfAndRest;refine wpAny_bind (wpAny_notOrdered_dict hnew.typeIs ?_);show wpAny _ _ (pure (s.heap.objs.size,[Value.ref l])) _ _ _;refine wpAny_pure ?_;show wpAny _ _ (Builtin.Dict.updateFrom "dict.__init__" s.heap.objs.size (.ref l) [] .none) _ _ _;unfold Builtin.Dict.updateFrom;refine wpAny_bind (wpAny_typeOf (T := "list") ⟨_,hl1,rfl⟩ ?_);rw[if_pos (by decide)];refine wpAny_bind (zm8 (A:=_) hh hl1 fun h2 t2 k2=>?_);rw[if_pos (show (none:Option Value).isNone=true from rfl)];refine wpAny_bind (wpAny_rule (wpAny_bind ?_));have hl2:=k2 _ _ hl1;have hL2:h2.IsList l items:=⟨_,hl2,rfl,nl,rfl⟩;refine wpAny_pyIter_list (s:=⟨h2,s.gens,s.drawn,t2,s.os⟩) hL2 ?_;refine wpAny_pure ⟨plainId_quiet zeU _,?_⟩;have hd2:h2.DictOf (zaL prog w) s.heap.objs.size []:=by
  obtain ⟨o,es,ep,ho,r⟩:=hnew;exact ⟨o,es,ep,k2 _ _ ho,r⟩
 have hdlt:s.heap.objs.size < h2.objs.size:=by
  obtain ⟨o,es,ep,ho,r⟩:=hd2;exact yaf ho
 have hne:l≠h2.objs.size:=yaq (Nat.lt_trans hlS hdlt);have h3:A.in1.in1.handled=none:=by simp[hh]
 refine zk7 (h0:=s.heap) ((Walks.list h3 _ l hne items).toS) s.heap.objs.size (fun z=>?_) .none kvs hlen hnd (fun i v hv=>?_) hz items.size 0 _ 0 (by omega) (yaC _) ⟨⟨_,yaD _ rfl,rfl,rfl⟩,hL2.push _⟩ (fun b o n1 n2 e=>yam _ (k2 _ _ (hkp _ _ e))) ?_ fun s' hm hd'=>?_
 ·simp only[yaj,yax,or_false]at z;rcases z with z | z
  ·exact absurd hdlt (by rw[← z];exact yaM _)
  ·exact absurd hlS (by rw[← z];exact yaM _)
 ·obtain ⟨tp,key,k,val,e1,e2,e3,e4⟩:=hit i v hv;have htp:tp < s.heap.objs.size:=by
   obtain ⟨ot,o1,_⟩:=e2;exact yaf o1
  refine ⟨tp,key,k,val,e1,yaq htp,fun z=>?_,e2,e3,e4⟩;rw[yap.mp z]at htp;exact absurd (Nat.lt_trans htp hdlt) (yaM _)
 ·rw[yb7];exact hd2.push _
 ·refine ⟨rfl,?_⟩;rw[Moved.eq_with hm];refine q s'.heap s'.toks hd' fun b o e=>hm.heap b o (fun z=>?_) (yam _ (k2 _ _ (hkp _ _ e)));have hb:=yaf e;simp only[yaj,yax,or_false]at z;rcases z with z | z
  ·rw[z]at hb;exact absurd hb (yaM _)
  ·rw[z]at hb;exact absurd (Nat.lt_trans hb hdlt) (yaM _)
end
end DictP
namespace L2
open PySem PySem.Spec PyProof.Rows
def zri (K:Frag):List V→Hp→VK→Prop:=fun xs H Q=>∃(p:Addr) (zs:List V) (kvs:List (Key×V)),xs=[.ref p]∧SqL K H p zs∧Paired (fun (z:V) (kv:Key×V)=>∃ b,z=.ref b∧H b=some (.tup [kV kv.1,kv.2])) zs kvs∧(kvs.map (·.1)).Nodup∧
 ∀ d,H d=none→Q (.ref d) (upd H d (.dK kvs))
section
variable {X:Cx}
theorem zkr {pins:List (Addr×Obj)}{σ:St}{H:Hp}{s:Shared}(I:Inv X pins σ H s):∀{zs:List V} {kvs:List (Key×V)} {us:List Value},Paired (fun (z:V) (kv:Key×V)=>∃ b,z=.ref b∧H b=some (.tup [kV kv.1,kv.2])) zs kvs→Vals zs us→
  ∃ ks:List (Key×Value),KV kvs ks∧∀(i:Nat) v,us[i]?=some v→∃ tp key k val,v=.ref tp∧s.heap.IsTuple tp #[key,val]∧(zaL X.prog X.w).is k key=true∧ks[i]?=some (k,val)
 | _,_,_,.nil,.nil=>⟨[],.nil,fun i v h=>by simp at h⟩
 | _::_,kv::_,_::_,.cons ⟨b,e1,e2⟩ t,.cons r q=>by
  subst e1;obtain ⟨ks,h1,h2⟩:=zkr I t q;cases r
  obtain ⟨its,rv,p,_⟩:=I.tuple (SqT.of e2);cases rv with
  | cons r1 rv=>
   cases rv with
   | cons r2 rv=>
    cases rv
    refine ⟨(kv.1,_)::ks,.cons ⟨rfl,r2⟩ h1,fun i v hv=>?_⟩;cases i with
    | zero=>
     simp only[List.getElem?_cons_zero,Option.some.injEq]at hv;subst hv;exact ⟨b,_,kv.1,_,rfl,p,zjz r1,rfl⟩
    | succ i=>
     rw[ycm]at hv ⊢;exact h2 i v hv
theorem zm4:∀{kvs:List (Key×V)} {ks:List (Key×Value)},KV kvs ks→ks.map (·.1)=kvs.map (·.1)
 | _,_,.nil=>rfl
 | _,_,.cons r t=>by
  rw[yaw,yaw,zm4 t,r.1]
theorem zlI (hc:X.calm=true):ze8 X (.type "dict") (zri X.K):=by
 intro pins s σ H xs us Q I r h;obtain ⟨p,zs,kvs,rfl,hq,hp,hn,q⟩:=h;obtain ⟨u,rfl,rx⟩:=zhr r;cases rx
 obtain ⟨its,rv,pl,hz⟩:=I.list hq;obtain ⟨ks,hk,hit⟩:=zkr I hp rv;have l1:=Paired.length hp;have l2:=rv.length;have l3:=Paired.length hk;obtain ⟨⟨oc,od,oda,osl⟩,n,e,e1,e2,e3⟩:=pl;simp only at e1 e2 e3;subst e1 e2 e3;refine DictP.of_pairs (kvs:=ks) (I.ok.hd hc) e (by rw[zm4 hk];exact hn) (by rw[yaz];omega) (by omega) (fun i v hv=>hit i v (by simpa using hv)) fun h' tk hd k=>?_;exact ⟨.ref s.heap.objs.size,_,I.laid (a:=s.heap.objs.size) (o:=.dK kvs) (t':=tk) k (yab _) ⟨by omega,beq_eq_false_iff_ne.mpr (Ne.symm (yaq I.big)),ks,hk,hd⟩,rfl,q _ (I.hok.fresh (yab _))⟩
end
end L2
namespace L2
open PySem PySem.Spec PyProof.Rows
section
variable {X:Cx}
theorem zrt (hu:X.A.units+1 < cLine):OpR X (compareOp .In) (fun x y H Q=>∃ a o,y=.ref a∧DGet H a x o∧Q (.bl o.isSome) H):=by
 intro pins s σ H x y v u Q I rx ry h;obtain ⟨a,o,rfl,g,q⟩:=h;cases ry
 exact d_in hu I g rx fun s' I'=>⟨.bl _,H,I',rfl,q⟩
end
end L2
namespace Kas
open PySem PySem.W PyProof.Rows
def run {α:Type}(f:Nat→Nat→Bool):KasT α→α
 | .ret a=>a
 | .ask i j k=>run f (k (f i j))
theorem zdQ {α β:Type}(f:Nat→Nat→Bool)(g:α→KasT β):∀ t:KasT α,run f (t.bind g)=run f (g (run f t))
 | .ret _=>rfl
 | .ask i j k=>zdQ f g (k (f i j))
def Res {α:Type}(n:Nat)(P:α→Prop):KasT α→Prop
 | .ret a=>P a
 | .ask i j k=>i < n∧j < n∧∀ b,Res n P (k b)
theorem Res.bind {α β:Type}{n:Nat}{P:α→Prop}{P':β→Prop}{g:α→KasT β}(h2:∀ a,P a→Res n P' (g a)):∀{t:KasT α},Res n P t→Res n P' (t.bind g)
 | .ret a,h=>h2 a h
 | .ask _ _ _,h=>⟨h.1,h.2.1,fun b=>Res.bind h2 (h.2.2 b)⟩
theorem Res.run {α:Type}{n:Nat}{P:α→Prop}(f:Nat→Nat→Bool):∀{t:KasT α},Res n P t→P (Kas.run f t)
 | .ret _,h=>h
 | .ask i j k,h=>Res.run (t:=k (f i j)) f (h.2.2 (f i j))
theorem wp_of {α:Type}{n:Nat}{P:α→Prop}{f:Nat→Nat→Bool}{cmp:Nat→Nat→(Bool→Shared→Prop)→Shared→Prop}{Q:α→Shared→Prop}{s:Shared}(hc:∀ i j C,i < n→j < n→C (f i j) s→cmp i j C s):∀{t:KasT α},Res n P t→Q (Kas.run f t) s→t.kasWp cmp Q s
 | .ret _,_,q=>q
 | .ask i j _,h,q=>hc i j _ h.1 h.2.1 (wp_of hc (h.2.2 (f i j)) q)
def Good (n:Nat)(p:Array Nat):Prop:=p.Perm (List.range n).toArray
theorem Good.size {n:Nat}{p:Array Nat}(h:Good n p):p.size=n:=by
 have:=h.size_eq;simpa using this
theorem Good.lt {n:Nat}{p:Array Nat}(h:Good n p)(hn:0 < n)(k:Nat):p.getD k 0 < n:=by
 by_cases c:k < p.size
 ·have e:p.getD k 0=p[k]:=by simp[Array.getD,c]
  rw[e];have hm:p[k]∈(List.range n).toArray:=h.mem_iff.mp (Array.getElem_mem c);simpa using hm
 ·have e:p.getD k 0=0:=by simp[Array.getD,c]
  rw[e];exact hn
theorem Good.rev {n:Nat}{p:Array Nat}(h:Good n p)(i j:Nat):Good n (kas_rev p i j):=(mirror_perm p i j _).trans h
theorem Good.bub {n:Nat}{p:Array Nat}(h:Good n p)(i j:Nat):Good n (bubble p i j):=(bubble_perm p i j).trans h
section
variable {n:Nat}(hn:0 < n)
include hn
theorem zjQ {p:Array Nat}(h:Good n p):∀(f m:Nat),Res n (fun _=>True) (kas_asc p f m)
 | 0,_=>trivial
 | f+1,m=>⟨h.lt hn _,h.lt hn _,fun b=>by
  cases b with
  | true=>exact trivial
  | false=>exact zjQ h f (m+1)⟩
theorem zf6:∀(f:Nat) {p:Array Nat} (m q:Nat),Good n p→Res n (fun r:Array Nat×Nat×Nat=>Good n r.1) (kas_desc f p m q)
 | 0,_,_,_,h=>h
 | f+1,p,m,q,h=>⟨h.lt hn _,h.lt hn _,fun b=>by
  cases b with
  | true=>
   show Res n _ (if q > 0 then kas_desc f (kas_rev p (m - (q+1)) m) (m+1) 0 else kas_desc f p (m+1) 0)
   split
   ·exact zf6 f _ _ (h.rev _ _)
   ·exact zf6 f _ _ h
  | false=>
   refine ⟨h.lt hn _,h.lt hn _,fun c=>?_⟩;cases c with
   | true=>exact h
   | false=>exact zf6 f _ _ h⟩
theorem zjW {p:Array Nat}(h:Good n p)(m r:Nat):Res n (fun x:Nat×Array Nat=>Good n x.2) (kas_tail3 m r p):=by
 refine Res.bind (fun a _=>?_) (zjQ hn (h.rev 0 m) (r - m) m);exact h.rev _ _
theorem zfx {p:Array Nat}(h:Good n p)(m r:Nat):Res n (fun x:Nat×Array Nat=>Good n x.2) (kas_descPart m r p):=by
 refine Res.bind (fun a ha=>?_) (zf6 hn _ _ _ h);show Res n _ (if a.2.2 > 0 then _ else _)
 split
 ·exact zjW hn (Good.rev ha _ _) _ _
 ·exact zjW hn ha _ _
theorem ziX {p:Array Nat}(h:Good n p)(r:Nat):Res n (fun x:Nat×Array Nat=>Good n x.2) (kas_count r p):=by
 refine Res.bind (fun a _=>?_) (zjQ hn h _ _);show Res n _ (if (a == r)=true then _ else if a > 1 then _ else _)
 split
 ·exact h
 ·split
  ·refine ⟨h.lt hn _,h.lt hn _,fun b=>?_⟩;cases b with
   | true=>exact h
   | false=>exact zfx hn (h.rev _ _) _ _
  ·exact zfx hn h _ _
theorem zgf {p:Array Nat}(h:Good n p)(k:Nat):∀(f l r:Nat),Res n (fun _=>True) (kas_place p k f l r)
 | 0,_,_=>trivial
 | f+1,l,r=>by
  show Res n _ (if l ≥ r then _ else _)
  split
  ·exact trivial
  ·refine ⟨h.lt hn _,h.lt hn _,fun b=>?_⟩;cases b with
   | true=>exact zgf h k f _ _
   | false=>exact zgf h k f _ _
theorem znJ:∀(f:Nat) {p:Array Nat} (k:Nat),Good n p→Res n (Good n) (kas_bin f p k)
 | 0,_,_,h=>h
 | f+1,_,k,h=>Res.bind (fun _ _=>znJ f _ (h.bub _ _)) (zgf hn h k _ _ _)
theorem sort_res:Res n (Good n) (kas_sort n):=by
 refine Res.bind (fun a ha=>?_) (ziX hn (p:=(List.range n).toArray) (Array.Perm.refl _) n);show Res n _ (if a.1 < n then _ else _)
 split
 ·exact znJ hn _ _ ha
 ·exact ha
end
structure Ord (f:Nat→Nat→Bool):Prop where
 irr:∀ a,f a a=false
 tr:∀ a b c,f a b=true→f b c=true→f a c=true
 neg:∀ a b c,f a c=true→f a b=true∨f b c=true
def Up (f:Nat→Nat→Bool)(p:Array Nat)(k:Nat):Prop:=∀ i j,i < j→j < k→f (p.getD j 0) (p.getD i 0)=false
def Down (f:Nat→Nat→Bool)(p:Array Nat)(k:Nat):Prop:=∀ i j,i < j→j < k→f (p.getD i 0) (p.getD j 0)=false
section
variable {f:Nat→Nat→Bool}(O:Ord f)
include O
theorem not_lt {a b c:Nat}(h1:f a b=false)(h2:f b c=false):f a c=false:=by
 cases e:f a c with
 | false=>rfl
 | true=>
  rcases O.neg a b c e with z | z
  ·rw[h1]at z;cases z
  ·rw[h2]at z;cases z
theorem asym {a b:Nat}(h:f a b=true):f b a=false:=by
 cases e:f b a with
 | false=>rfl
 | true=>
  have:=O.tr a b a h e;rw[O.irr]at this;cases this
theorem zpK {p:Array Nat}{m:Nat}(h1:1≤m)(h:Up f p m)(e:f (p.getD m 0) (p.getD (m - 1) 0)=false):Up f p (m+1):=fun i j hij hj=>by
 by_cases c:j < m
 ·exact h i j hij c
 ·have:j=m:=by omega
  subst this;by_cases ci:i=j - 1
  ·rw[ci];exact e
  ·exact not_lt O e (h i (j - 1) (by omega) (by omega))
theorem zjP {p:Array Nat}:∀(fu m:Nat),1≤m→Up f p m→Up f p (run f (kas_asc p fu m))∧m≤run f (kas_asc p fu m)∧run f (kas_asc p fu m)≤m+fu∧(run f (kas_asc p fu m) < m+fu→f (p.getD (run f (kas_asc p fu m)) 0) (p.getD (run f (kas_asc p fu m) - 1) 0)=true)
 | 0,m,_,h=>⟨h,yab _,yab _,fun z=>absurd z (by show ¬ m < m+0;omega)⟩
 | fu+1,m,h1,h=>by
  have step:run f (kas_asc p (fu+1) m)=if f (p.getD m 0) (p.getD (m - 1) 0)=true then m else run f (kas_asc p fu (m+1)):=by
   show run f (if f (p.getD m 0) (p.getD (m - 1) 0)=true then .ret m else kas_asc p fu (m+1))=_
   split <;> rfl
  rw[step];cases e:f (p.getD m 0) (p.getD (m - 1) 0) with
  | true=>exact ⟨h,yab _,by rw[if_pos rfl];omega,fun _=>e⟩
  | false=>
   rw[if_neg (by decide)];obtain ⟨a1,a2,a3,a4⟩:=zjP fu (m+1) (by omega) (zpK O h1 h e);exact ⟨a1,by omega,by omega,fun z=>a4 (by omega)⟩
theorem zge {p:Array Nat}{k:Nat}(h:Up f p k):∀(fu l r:Nat),l≤r→r≤k→r - l≤fu→(∀ i,i < l→f (p.getD k 0) (p.getD i 0)=false)→(∀ i,r≤i→i < k→f (p.getD k 0) (p.getD i 0)=true)→
  run f (kas_place p k fu l r)≤k∧(∀ i,i < run f (kas_place p k fu l r)→f (p.getD k 0) (p.getD i 0)=false)∧(∀ i,run f (kas_place p k fu l r)≤i→i < k→f (p.getD k 0) (p.getD i 0)=true)
 | 0,l,r,h1,h2,h3,h4,h5=>⟨by show l≤k;omega,h4,fun i hi=>h5 i (by have:l≤i:=hi;omega)⟩
 | fu+1,l,r,h1,h2,h3,h4,h5=>by
  by_cases c:l ≥ r
  ·have e:run f (kas_place p k (fu+1) l r)=l:=by
    show run f (if l ≥ r then _ else _)=l
    rw[if_pos c];rfl
   rw[e];exact ⟨by omega,h4,fun i hi=>h5 i (by omega)⟩
  ·have e:run f (kas_place p k (fu+1) l r)=if f (p.getD k 0) (p.getD ((l+r) / 2) 0)=true then run f (kas_place p k fu l ((l+r) / 2)) else run f (kas_place p k fu ((l+r) / 2+1) r):=by
    show run f (if l ≥ r then _ else _)=_
    rw[if_neg c];show run f (if f (p.getD k 0) (p.getD ((l+r) / 2) 0)=true then _ else _)=_
    split <;> rfl
   rw[e];cases e2:f (p.getD k 0) (p.getD ((l+r) / 2) 0) with
   | true=>
    rw[if_pos rfl];refine zge h fu l _ (by omega) (by omega) (by omega) h4 fun i hi hk=>?_;by_cases ci:i=(l+r) / 2
    ·rw[ci];exact e2
    ·rcases O.neg _ (p.getD i 0) _ e2 with z | z
     ·exact z
     ·rw[h _ i (by omega) hk]at z;cases z
   | false=>
    rw[if_neg (by decide)];refine zge h fu _ r (by omega) h2 (by omega) (fun i hi=>?_) h5;by_cases ci:i=(l+r) / 2
    ·rw[ci];exact e2
    ·exact not_lt O e2 (h i _ (by omega) (by omega))
omit O in
theorem gd (q:Array Nat)(x:Nat):q.getD x 0=(q[x]?).getD 0:=by
 by_cases h:x < q.size
 ·simp[Array.getD,h]
 ·simp[Array.getD,h]
omit O in
theorem znp {p:Array Nat}{k d:Nat}(hk:k < p.size)(hd:d≤k)(j:Nat):(bubble p k d).getD j 0=if j=k - d then p.getD k 0 else if k - d < j∧j≤k then p.getD (j - 1) 0 else p.getD j 0:=by
 rw[gd,getElem?_bubble hk d hd j,gd p k,gd p (j - 1),gd p j];split
 ·rfl
 ·split <;> rfl
theorem zr0 {p:Array Nat}{k l:Nat}(hk:k < p.size)(h:Up f p k)(hl:l≤k)(h1:∀ i,i < l→f (p.getD k 0) (p.getD i 0)=false)(h2:∀ i,l≤i→i < k→f (p.getD k 0) (p.getD i 0)=true):Up f (bubble p k (k - l)) (k+1):=fun i j hij hj=>by
 rw[znp hk (by omega),znp hk (by omega),show k - (k - l)=l by omega];by_cases cj:j=l
 ·rw[if_pos cj,if_neg (by omega),if_neg (by omega)];exact h1 i (by omega)
 ·rw[if_neg cj];by_cases cj2:l < j∧j≤k
  ·rw[if_pos cj2];by_cases ci:i=l
   ·rw[if_pos ci];exact asym O (h2 (j - 1) (by omega) (by omega))
   ·rw[if_neg ci];by_cases ci2:l < i∧i≤k
    ·rw[if_pos ci2];exact h (i - 1) (j - 1) (by omega) (by omega)
    ·rw[if_neg ci2];exact h i (j - 1) (by omega) (by omega)
  ·rw[if_neg cj2,if_neg (by omega),if_neg (by omega)];exact h i j hij (by omega)
theorem znI:∀(fu:Nat) {p:Array Nat} (k:Nat),k+fu≤p.size→Up f p k→Up f (run f (kas_bin fu p k)) (k+fu)
 | 0,_,_,_,h=>h
 | fu+1,p,k,hz,h=>by
  have e:run f (kas_bin (fu+1) p k)=run f (kas_bin fu (bubble p k (k - run f (kas_place p k k 0 k))) (k+1)):=zdQ f _ _;rw[e];obtain ⟨a1,a2,a3⟩:=zge O h k 0 k (yaC _) (yab _) (by omega) (fun i hi=>absurd hi (ybD _)) (fun i hi hk=>absurd hk (by omega));have:=znI fu (k+1) (by rw[bubble_size];omega) (zr0 O (by omega) h a1 a2 a3);rw[show k+(fu+1)=k+1+fu by omega];exact this
omit O in
theorem zdF {p:Array Nat}{i j:Nat}(hj:j≤p.size)(k:Nat):(kas_rev p i j).getD k 0=if i≤k∧k < j then p.getD (i+j - 1 - k) 0 else p.getD k 0:=by
 unfold kas_rev;rw[gd,getElem?_mirror_all hj k,gd p (i+j - 1 - k),gd p k];split <;> rfl
omit O in
theorem zfP (p:Array Nat)(i j:Nat):(kas_rev p i j).size=p.size:=mirror_size _ _ _ _
omit O in
theorem zrf {p:Array Nat}{m:Nat}(hm:m≤p.size)(h:Down f p m):Up f (kas_rev p 0 m) m:=fun i j hij hj=>by
 rw[zdF hm,zdF hm,if_pos (by omega),if_pos (by omega)];exact h _ _ (by omega) (by omega)
def znS (f:Nat→Nat→Bool)(p:Array Nat)(m q:Nat):Prop:=∀ i j,m - (q+1)≤i→i < m→m - (q+1)≤j→j < m→f (p.getD i 0) (p.getD j 0)=false
omit O in
theorem zkh {p:Array Nat}{m q:Nat}(hm:m≤p.size)(hq:q+1≤m)(h:Down f p m)(hA:znS f p m q):Down f (kas_rev p (m - (q+1)) m) m:=fun i j hij hj=>by
 rw[zdF hm,zdF hm];by_cases ci:m - (q+1)≤i∧i < m
 ·rw[if_pos ci,if_pos (by omega)];exact hA _ _ (by omega) (by omega) (by omega) (by omega)
 ·rw[if_neg ci];split
  ·exact h _ _ (by omega) (by omega)
  ·exact h _ _ (by omega) (by omega)
theorem zgy {p:Array Nat}{m:Nat}(h1:1≤m)(h:Down f p m)(e:f (p.getD (m - 1) 0) (p.getD m 0)=false):Down f p (m+1):=fun i j hij hj=>by
 by_cases c:j < m
 ·exact h i j hij c
 ·have:j=m:=by omega
  subst this;by_cases ci:i=j - 1
  ·rw[ci];exact e
  ·exact not_lt O (h i (j - 1) (by omega) (by omega)) e
theorem zf5:∀(fu:Nat) {p:Array Nat} (m q:Nat),q+1≤m→m+fu≤p.size→Down f p m→znS f p m q→
  m≤(run f (kas_desc fu p m q)).2.1∧(run f (kas_desc fu p m q)).2.1≤m+fu∧(run f (kas_desc fu p m q)).2.2+1≤(run f (kas_desc fu p m q)).2.1∧(run f (kas_desc fu p m q)).1.size=p.size∧Down f (run f (kas_desc fu p m q)).1 (run f (kas_desc fu p m q)).2.1∧znS f (run f (kas_desc fu p m q)).1 (run f (kas_desc fu p m q)).2.1 (run f (kas_desc fu p m q)).2.2
 | 0,p,m,q,hq,hz,h,hA=>⟨yab _,yab _,hq,rfl,h,hA⟩
 | fu+1,p,m,q,hq,hz,h,hA=>by
  have one:∀{p':Array Nat},znS f p' (m+1) 0:=fun {p'} i j a b c d=>by
   have:i=j:=by omega
   subst this;exact O.irr _
  cases e:f (p.getD m 0) (p.getD (m - 1) 0) with
  | true=>
   have st:run f (kas_desc (fu+1) p m q)=run f (if q > 0 then kas_desc fu (kas_rev p (m - (q+1)) m) (m+1) 0 else kas_desc fu p (m+1) 0):=by
    show run f (if f (p.getD m 0) (p.getD (m - 1) 0)=true then _ else _)=_
    rw[e,if_pos rfl]
   rw[st];by_cases cq:q > 0
   ·rw[if_pos cq];have hD:=zkh (by omega) hq h hA;have hl:f ((kas_rev p (m - (q+1)) m).getD (m - 1) 0) ((kas_rev p (m - (q+1)) m).getD m 0)=false:=by
     rw[zdF (by omega),zdF (by omega),if_pos (by omega),if_neg (by omega)];exact not_lt O (hA _ (m - 1) (by omega) (by omega) (by omega) (by omega)) (asym O e)
    obtain ⟨b1,b2,b3,b4,b5,b6⟩:=zf5 fu (p:=kas_rev p (m - (q+1)) m) (m+1) 0 (by omega) (by rw[zfP];omega) (zgy O (by omega) hD hl) one;exact ⟨by omega,by omega,b3,by rw[b4,zfP],b5,b6⟩
   ·rw[if_neg cq];obtain ⟨b1,b2,b3,b4,b5,b6⟩:=zf5 fu (p:=p) (m+1) 0 (by omega) (by omega) (zgy O (by omega) h (asym O e)) one;exact ⟨by omega,by omega,b3,b4,b5,b6⟩
  | false=>
   have st:run f (kas_desc (fu+1) p m q)=if f (p.getD (m - 1) 0) (p.getD m 0)=true then (p,m,q) else run f (kas_desc fu p (m+1) (q+1)):=by
    show run f (if f (p.getD m 0) (p.getD (m - 1) 0)=true then _ else _)=_
    rw[e,if_neg (by decide)];show run f (if f (p.getD (m - 1) 0) (p.getD m 0)=true then _ else _)=_
    split <;> rfl
   rw[st];cases e2:f (p.getD (m - 1) 0) (p.getD m 0) with
   | true=>
    rw[if_pos rfl];exact ⟨yab _,by show m≤_;omega,hq,rfl,h,hA⟩
   | false=>
    rw[if_neg (by decide)];have hA2:znS f p (m+1) (q+1):=fun i j a b c d=>by
     by_cases ci:i=m
     ·by_cases cj:j=m
      ·rw[ci,cj];exact O.irr _
      ·rw[ci];exact not_lt O e (hA (m - 1) j (by omega) (by omega) (by omega) (by omega))
     ·by_cases cj:j=m
      ·rw[cj];exact not_lt O (hA i (m - 1) (by omega) (by omega) (by omega) (by omega)) e2
      ·exact hA i j (by omega) (by omega) (by omega) (by omega)
    obtain ⟨b1,b2,b3,b4,b5,b6⟩:=zf5 fu (p:=p) (m+1) (q+1) (by omega) (by omega) (zgy O (by omega) h e2) hA2;exact ⟨by omega,by omega,b3,b4,b5,b6⟩
theorem zjV {p:Array Nat}{m r:Nat}(h1:1≤m)(hm:m≤r)(hr:r≤p.size)(h:Down f p m):m≤(run f (kas_tail3 m r p)).1∧(run f (kas_tail3 m r p)).1≤r∧Up f (run f (kas_tail3 m r p)).2 (run f (kas_tail3 m r p)).1:=by
 have e:run f (kas_tail3 m r p)=(run f (kas_asc (kas_rev p 0 m) (r - m) m),kas_rev p 0 m):=zdQ f _ _;rw[e];obtain ⟨a1,a2,a3,_⟩:=zjP O (p:=kas_rev p 0 m) (r - m) m h1 (zrf (by omega) h);exact ⟨a2,by show run f _≤r;omega,a1⟩
theorem zfw {p:Array Nat}{m r:Nat}(h1:1≤m)(hm:m+1≤r)(hr:r≤p.size)(h:Down f p (m+1)):1≤(run f (kas_descPart m r p)).1∧(run f (kas_descPart m r p)).1≤r∧Up f (run f (kas_descPart m r p)).2 (run f (kas_descPart m r p)).1:=by
 have e:run f (kas_descPart m r p)=run f (if (run f (kas_desc (r - (m+1)) p (m+1) 0)).2.2 > 0 then kas_tail3 (run f (kas_desc (r - (m+1)) p (m+1) 0)).2.1 r (kas_rev (run f (kas_desc (r - (m+1)) p (m+1) 0)).1 ((run f (kas_desc (r - (m+1)) p (m+1) 0)).2.1 - ((run f (kas_desc (r - (m+1)) p (m+1) 0)).2.2+1)) (run f (kas_desc (r - (m+1)) p (m+1) 0)).2.1) else kas_tail3 (run f (kas_desc (r - (m+1)) p (m+1) 0)).2.1 r (run f (kas_desc (r - (m+1)) p (m+1) 0)).1):=zdQ f _ _
 rw[e];obtain ⟨b1,b2,b3,b4,b5,b6⟩:=zf5 O (r - (m+1)) (p:=p) (m+1) 0 (by omega) (by omega) h (fun i j a b c d=>by
  have:i=j:=by omega
  subst this;exact O.irr _)
 generalize run f (kas_desc (r - (m+1)) p (m+1) 0)=t at b1 b2 b3 b4 b5 b6;split
 ·obtain ⟨c1,c2,c3⟩:=zjV O (p:=kas_rev t.1 (t.2.1 - (t.2.2+1)) t.2.1) (m:=t.2.1) (r:=r) (by omega) (by omega) (by rw[zfP,b4];exact hr) (zkh (by rw[b4];omega) b3 b5 b6);exact ⟨by omega,c2,c3⟩
 ·obtain ⟨c1,c2,c3⟩:=zjV O (p:=t.1) (m:=t.2.1) (r:=r) (by omega) (by omega) (by rw[b4];exact hr) b5;exact ⟨by omega,c2,c3⟩
theorem znA {p:Array Nat}{r:Nat}(h1:1≤r)(hr:r≤p.size):1≤(run f (kas_count r p)).1∧(run f (kas_count r p)).1≤r∧Up f (run f (kas_count r p)).2 (run f (kas_count r p)).1:=by
 obtain ⟨a1,a2,a3,a4⟩:=zjP O (p:=p) (r - 1) 1 (yab _) (fun i j hij hj=>absurd hj (by omega));have e:run f (kas_count r p)=run f (if (run f (kas_asc p (r - 1) 1) == r)=true then .ret (run f (kas_asc p (r - 1) 1),p) else if run f (kas_asc p (r - 1) 1) > 1 then .ask (p.getD 0 0) (p.getD (run f (kas_asc p (r - 1) 1) - 1) 0) fun c=>if c=true then .ret (run f (kas_asc p (r - 1) 1),p) else kas_descPart (run f (kas_asc p (r - 1) 1)) r (kas_rev p 0 (run f (kas_asc p (r - 1) 1))) else kas_descPart (run f (kas_asc p (r - 1) 1)) r p):=zdQ f _ _
 rw[e];generalize run f (kas_asc p (r - 1) 1)=m at a1 a2 a3 a4;by_cases c:m=r
 ·subst c;rw[if_pos (by simp)];exact ⟨a2,yab _,a1⟩
 ·rw[if_neg (by simpa using c)];have hlt:=a4 (by omega);by_cases c1:m > 1
  ·rw[if_pos c1];cases e2:f (p.getD 0 0) (p.getD (m - 1) 0) with
   | true=>
    have st:run f (.ask (p.getD 0 0) (p.getD (m - 1) 0) fun c=>if c=true then .ret (m,p) else kas_descPart m r (kas_rev p 0 m))=(m,p):=by
     show run f (if f (p.getD 0 0) (p.getD (m - 1) 0)=true then _ else _)=_
     rw[e2,if_pos rfl];rfl
    rw[st];exact ⟨a2,by show m≤r;omega,a1⟩
   | false=>
    have st:run f (.ask (p.getD 0 0) (p.getD (m - 1) 0) fun c=>if c=true then .ret (m,p) else kas_descPart m r (kas_rev p 0 m))=run f (kas_descPart m r (kas_rev p 0 m)):=by
     show run f (if f (p.getD 0 0) (p.getD (m - 1) 0)=true then _ else _)=_
     rw[e2,if_neg (by decide)]
    rw[st];have low:∀ i,i < m→f (p.getD i 0) (p.getD 0 0)=false:=fun i hi=>by
     by_cases ci:i=0
     ·rw[ci];exact O.irr _
     ·exact a1 0 i (by omega) hi
    have high:∀ j,j < m→f (p.getD (m - 1) 0) (p.getD j 0)=false:=fun j hj=>by
     by_cases cj:j=m - 1
     ·rw[cj];exact O.irr _
     ·exact a1 j (m - 1) (by omega) (by omega)
    have all:∀ i j,i < m→j < m→f (p.getD i 0) (p.getD j 0)=false:=fun i j hi hj=>not_lt O (low i hi) (not_lt O e2 (high j hj));refine zfw O a2 (by omega) (by rw[zfP];exact hr) fun i j hij hj=>?_;rw[zdF (by omega),zdF (by omega),if_pos (by omega)];by_cases cj:j < m
    ·rw[if_pos (by omega)];exact all _ _ (by omega) (by omega)
    ·rw[if_neg (by omega),show j=m by omega];exact not_lt O (all _ (m - 1) (by omega) (by omega)) (asym O hlt)
  ·rw[if_neg c1];have hm1:m=1:=by omega
   subst hm1;refine zfw O (yab _) (by omega) hr fun i j hij hj=>?_;rw[show i=0 by omega,show j=1 by omega];exact asym O hlt
theorem sort_run {n:Nat}(hn:0 < n):Up f (run f (kas_sort n)) n∧Good n (run f (kas_sort n)):=by
 refine ⟨?_,(sort_res hn).run f⟩;obtain ⟨a1,a2,a3⟩:=znA O (p:=(List.range n).toArray) (r:=n) hn (by simp);have g:=(ziX hn (p:=(List.range n).toArray) (Array.Perm.refl _) n).run f;have e:run f (kas_sort n)=run f (if (run f (kas_count n (List.range n).toArray)).1 < n then kas_bin (n - max (run f (kas_count n (List.range n).toArray)).1 1) (run f (kas_count n (List.range n).toArray)).2 (max (run f (kas_count n (List.range n).toArray)).1 1) else .ret (run f (kas_count n (List.range n).toArray)).2):=zdQ f _ _
 rw[e];generalize run f (kas_count n (List.range n).toArray)=t at a1 a2 a3 g;have hs:=Good.size g;rw[Nat.max_eq_left a1];split
 ·have:=znI O (n - t.1) (p:=t.2) t.1 (by omega) a3;rw[show t.1+(n - t.1)=n by omega]at this;exact this
 ·show Up f t.2 n;rw[show n=t.1 by omega];exact a3
end
end Kas
namespace Tim
open PySem PySem.W PyProof.Rows
set_option autoImplicit false
section
variable {prog:Program}{w:World}{A:Around}{E:Value→Shared→Prop}{s:Shared}{κ:KeyKind}{kd:SortKind}
theorem zlM {vs:List Value}(keys:∀ v∈vs,∃ k,κ.keyOf v=some k)(hO:LtG prog w A s κ kd)(h2:2≤vs.length)(h64:vs.length < 64) :
  wpAny (model prog w) A (sortRuns'.run (SortSt.mk' kd (vs.toArray.zip vs.toArray) #[] 7 none)) (fun r s'=>s'=s∧(arrOf r.2).Perm (pairsOf vs)∧failedOf r.2=none∧Up κ (arrOf r.2) 0 (pairsOf vs).size) E s:=by
 obtain ⟨f,hf⟩:∃ f:Nat→Nat→Bool,f=fun i j=>κ.blt (keyV κ (vs.getD i .none)) (keyV κ (vs.getD j .none)):=⟨_,rfl⟩;have O:Kas.Ord f:=by
  subst hf;exact ⟨fun a=>κ.irrefl _,fun a b c=>κ.trans _ _ _,fun a b c=>κ.negTrans _ _ _⟩
 have hn:0 < vs.length:=by omega
 have hk:∀ i,i < vs.length→κ.keyOf (vs.getD i .none)=some (keyV κ (vs.getD i .none)):=fun i hi=>by
  have e:vs.getD i .none=vs[i]:=by rw[yad,yac hi];rfl
  obtain ⟨k,hk⟩:=keys _ (yaG hi);rw[e];unfold keyV;rw[hk];rfl
 refine kat_run (ks:=vs) rfl h2 h64 (Q:=fun st' s'=>s'=s∧(arrOf st').Perm (pairsOf vs)∧failedOf st'=none∧Up κ (arrOf st') 0 (pairsOf vs).size) (G:=fun p s'=>s'=s∧Kas.Up f p vs.length∧Kas.Good vs.length p) (fun p st' s' hp har hfl hG=>⟨hG.1,?_,hfl,?_⟩) (Kas.wp_of (n:=vs.length) (f:=f) (fun i j C hi hj hC=>?_) (Kas.sort_res hn) ⟨rfl,Kas.sort_run O hn⟩)
 ·rw[har];have hm:(p.map (kas_item (vs.toArray.zip vs.toArray))).Perm ((List.range vs.length).toArray.map (kas_item (vs.toArray.zip vs.toArray))):=by
   have h1:=(yci.mp hG.2.2).map (kas_item (vs.toArray.zip vs.toArray));refine yci.mpr ?_;rw[Array.toList_map,Array.toList_map];exact h1
  have hr:=kas_range (vs.toArray.zip vs.toArray);rw[show (vs.toArray.zip vs.toArray).size=vs.length by simp]at hr;rw[hr]at hm;exact hm
 ·intro i j _ hij hj;rw[pairsOf_size]at hj;have hat:∀ x,x < vs.length→kAt κ (arrOf st') x=keyV κ (vs.getD (p.getD x 0) .none):=fun x hx=>by
   have hxp:x < p.size:=by omega
   rw[zjA (by rw[har,Array.size_map];exact hxp)];have e:(arrOf st')[x]'(by rw[har,Array.size_map];exact hxp)=(vs.getD (p.getD x 0) .none,vs.getD (p.getD x 0) .none):=by
    have e1:(arrOf st')[x]?=some (kas_item (vs.toArray.zip vs.toArray) (p.getD x 0)):=by
     rw[har,Array.getElem?_map,Array.getElem?_eq_getElem hxp];show some (kas_item _ p[x])=_;have:p.getD x 0=p[x]:=by simp[Array.getD,hxp]
     rw[this]
    rw[kat_item rfl]at e1;exact (Array.getElem?_eq_some_iff.mp e1).2
   rw[e];rfl
  rw[hat i (by omega),hat j hj];by_cases c:i=j
  ·subst c;exact KeyOrd.kle_refl _
  ·have:=hG.2.1 i j (by omega) hj;subst hf;exact this
 ·unfold kas_ask;subst hf;exact hO _ _ _ _ _ _ (hk i hi) (hk j hj) hC
theorem zn7 {a:Addr}{vs:List Value}{n:Nat}{P:Fin→Shared→Prop}(ho:s.heap.get? a=some (seqObj "list" vs.toArray n))(hz:vs.length≤sizeLine)(h64:vs.length < 64)(keys:∀ v∈vs,∃ k,κ.keyOf v=some k)
  (hlt:∀ h',zgO a s.heap h'→LtG prog w A { s with heap:=h' } κ kd)
  (hkd:∀(h':Heap) (E:Value→Shared→Prop) (Q:SortKind→Shared→Prop),zgO a s.heap h'→2≤vs.length→Q kd { s with heap:=h' }→wpAny (model prog w) A (keyKind' vs.toArray) Q E { s with heap:=h' })
  (h:∀ out:List Value,out.Perm vs→out.Pairwise (fun x y=>κ.kle (keyV κ x) (keyV κ y))→P (.done (.ret .none)) { s with heap:=sortedHeap s.heap a vs out.toArray }) :
  wpAny (model prog w) A (Builtin.«list.sort» ⟨[.ref a],[]⟩) P E s:=by
 rw[list_sort_plain];have hlt0:a < s.heap.objs.size:=yaf ho;refine wpAny_bind (listItems_at ho rfl ?_);refine wpAny_bind (listUpdate_at ho rfl ?_ (by simpa using hz) (yaC _));obtain ⟨m,ho1⟩:∃ m,(s.heap.update a (Obj.mapSeq fun _=>#[])).get? a=some (seqObj "list" #[] m):=⟨_,get?_update_seq ho (fun _=>#[])⟩;refine wpAny_bind (seqEpoch_at ho1 rfl ?_);refine wpAny_bind (wpAny_newTuple ?_ (by simpa using hz));refine wpAny_bind (wpAny_newList ?_);refine wpAny_holding ?_;have z1:(s.heap.update a (Obj.mapSeq fun _=>#[])).objs.size=s.heap.objs.size:=by rw[Heap.size_update]
 have hk:zgO a s.heap (((s.heap.update a (Obj.mapSeq fun _=>#[])).push (seqObj "tuple" vs.toArray 0)).push (seqObj "list" #[] 0)):=fun b o hb e=>
  yam _ (yam _ ((ybl _ _ (Ne.symm hb)).trans e))
 have ho6:(((s.heap.update a (Obj.mapSeq fun _=>#[])).push (seqObj "tuple" vs.toArray 0)).push (seqObj "list" #[] 0)).get? a=some (seqObj "list" #[] m):=yam _ (yam _ ho1);show wpAny (model prog w) A _ P E { s with heap:=((s.heap.update a (Obj.mapSeq fun _=>#[])).push (seqObj "tuple" vs.toArray 0)).push (seqObj "list" #[] 0) };dsimp only;have fin:∀ st':SortSt,(arrOf st').Perm (pairsOf vs)→failedOf st'=none→Up κ (arrOf st') 0 (pairsOf vs).size→wpAny (model prog w) A (do
   let touched:=(← seqEpoch a) != m
   Builtin.List.listUpdate (.ref a) fun _=>(arrOf st').map (·.2)
   if let some e:=failedOf st' then rule "list.sort.comparison-raised";throw e
   if touched then rule "list.sort.modified";raiseError "ValueError" "list modified during sort"
   ret .none) P E { s with heap:=((s.heap.update a (Obj.mapSeq fun _=>#[])).push (seqObj "tuple" vs.toArray 0)).push (seqObj "list" #[] 0) }:=fun st' hp hf hU=>by
  refine wpAny_bind (seqEpoch_at ho6 rfl ?_);refine wpAny_bind (listUpdate_at ho6 rfl ?_ (yaC _) (by
   refine yat (ybQ ((Array.size_map ..).trans (hp.size_eq.trans (pairsOf_size _)))) ?_;omega))
  rw[hf];simp only[bne_self_eq_false,ycj,if_false];obtain ⟨o1,o2⟩:=zrq hp hU;have:=h _ o1 o2;have e:((arrOf st').toList.map (·.2)).toArray=(arrOf st').map (·.2):=by rw[← Array.toList_map,Array.toArray_toList]
  rw[e]at this;exact wpAny_pure this
 by_cases h2:vs.toArray.size < 2
 ·rw[if_pos h2,if_pos h2];refine wpAny_bind (wpAny_pure ?_);rw[StateT.run_pure];refine wpAny_bind (wpAny_pure ?_);refine fin (SortSt.mk' general' (vs.toArray.zip vs.toArray) #[] 7 none) (Array.Perm.refl _) rfl ?_;intro i j q1 q2 q3;have:i=j:=by
   rw[pairsOf_size]at q3;simp at h2;omega
  subst this;exact KeyOrd.kle_refl _
 ·rw[if_neg h2,if_neg h2];have h2':2≤vs.length:=by
   simp at h2;omega
  refine wpAny_bind (hkd _ _ _ hk h2' ?_);refine wpAny_bind (wpAny_mono (zlM keys (hlt _ hk) h2' h64) ?_ fun _ _ e=>e);rintro ⟨⟨⟩,st'⟩ s' ⟨rfl,hp,hf,hs⟩;exact fin st' hp hf hs
theorem zk3 {l:Addr}{vs:List Value}{Q:Value→Shared→Prop}(hl:s.heap.IsList l vs.toArray)(hz:vs.length≤sizeLine)(h64:vs.length < 64)(keys:∀ v∈vs,∃ k,κ.keyOf v=some k)
  (hlt:∀ h',(∀ b o,s.heap.get? b=some o→h'.get? b=some o)→LtG prog w A.in1.in1 { s with heap:=h' } κ kd)
  (hkd:∀(h':Heap) (E:Value→Shared→Prop) (Q:SortKind→Shared→Prop),(∀ b o,s.heap.get? b=some o→h'.get? b=some o)→2≤vs.length→Q kd { s with heap:=h' }→wpAny (model prog w) A.in1.in1 (keyKind' vs.toArray) Q E { s with heap:=h' })
  (h:∀(out:List Value) (h':Heap) (c:Nat),out.Perm vs→out.Pairwise (fun x y=>κ.kle (keyV κ x) (keyV κ y))→(∀ b o,s.heap.get? b=some o→h'.get? b=some o)→
   h'.get? (s.heap.objs.size+1)=some (seqObj "list" out.toArray c)→Q (.ref (s.heap.objs.size+1)) { s with heap:=h' }) :
  wpAny (model prog w) A (call (.builtin "sorted") [.ref l]) Q E s:=by
 refine Calls.call_function_entry kind_sorted plain_sorted entry_sorted (args_sorted1 _) ?_;unfold Builtin.«sorted»;refine wpAny_bind (m:=checkCount "sorted" 1 1 _) (wpAny_pure ?_);refine wpAny_bind (collect_list hl ?_ hz);refine wpAny_bind (wpAny_newList ?_ (by simpa using hz));have z1:((s.heap.push (seqObj "list" #[] 0)).update s.heap.objs.size (Obj.mapSeq (· ++ vs.toArray))).objs.size=s.heap.objs.size+1:=by
  rw[Heap.size_update,size_push']
 have hn:(((s.heap.push (seqObj "list" #[] 0)).update s.heap.objs.size (Obj.mapSeq (· ++ vs.toArray))).push (seqObj "list" vs.toArray 0)).get? (s.heap.objs.size+1)=some (seqObj "list" vs.toArray 0):=by
  rw[← z1];exact yaD _ rfl
 have hk:∀ b o,s.heap.get? b=some o→(((s.heap.push (seqObj "list" #[] 0)).update s.heap.objs.size (Obj.mapSeq (· ++ vs.toArray))).push (seqObj "list" vs.toArray 0)).get? b=some o:=fun b o e=>
  yam _ ((ybl _ _ (ybh (yaf e))).trans (yam _ e))
 show wpAny _ _ _ _ _ { s with heap:=((s.heap.push (seqObj "list" #[] 0)).update s.heap.objs.size (Obj.mapSeq (· ++ vs.toArray))).push (seqObj "list" vs.toArray 0) };rw[z1];generalize ((s.heap.push (seqObj "list" #[] 0)).update s.heap.objs.size (Obj.mapSeq (· ++ vs.toArray))).push (seqObj "list" vs.toArray 0)=h1 at hn hk ⊢;have up:∀ h',zgO (s.heap.objs.size+1) h1 h'→∀ b o,s.heap.get? b=some o→h'.get? b=some o:=fun h' kb b o e=>kb b o (fun z=>by
  have:=yaf e;rw[z]at this;exact absurd this (ybp.mpr (yaX _))) (hk b o e)
 refine wpAny_bind (wpAny_holding (wpAny_call_entry slot_list_sort ⟨_,hn,rfl⟩ entry_list_sort (zn7 (s:={ s with heap:=h1 }) hn hz h64 keys (fun h' kb=>hlt h' (up h' kb)) (fun h' E Q kb h2 q=>hkd h' E Q (up h' kb) h2 q) fun out p1 p2=>⟨_,rfl,?_⟩) (args_list_sort _)));obtain ⟨kb,c,hc⟩:=zjy (out:=out) hn;exact wpAny_pure ⟨_,rfl,h out _ c p1 p2 (up _ kb) hc⟩
end
end Tim
namespace L2
open PySem PySem.Spec PyProof.Rows
def zoc (α:Type)[Rep α][Srt α](K:Frag):List V→Hp→VK→Prop:=fun xs H Q=>∃(p:Addr) (vs:List V) (as:List α),xs=[.ref p]∧SqL K H p vs∧zao K H as vs∧as.length < 64∧
 ∀ l ws,H l=none→zao K H (zez as) ws→Q (.ref l) (upd H l (.lst ws))
section
variable {X:Cx}
theorem zfy (α:Type)[Rep α][Srt α]:ze8 X (.builtin "sorted") (zoc α X.K):=by
 intro pins s σ H xs us Q I r h;obtain ⟨p,vs,as,rfl,hq,ha,h64,q⟩:=h;obtain ⟨u,rfl,rx⟩:=zhr r;cases rx
 obtain ⟨its,rv,pl,hz⟩:=I.list hq;have hlen:=rv.length;obtain ⟨km,kk⟩:=zm7 I ha rv;refine Tim.zk3 (κ:=srtKind α X.K H) (kd:=Srt.kd α) pl.isList (by omega) (by have:=ha.length;omega) (fun v hv=>?_) (fun h' k E x y a b Q hx hy q=>?_) (fun h' E Q k h2 q=>Srt.kind (Inv.kept (t':=s.toks) I k) ha rv h2 q) fun out h' c p1 p2 k hc=>?_
 ·obtain ⟨a,_,_,_,e⟩:=kk v hv;exact ⟨a,e⟩
 ·obtain ⟨x1,r1,e1⟩:=zha hx;obtain ⟨y1,r2,e2⟩:=zha hy;exact Srt.lt (Inv.kept (t':=s.toks) I k) e1 e2 r1 r2 q
 ·obtain ⟨ws,bs,w1,w2,w3⟩:=ziI (α:=α) (K:=X.K) (H:=H) (out:=out) fun v hv=>kk v (p1.mem_iff.mp hv);have eb:bs=zez as:=by
   refine zn8 ?_ ?_
   ·rw[w3,← km];exact p1.map _
   ·rw[w3];exact ybT.mpr p2
  rw[eb]at w2;have hw:ws.length≤sizeLine:=by
   have:=w1.length;have:=p1.length_eq;omega
  exact ⟨.ref (s.heap.objs.size+1),_,I.laid (a:=s.heap.objs.size+1) (o:=.lst ws) (t':=s.toks) k (yaX _) ⟨hw,out,c,w1,hc⟩,rfl,q _ ws (I.hok.fresh (yaX _)) w2⟩
end
end L2
set_option maxHeartbeats 4000000
namespace My
open PySem PySem.Spec PyProof.Rows L2
local macro_rules | `(tactic| walk_at "sc") => `(tactic| exact ⟨rfl,rfl,rfl,by decide +kernel,rfl,by decide +kernel,by decide +kernel⟩)
local macro_rules | `(tactic| walk_at "side")=>`(tactic| first | omega | (dsimp only;omega) | (simp only[CDiv,zsp,CPow,CMul];omega) | decide)
local macro_rules | `(tactic| walk_at "rd")=>`(tactic| repeat (first | (refine ⟨_,rfl,?_⟩) | (refine ⟨_,_,rfl,rfl,?_⟩) | (refine ⟨rfl,?_⟩) | (refine ⟨(by walk_at "side"),?_⟩)))
def top (i:Nat):Stmt:=PySem.Challenge.pw_bridgefind_k76_whole_papers_whoever_wrot.main.body.getD i (.Pass ⟨0,0,0,0⟩)
abbrev zdO:Stmt:=top 7
abbrev zkg:Stmt:=top 8
abbrev zbN:Stmt:=top 9
abbrev zfc:Stmt:=top 10
abbrev zda:Stmt:=top 11
abbrev zbX:Stmt:=top 14
abbrev zfG:Stmt:=top 15
abbrev zfJ:Stmt:=top 16
abbrev zcL:Stmt:=top 18
abbrev zcM:Stmt:=top 19
abbrev zeJ:Stmt:=top 20
abbrev zhx:Stmt:=top 21
abbrev zfO:Stmt:=top 22
abbrev zbA:Stmt:=top 24
abbrev zgb:Stmt:=top 25
abbrev zdP:Stmt:=top 26
abbrev zeL:Stmt:=top 27
abbrev zfN:Stmt:=top 28
abbrev zdN:Stmt:=top 29
abbrev zcp:Stmt:=top 31
abbrev zbh:Stmt:=top 32
abbrev zdb:Stmt:=top 33
abbrev zeB:Stmt:=top 35
abbrev zc8:Stmt:=top 36
abbrev zcO:Stmt:=top 37
abbrev zeK:Stmt:=top 38
abbrev zbB:Stmt:=top 41
abbrev zdL:Stmt:=top 42
abbrev zcK:Stmt:=top 43
abbrev zfH:Stmt:=top 44
abbrev zaX:Stmt:=top 45
abbrev zbM:Stmt:=top 46
abbrev zdM:Stmt:=top 48
abbrev zeI:Stmt:=top 49
abbrev zcr:Stmt:=top 50
abbrev zbY:Stmt:=top 51
abbrev zeC:Stmt:=top 52
abbrev zeA:Stmt:=top 54
abbrev zfI:Stmt:=top 55
abbrev zeF:Stmt:=top 59
abbrev zeH:Stmt:=top 60
abbrev zeE:Stmt:=top 61
abbrev zfL:Stmt:=top 62
abbrev zhA:Stmt:=top 63
abbrev zfK:Stmt:=top 64
abbrev zhz:Stmt:=top 65
abbrev zfM:Stmt:=top 66
abbrev zcN:Stmt:=top 67
abbrev zhy:Stmt:=top 68
abbrev zeD:Stmt:=top 69
abbrev zcq:Stmt:=top 70
abbrev zeG:Stmt:=top 71
abbrev zcc:Stmt:=top 72
abbrev zc9:Stmt:=top 73
abbrev zbz:Stmt:=top 74
abbrev zn9:Stmt:=top 75
abbrev zbO:Stmt:=zni (top 57) 0
abbrev zcP:Stmt:=zni (top 57) 8
theorem qcl:zap ["thing"] ["thing"] (zah zdO):=by walk_at "sc"
theorem qcm:zap ["entry","key","z"] ["entry"] (zah zkg):=by walk_at "sc"
theorem qac:zap ["length","is_below","low","high","middle"] ["length","is_below"] (zah zbN):=by walk_at "sc"
theorem qcY:zap ["row","key"] ["row","key"] (zah zfc):=by walk_at "sc"
theorem qaS:zap ["lists","together","entries"] ["lists"] (zah zda):=by walk_at "sc"
theorem qaQ:zap ["one","other","unlike"] ["one","other"] (zah zbX):=by walk_at "sc"
theorem qaT:zap ["numbers","told","at","number","figure"] ["numbers"] (zah zfG):=by walk_at "sc"
theorem qbd:zap ["entries","numbers","turn"] ["entries"] (zah zfJ):=by walk_at "sc"
theorem qbY:zap ["things","at"] ["things","at"] (zah zcL):=by walk_at "sc"
theorem qbZ:zap ["taken"] ["taken"] (zah zcM):=by walk_at "sc"
theorem qa1:zap ["numbers","told","label","at"] ["numbers"] (zah zeJ):=by walk_at "sc"
theorem qbe:zap ["entries","tints","told","colour","at"] ["entries"] (zah zhx):=by walk_at "sc"
theorem qcL:zap ["entries"] ["entries"] (zah zfO):=by walk_at "sc"
theorem qbf:zap ["many","thing"] ["many","thing"] (zah zbA):=by walk_at "sc"
theorem qcn:zap ["tree","knot"] ["tree","knot"] (zah zdP):=by walk_at "sc"
theorem qbj:zap ["tree","knot","told","other"] ["tree","knot"] (zah zeL):=by walk_at "sc"
theorem qbD:zap ["tree","thing","knot","at"] ["tree","thing"] (zah zfN):=by walk_at "sc"
theorem qco:zap ["tree","thing"] ["tree","thing"] (zah zdN):=by walk_at "sc"
theorem qbT:zap ["stand","knot"] ["stand","knot"] (zah zcp):=by walk_at "sc"
theorem qab:zap ["stand","knot","tree","told","at","parts"] ["stand","knot"] (zah zbh):=by walk_at "sc"
theorem qbx:zap ["stand","told"] ["stand"] (zah zdb):=by walk_at "sc"
theorem qbk:zap ["full","knot","told","entry"] ["full","knot"] (zah zeB):=by walk_at "sc"
theorem qal:zap ["full","child_full","behind","at","entry","told"] ["full","child_full"] (zah zc8):=by walk_at "sc"
theorem qam:zap ["tree","fulls","told","knot","full","jumps"] ["tree","fulls"] (zah zcO):=by walk_at "sc"
theorem qcD:zap ["stand"] ["stand"] (zah zeK):=by walk_at "sc"
theorem qbU:zap ["bridges","knot","is_below"] ["bridges","knot","is_below"] (zah zbB):=by walk_at "sc"
theorem qcp:zap ["bridges","knot","at","child"] ["bridges","knot","at","child"] (zah zdL):=by walk_at "sc"
theorem qaz:zap ["bridges","knot","start","is_below","beyond","at"] ["bridges","knot","start","is_below"] (zah zcK):=by walk_at "sc"
theorem qaI:zap ["bridges","way","is_below","at","told","parent","knot"] ["bridges","way","is_below"] (zah zfH):=by walk_at "sc"
theorem qbl:zap ["tree","fulls","way","key"] ["tree","fulls","way","key"] (zah zaX):=by walk_at "sc"
theorem qad:zap ["bridges","knot","is_below","places","told","each","at","jump"] ["bridges","knot","is_below"] (zah zbM):=by walk_at "sc"
theorem qbE:zap ["stand","way","key","found"] ["stand","way","key"] (zah zdM):=by walk_at "sc"
theorem qcE:zap ["thing"] ["thing"] (zah zeI):=by walk_at "sc"
theorem qbV:zap ["full","at","key"] ["full","at","key"] (zah zcr):=by walk_at "sc"
theorem qaR:zap ["bridges","line","below","start"] ["bridges","line","below"] (zah zbY):=by walk_at "sc"
theorem qa2:zap ["stand","way","key","paper","fulls","bridges","line"] ["stand","way","key","paper"] (zah zeC):=by walk_at "sc"
theorem qcF:zap ["stand","way"] ["stand","way"] (zah zeA):=by walk_at "sc"
theorem qcM:zap ["stand","way","key"] ["stand","way","key"] (zah zfI):=by walk_at "sc"
theorem qa3:zap ["_law_rows_here","_law_found","_law_row_here"] ["_law_rows_here"] (zah zeF):=by walk_at "sc"
theorem qcG:zap ["_law_script"] ["_law_script"] (zah zeH):=by walk_at "sc"
theorem qbm:zap ["_law_cell","_law_k","_law_one","_law_two"] ["_law_cell","_law_k"] (zah zeE):=by walk_at "sc"
theorem qaJ:zap ["_law_state","_law_most","_law_k","_law_script","_law_cell","_law_found"] ["_law_state","_law_most"] (zah zfL):=by walk_at "sc"
theorem qcB:zap ["_law_state","_law_way_here"] ["_law_state"] (zah zhA):=by walk_at "sc"
theorem qbg:zap ["_law_state","_law_most","_law_way_here","_law_parents","_law_k"] ["_law_state","_law_most"] (zah zfK):=by walk_at "sc"
theorem qb0:zap ["_law_state","_law_most","_law_found","_law_k"] ["_law_state","_law_most"] (zah zhz):=by walk_at "sc"
theorem qaK:zap ["_law_state","_law_many","_law_most","_law_rows_here","_law_k","_law_row_here"] ["_law_state","_law_many","_law_most"] (zah zfM):=by walk_at "sc"
theorem qb1:zap ["_law_tree_here","_law_knot"] ["_law_tree_here","_law_knot"] (zah zcN):=by walk_at "sc"
theorem qbC:zap ["_law_state","_law_tree_here","_law_way_here","_law_some"] ["_law_state","_law_tree_here"] (zah zhy):=by walk_at "sc"
theorem qa4:zap ["_law_state","_law_most","_law_keys","_law_tree_here"] ["_law_state"] (zah zeD):=by walk_at "sc"
theorem qaH:zap ["_law_state","_law_stand_here","_law_every_here","_law_key_here"] ["_law_state","_law_stand_here"] (zah zcq):=by walk_at "sc"
theorem qcH:zap ["_law_keys","_law_key_here"] ["_law_keys","_law_key_here"] (zah zeG):=by walk_at "sc"
theorem qae:zap ["_law_stand_here","_law_way_here","_law_key_here","_law_fulls","_law_spans","_law_found","_law_told","_law_beneath_it","_law_plain","_law_knot","_law_spot"] ["_law_stand_here","_law_way_here","_law_key_here"] (zah zcc):=by walk_at "sc"
theorem qag:zap ["_law_state","_law_paper","_law_at","_law_knot","_law_spot","_law_own","_law_by","_law_line"] ["_law_state","_law_paper"] (zah zc9):=by walk_at "sc"
theorem qan:zap ["_law_stand_here","_law_given","_law_key_here","_law_paper","_law_shelf","_law_pairs"] ["_law_stand_here","_law_given","_law_key_here","_law_paper"] (zah zbz):=by walk_at "sc"
theorem qaE:zap ["_law_script","_law_state","_law_stand_here","_law_turn","_law_way_here","_law_key_here","_law_papers_here","_law_again","_law_other","_law_theirs","_law_less_ones","_law_one","_law_more","_law_cut"] ["_law_script"] (zah zn9):=by walk_at "sc"
theorem qbn:zap ["self","stand"] ["self","stand"] (zah zbO):=by walk_at "sc"
theorem qb2:zap ["self","way","key"] ["self","way","key"] (zah zcP):=by walk_at "sc"
abbrev zcC:List Str:=["thing"]
abbrev zhF:List Str:=["entry"]
abbrev zba:List Str:=["length","is_below"]
abbrev zfR:List Str:=["row","key"]
abbrev zcS:List Str:=["lists"]
abbrev zbP:List Str:=["one","other"]
abbrev zeM:List Str:=["numbers"]
abbrev zeO:List Str:=["entries"]
abbrev zb1:List Str:=["things","at"]
abbrev zcs:List Str:=["taken"]
abbrev zd1:List Str:=["numbers"]
abbrev zfS:List Str:=["entries"]
abbrev zeT:List Str:=["entries"]
abbrev zbt:List Str:=["many","thing"]
abbrev zir:List Str:=["tree","thing"]
abbrev zcD:List Str:=["tree","knot"]
abbrev zd3:List Str:=["tree","knot"]
abbrev zeS:List Str:=["tree","thing"]
abbrev zbT:List Str:=["tree","thing"]
abbrev zcg:List Str:=["stand","knot"]
abbrev za7:List Str:=["stand","knot"]
abbrev zbf:List Str:=["stand"]
abbrev zdT:List Str:=["full","knot"]
abbrev zcQ:List Str:=["full","child_full"]
abbrev zbD:List Str:=["tree","fulls"]
abbrev zd2:List Str:=["stand"]
abbrev zbH:List Str:=["bridges","knot","is_below"]
abbrev zcB:List Str:=["bridges","knot","at","child"]
abbrev zb0:List Str:=["bridges","knot","start","is_below"]
abbrev zdv:List Str:=["bridges","way","is_below"]
abbrev za9:List Str:=["tree","fulls","way","key"]
abbrev zbC:List Str:=["bridges","knot","is_below"]
abbrev zcd:List Str:=["stand","way","key"]
abbrev zd0:List Str:=["thing"]
abbrev zci:List Str:=["full","at","key"]
abbrev zbQ:List Str:=["bridges","line","below"]
abbrev zdU:List Str:=["stand","way","key","paper"]
abbrev zdS:List Str:=["stand","way"]
abbrev zeN:List Str:=["stand","way","key"]
abbrev zdX:List Str:=["_law_rows_here"]
abbrev zdZ:List Str:=["_law_script"]
abbrev zdW:List Str:=["_law_cell","_law_k"]
abbrev zbo:List Str:=["_law_state","_law_most"]
abbrev zeR:List Str:=["_law_state"]
abbrev zeP:List Str:=["_law_state","_law_most"]
abbrev zfU:List Str:=["_law_state","_law_most"]
abbrev zeQ:List Str:=["_law_state","_law_many","_law_most"]
abbrev zct:List Str:=["_law_tree_here","_law_knot"]
abbrev zfT:List Str:=["_law_state","_law_tree_here"]
abbrev zdV:List Str:=["_law_state"]
abbrev zch:List Str:=["_law_state","_law_stand_here"]
abbrev zdY:List Str:=["_law_keys","_law_key_here"]
abbrev zdd:List Str:=["_law_stand_here","_law_way_here","_law_key_here"]
abbrev zcR:List Str:=["_law_state","_law_paper"]
abbrev zbs:List Str:=["_law_stand_here","_law_given","_law_key_here","_law_paper"]
abbrev zkk:List Str:=["_law_script"]
abbrev zbc:List Str:=["self","stand"]
abbrev zb2:List Str:=["self","way","key"]
structure Txt (K:Frag)(mg:Str→Option Value):Prop where
 qdm:mg "abs" = none
 qda:mg "all" = none
 qdn:mg "bool" = none
 qdo:mg "dict" = none
 qa6:mg "enumerate" = none
 qdt:mg "int" = none
 qas:mg "isinstance" = none
 qat:mg "len" = none
 qby:mg "list" = none
 qcZ:mg "max" = none
 qc0:mg "min" = none
 qao:mg "range" = none
 qcI:mg "reversed" = none
 qcC:mg "sorted" = none
 qb3:mg "tuple" = none
 qcq:mg "zip" = none
 qbW:∃ t,mg "KNOT_NUMBERS" = some (.int 64 t)
 qdb:∃ t,mg "TURNS" = some (.int 5 t)
 qaB:∃ t,mg "MOST_BEHIND_START" = some (.int 2 t)
structure OwnC (K:Frag)(mg:Str→Option Value)(C:Addr):Prop where
 cl:L2.Cls K C
 mgC:mg "Shelf" = some (.ref C)
 n_kept:zfA K C "kept"
 n_fulls:zfA K C "fulls"
theorem zjt (m n i j:Nat)(hi:i < 2)(hj:j < 2):(2*m+i) &&& (2*n+j)=2*(m &&& n)+(i &&& j):=by
 apply Nat.eq_of_testBit_eq;intro k;cases k with
 | zero=>
  have h1:i=0∨i=1:=by omega
  have h2:j=0∨j=1:=by omega
  rcases h1 with rfl | rfl <;> rcases h2 with rfl | rfl <;> simp[Nat.testBit_zero] <;> omega
 | succ k=>
  have h1:i=0∨i=1:=by omega
  have h2:j=0∨j=1:=by omega
  have e1:(2*m+i)/2=m:=by omega
  have e2:(2*n+j)/2=n:=by omega
  have e3:(2*(m &&& n)+(i &&& j))/2=m &&& n:=by
   rcases h1 with rfl | rfl <;> rcases h2 with rfl | rfl <;> simp <;> omega
  rw[Nat.testBit_and,ybE,ybE,ybE,e1,e2,e3,Nat.testBit_and]
theorem zrE (m n i j:Nat)(hi:i < 2)(hj:j < 2):(2*m+i) ||| (2*n+j)=2*(m ||| n)+(i ||| j):=by
 apply Nat.eq_of_testBit_eq;intro k;cases k with
 | zero=>
  have h1:i=0∨i=1:=by omega
  have h2:j=0∨j=1:=by omega
  rcases h1 with rfl | rfl <;> rcases h2 with rfl | rfl <;> simp[Nat.testBit_zero] <;> omega
 | succ k=>
  have h1:i=0∨i=1:=by omega
  have h2:j=0∨j=1:=by omega
  have e1:(2*m+i)/2=m:=by omega
  have e2:(2*n+j)/2=n:=by omega
  have e3:(2*(m ||| n)+(i ||| j))/2=m ||| n:=by
   rcases h1 with rfl | rfl <;> rcases h2 with rfl | rfl <;> simp <;> omega
  rw[Nat.testBit_or,ybE,ybE,ybE,e1,e2,e3,Nat.testBit_or]
def lu (a b:Nat):Nat:=if a=b then 0 else if a % 2=b % 2 then lu (a / 2) (b / 2)+1 else 0
termination_by a+b
decreasing_by omega
theorem zjr {a b:Nat}(hab:a≠b)(h:a % 2=b % 2):lu a b=lu (a / 2) (b / 2)+1:=by
 rw[lu,if_neg hab,if_pos h]
theorem zmU {a b:Nat}(h:a % 2≠b % 2):lu a b=0:=by
 rw[lu];split
 ·rfl
 ·rfl
def xr (a b:Nat):Nat:=(a ||| b) - (a &&& b)
def zfs (n:Nat):Nat:=n - (n &&& (n - 1))
theorem zi6 (a b:Nat):a &&& b≤a ||| b:=yat Nat.and_le_left Nat.left_le_or
theorem zr4 (m n i j:Nat)(hi:i < 2)(hj:j < 2):xr (2*m+i) (2*n+j)=2 * xr m n+(if i=j then 0 else 1):=by
 unfold xr;rw[zrE m n i j hi hj,zjt m n i j hi hj];have q:=zi6 m n;have h1:i=0∨i=1:=by omega
 have h2:j=0∨j=1:=by omega
 rcases h1 with rfl | rfl <;> rcases h2 with rfl | rfl <;> simp <;> omega
theorem zlK (a b:Nat):xr a b=2 * xr (a / 2) (b / 2)+(if a % 2=b % 2 then 0 else 1):=by
 have e1:2 * (a / 2)+a % 2=a:=by omega
 have e2:2 * (b / 2)+b % 2=b:=by omega
 have q:=zr4 (a / 2) (b / 2) (a % 2) (b % 2) (by omega) (by omega);rw[e1,e2]at q;exact q
theorem zpb:∀(n a b:Nat),a+b≤n→a≠b→0 < xr a b:=by
 intro n
 induction n with
 | zero=>intro a b h1 h2;omega
 | succ n ih=>
  intro a b h1 h2;rw[zlK];by_cases h:a % 2=b % 2
  ·have:=ih (a / 2) (b / 2) (by omega) (by omega);omega
  ·rw[if_neg h];omega
theorem zqm (m:Nat):zfs (2 * m+1)=1:=by
 unfold zfs;have q:=zjt m m 1 0 (by omega) (by omega);have e:2 * m+1 - 1=2 * m+0:=by omega
 rw[e,q];simp
theorem zoM (m:Nat)(h:0 < m):zfs (2 * m)=2 * zfs m:=by
 unfold zfs;have q:=zjt m (m - 1) 0 1 (by omega) (by omega);have e:2 * m - 1=2 * (m - 1)+1:=by omega
 have e':2 * m=2 * m+0:=by omega
 rw[e];have:(2 * m &&& 2 * (m - 1)+1)=2 * (m &&& m - 1)+(0 &&& 1):=q;rw[this];have z:m &&& (m - 1)≤m:=Nat.and_le_left;simp;omega
theorem zrC:∀(n a b:Nat),a+b≤n→a≠b→zfs (xr a b)=2 ^ lu a b:=by
 intro n
 induction n with
 | zero=>intro a b h1 h2;omega
 | succ n ih=>
  intro a b h1 h2;rw[zlK];by_cases h:a % 2=b % 2
  ·rw[if_pos h,zjr h2 h,ybF,zoM _ (zpb n _ _ (by omega) (by omega)),ih _ _ (by omega) (by omega),ybV];omega
  ·rw[if_neg h,zmU h,zqm,Nat.pow_zero]
theorem zql:∀(n a b:Nat),a+b≤n→a≠b→a % 2 ^ lu a b=b % 2 ^ lu a b∧a % 2 ^ (lu a b+1)≠b % 2 ^ (lu a b+1):=by
 intro n
 induction n with
 | zero=>intro a b h1 h2;omega
 | succ n ih=>
  intro a b h1 h2;by_cases h:a % 2=b % 2
  ·rw[zjr h2 h];obtain ⟨q1,q2⟩:=ih (a / 2) (b / 2) (by omega) (by omega);have s:∀ x k:Nat,x % 2 ^ (k+1)=2 * (x / 2 % 2 ^ k)+x % 2:=by
    intro x k;rw[ybV,Nat.mul_comm,Nat.mod_mul];omega
   rw[s a,s b,s a,s b];constructor
   ·omega
   ·omega
  ·rw[zmU h];simp[Nat.mod_one];omega
theorem zsi:∀(k a b:Nat),a≠b→a < 2 ^ k→b < 2 ^ k→lu a b < k:=by
 intro k
 induction k with
 | zero=>intro a b h1 h2 h3;simp at h2 h3;omega
 | succ k ih=>
  intro a b h1 h2 h3;by_cases h:a % 2=b % 2
  ·rw[zjr h1 h];have:=ih (a / 2) (b / 2) (by omega) (by rw[ybV]at h2;omega) (by rw[ybV]at h3;omega);omega
  ·rw[zmU h];omega
def fig (a b:Nat):Nat:=2 * lu a b+b / 2 ^ lu a b % 2
theorem zhV (a b:Nat):fig a b / 2=lu a b:=by
 unfold fig;have:=Nat.mod_lt (b / 2 ^ lu a b) (by decide:0 < 2);omega
theorem zjF (a b:Nat):fig a b % 2=b / 2 ^ lu a b % 2:=by
 unfold fig;have:=Nat.mod_lt (b / 2 ^ lu a b) (by decide:0 < 2);omega
theorem zfq (x k:Nat):x % 2 ^ (k+1)=x % 2 ^ k+2 ^ k * (x / 2 ^ k % 2):=by
 rw[ybV,Nat.mod_mul]
theorem zpx {a b:Nat}(h:a≠b):a / 2 ^ lu a b % 2≠b / 2 ^ lu a b % 2:=by
 obtain ⟨h1,h2⟩:=zql _ a b (yab _) h;intro e;apply h2;rw[zfq,zfq,h1,e]
theorem zrT {a b c:Nat}(h2:b≠c):fig a b≠fig b c:=by
 intro e;have e1:lu a b=lu b c:=by rw[← zhV,e,zhV]
 have e2:b / 2 ^ lu a b % 2=c / 2 ^ lu b c % 2:=by rw[← zjF,e,zjF]
 rw[e1]at e2;exact zpx h2 e2
theorem zqF {a b:Nat}(h:a≠b):a % 2≠fig a b:=by
 intro e;have l:a % 2 < 2:=Nat.mod_lt _ (by decide);have e1:lu a b=0:=by
  have:=zhV a b;omega
 have e2:=zjF a b;have e3:=zpx h;rw[e1]at e2 e3;simp at e2 e3;omega
theorem zrU {a b k:Nat}(h:a≠b)(ha:a < 2 ^ k)(hb:b < 2 ^ k):fig a b < 2 * k:=by
 have:=zsi k a b h ha hb;have:=Nat.mod_lt (b / 2 ^ lu a b) (by decide:0 < 2);unfold fig;omega
def zew (xs:List Nat)(i:Nat):Nat:=if i=0 then xs.getD 0 0 % 2 else fig (xs.getD (i - 1) 0) (xs.getD i 0)
def zdq (xs:List Nat):List Nat:=(List.range xs.length).map (zew xs)
theorem zbW (xs:List Nat):(zdq xs).length=xs.length:=by unfold zdq;rw[yaa,yaR]
theorem zic {xs:List Nat}{i:Nat}(h:i < xs.length):(zdq xs)[i]?=some (zew xs i):=by
 unfold zdq;rw[yal,ya9 h];rfl
theorem ze9 {xs:List Nat}{i:Nat}(h:i < xs.length):(zdq xs).getD i 0=zew xs i:=by
 rw[yad,zic h];rfl
theorem zkZ {xs:List Nat}{i:Nat}(h:i < xs.length):(zdq xs).take (i+1)=(zdq xs).take i++[zew xs i]:=by
 have h':i < (zdq xs).length:=by rw[zbW];exact h
 rw[yaA h'];have:=zic h;rw[yac h']at this;rw[yae this]
def Unl (xs:List Nat):Prop:=∀ i,i+1 < xs.length→xs.getD i 0≠xs.getD (i+1) 0
theorem zlR {xs:List Nat}(h:Unl xs):Unl (zdq xs):=by
 intro i hi;rw[zbW]at hi;rw[ze9 (by omega),ze9 hi];unfold zew;rw[if_neg (by omega:¬ i+1=0),ybG];by_cases h0:i=0
 ·subst h0;rw[if_pos rfl];exact zqF (h 0 hi)
 ·rw[if_neg h0];exact zrT (h i hi)
def zds (m:Nat)(xs:List Nat):Prop:=∀ i,i < xs.length→xs.getD i 0 < m
theorem zcz {xs:List Nat}{k:Nat}(hk:1≤k)(h:Unl xs)(hb:zds (2 ^ k) xs):zds (2 * k) (zdq xs):=by
 intro i hi;rw[zbW]at hi;rw[ze9 hi];unfold zew;split
 ·have:xs.getD 0 0 % 2 < 2:=Nat.mod_lt _ (by decide);omega
 ·have:=h (i - 1) (by omega);rw[show i - 1+1=i by omega]at this;exact zrU this (hb _ (by omega)) (hb _ hi)
theorem zpI (a b:Nat):Builtin.bitXor (a:Int) (b:Int)=((xr a b:Nat):Int):=by
 have h1:Builtin.bitAnd (a:Int) (b:Int)=((a &&& b:Nat):Int):=by
  unfold Builtin.bitAnd;rw[yag (ybi a),yag (ybi b)];rfl
 have n1:¬ (0:Int)≤Builtin.bitNot (a:Int):=by unfold Builtin.bitNot;omega
 have n2:¬ (0:Int)≤Builtin.bitNot (b:Int):=by unfold Builtin.bitNot;omega
 have h2:Builtin.bitOr (a:Int) (b:Int)=((a ||| b:Nat):Int):=by
  unfold Builtin.bitOr Builtin.bitAnd;rw[yai n1,yai n2];have e:∀ x:Int,Builtin.bitNot (Builtin.bitNot x)=x:=fun x=>by unfold Builtin.bitNot;omega
  show Builtin.bitNot (Builtin.bitNot _)=_;rw[e,e,e];rfl
 unfold Builtin.bitXor xr;rw[h1,h2];have:=zi6 a b;omega
theorem zqQ (n:Nat)(h:0 < n):Builtin.bitAnd (n:Int) (-(n:Int))=((zfs n:Nat):Int):=by
 have n2:¬ (0:Int)≤-(n:Int):=by omega
 have e:(Builtin.bitNot (-(n:Int))).toNat=n - 1:=by unfold Builtin.bitNot;omega
 unfold Builtin.bitAnd zfs;rw[yag (ybi n),yai n2];show (n:Int) - (((n:Int).toNat &&& (Builtin.bitNot (-(n:Int))).toNat:Nat):Int)=_;rw[e,ya7];have:n &&& (n - 1)≤n:=Nat.and_le_left;omega
theorem zrD (a b:Nat)(h:a≠b):((Builtin.Int.intBits (Builtin.bitAnd (Builtin.bitXor (a:Int) (b:Int)) (-(Builtin.bitXor (a:Int) (b:Int)))):Nat):Int) - 1=((lu a b:Nat):Int):=by
 rw[zpI,zqQ _ (zpb _ a b (yab _) h),zrC _ a b (yab _) h];unfold Builtin.Int.intBits;have p:0 < 2 ^ lu a b:=Nat.two_pow_pos _;rw[if_neg (by
  intro z;have z':=eq_of_beq z;omega),Int.natAbs_natCast,Nat.log2_two_pow]
 omega
def atZ {α:Type}(l:List α)(i:Int):Option α:=if 0≤i then l[i.toNat]? else none
theorem zdn {α:Type}(l:List α)(i:Nat):atZ l (i:Int)=l[i]?:=by
 unfold atZ;rw[if_pos (ybi i),ya7]
theorem zh3 {α:Type}{l:List α}{i:Int}(h:i < 0):atZ l i=none:=by
 unfold atZ;rw[if_neg (by omega)]
theorem zh2 {α:Type}{l:List α}{i:Int}{x:α}(h:atZ l i=some x):0≤i∧i < l.length:=by
 unfold atZ at h;split at h
 ·have:=(yah.mp h).1;omega
 ·cases h
theorem zpH {α:Type}{l:List α}{i:Int}(h0:0≤i)(h:i < l.length):∃ x,atZ l i=some x:=by
 unfold atZ;rw[if_pos h0];exact ⟨_,yac (by omega)⟩
def zlk {α β:Type}(f:Option α→α→Option α→β):Option α→List α→List β
 | _,[]=>[]
 | p,x::l=>f p x l.head? :: zlk f (some x) l
def mapW {α β:Type}(f:Option α→α→Option α→β)(l:List α):List β:=zlk f none l
theorem zdB {α β:Type}(f:Option α→α→Option α→β):∀(l:List α) (p:Option α) (k:Nat),(zlk f p l)[k]?=l[k]?.map fun x=>f (if k=0 then p else l[k - 1]?) x l[k+1]?
 | [],_,_=>rfl
 | x::l,p,0=>by
  show some (f p x l.head?)=some (f p x l[0]?);rw[List.head?_eq_getElem?]
 | x::l,p,k+1=>by
  show (zlk f (some x) l)[k]?=l[k]?.map fun y=>f (x::l)[k]? y l[k+1]?;rw[zdB f l (some x) k];cases k with
  | zero=>rfl
  | succ k=>rfl
theorem zfr {α β:Type}(f:Option α→α→Option α→β):∀(l:List α) (p:Option α),(zlk f p l).length=l.length
 | [],_=>rfl
 | x::l,p=>by
  show (zlk f (some x) l).length+1=l.length+1;rw[zfr f l]
theorem zcH {α β:Type}(f:Option α→α→Option α→β)(l:List α):(mapW f l).length=l.length:=zfr f l none
theorem zhQ {α β:Type}(f:Option α→α→Option α→β)(l:List α)(i:Int):atZ (mapW f l) i=(atZ l i).map fun x=>f (atZ l (i - 1)) x (atZ l (i+1)):=by
 by_cases h:0≤i
 ·obtain ⟨k,rfl⟩:∃ k:Nat,i=(k:Int):=⟨i.toNat,by omega⟩;rw[zdn,zdn,mapW,zdB,show ((k:Int)+1)=((k+1:Nat):Int) by omega,zdn];have e:atZ l ((k:Int) - 1)=if k=0 then none else l[k - 1]?:=by
   split
   ·rw[zh3 (by omega)]
   ·rw[show ((k:Int) - 1)=((k - 1:Nat):Int) by omega,zdn]
  rw[e]
 ·rw[zh3 (l:=mapW f l) (by omega),zh3 (l:=l) (i:=i) (by omega)];rfl
def UnlZ (xs:List Nat):Prop:=∀(i:Int) (x y:Nat),atZ xs i=some x→atZ xs (i+1)=some y→x≠y
theorem unlZ {xs:List Nat}(h:Unl xs):UnlZ xs:=by
 intro i x y hx hy;obtain ⟨a,b⟩:=zh2 hx;obtain ⟨_,c⟩:=zh2 hy;obtain ⟨k,rfl⟩:∃ k:Nat,i=(k:Int):=⟨i.toNat,by omega⟩;rw[zdn]at hx;rw[show ((k:Int)+1)=((k+1:Nat):Int) by omega,zdn]at hy;have:=h k (by omega);rw[yad,yad,hx,hy]at this;exact this
theorem zpd {xs:List Nat}(h:UnlZ xs):Unl xs:=by
 intro k hk;have:=h k xs[k] xs[k+1] (by rw[zdn];exact yac (by omega)) (by rw[show ((k:Int)+1)=((k+1:Nat):Int) by omega,zdn];exact yac hk);rw[yad,yad,yac (show k < xs.length by omega),yac hk];exact this
def zfC (p n:Option Nat):Nat:=if p≠some 0∧n≠some 0 then 0 else if p≠some 1∧n≠some 1 then 1 else 2
theorem zkO (p n:Option Nat):zfC p n≤2:=by
 unfold zfC;split
 ·omega
 ·split <;> omega
theorem zfh {p n:Option Nat}{x:Nat}(h:p=some x):zfC p n≠x:=by
 subst h;unfold zfC;split
 ·rename_i c;intro z;exact c.1 (by rw[← z])
 ·split
  ·rename_i c;intro z;exact c.1 (by rw[← z])
  ·rename_i c d;intro z;subst z;have c1:n=some 0:=Decidable.byContradiction fun q=>c ⟨by decide,q⟩;have d1:n=some 1:=Decidable.byContradiction fun q=>d ⟨by decide,q⟩;rw[c1]at d1;cases d1
theorem zlv (p n:Option Nat):zfC p n=zfC n p:=by
 unfold zfC;simp only[And.comm]
theorem zhg {p n:Option Nat}{x:Nat}(h:n=some x):zfC p n≠x:=by
 rw[zlv];exact zfh h
def recF (v:Nat)(p:Option Nat)(x:Nat)(n:Option Nat):Nat:=if x=v then zfC p n else x
def recL (v:Nat)(xs:List Nat):List Nat:=mapW (recF v) xs
theorem zbi (v:Nat)(xs:List Nat):(recL v xs).length=xs.length:=zcH _ _
theorem zfQ {v:Nat}{xs:List Nat}(h:UnlZ xs):UnlZ (recL v xs):=by
 intro i x y hx hy;unfold recL at hx hy;rw[zhQ]at hx hy;cases ex:atZ xs i with
 | none=>rw[ex]at hx;cases hx
 | some x0=>
  cases ey:atZ xs (i+1) with
  | none=>rw[ey]at hy;cases hy
  | some y0=>
   rw[ex]at hx;rw[ey]at hy;have hx:x=recF v (atZ xs (i - 1)) x0 (atZ xs (i+1)):=(yae hx).symm;have hy:y=recF v (atZ xs (i+1 - 1)) y0 (atZ xs (i+1+1)):=(yae hy).symm;have n0:=h i x0 y0 ex ey;have e1:i+1 - 1=i:=by omega
   unfold recF at hx hy;rw[e1,ex]at hy;rw[ey]at hx;split at hx
   ·rename_i c;split at hy
    ·rename_i c';omega
    ·rw[hx,hy];exact zhg rfl
   ·split at hy
    ·rw[hx,hy];exact (zfh rfl).symm
    ·omega
theorem zhC {v:Nat}{P:Nat→Prop}{xs:List Nat}(hP:∀ x,x≤2→P x)(h:∀ i x,atZ xs i=some x→x=v∨P x):∀ i x,atZ (recL v xs) i=some x→P x:=by
 intro i x hx;unfold recL at hx;rw[zhQ]at hx;cases ex:atZ xs i with
 | none=>rw[ex]at hx;cases hx
 | some x0=>
  rw[ex]at hx;have hx:x=recF v (atZ xs (i - 1)) x0 (atZ xs (i+1)):=(yae hx).symm;unfold recF at hx;split at hx
  ·rw[hx];exact hP _ (zkO _ _)
  ·rw[hx];rcases h i x0 ex with q | q
   ·exact absurd q (by assumption)
   ·exact q
def colL (xs:List Nat):List Nat:=recL 5 (recL 4 (recL 3 xs))
theorem zgD (xs:List Nat):(colL xs).length=xs.length:=by
 unfold colL;rw[zbi,zbi,zbi]
theorem zkT {xs:List Nat}(h:UnlZ xs):UnlZ (colL xs):=zfQ (zfQ (zfQ h))
theorem zqJ {xs:List Nat}(h:∀ i x,atZ xs i=some x→x≤5):∀ i x,atZ (colL xs) i=some x→x≤2:=by
 refine zhC (P:=fun x=>x≤2) (fun x h=>h) ?_;refine zhC (P:=fun x=>x=5∨x≤2) (fun x h=>.inr h) ?_;refine zhC (P:=fun x=>x=4∨x=5∨x≤2) (fun x h=>.inr (.inr h)) ?_;intro i x e;have:=h i x e;omega
def zqk (sh:Nat)(p:Option (Nat×Bool))(x:Nat×Bool)(n:Option (Nat×Bool)):Nat×Bool:=
 (x.1,x.2 || (decide (x.1=sh) && p.isSome && !(p.map (·.2)).getD false && !(n.map (·.2)).getD false))
def zc2 (sh:Nat)(l:List (Nat×Bool)):List (Nat×Bool):=mapW (zqk sh) l
def zcW (c:List Nat):List (Nat×Bool):=c.map fun x=>(x,false)
def zee (c:List Nat):List (Nat×Bool):=zc2 0 (zc2 1 (zc2 2 (zcW c)))
def zeZ (c:List Nat):List Bool:=(zee c).map (·.2)
theorem zhN (c:List Nat):(zee c).length=c.length:=by
 unfold zee zc2 zcW;rw[zcH,zcH,zcH,yaa]
theorem zeY (c:List Nat):(zeZ c).length=c.length:=by
 unfold zeZ;rw[yaa,zhN]
theorem zjZ (c:List Nat)(i:Int):atZ (zcW c) i=(atZ c i).map fun x=>(x,false):=by
 unfold zcW atZ;split
 ·rw[yal]
 ·rfl
def mkZ (l:List (Nat×Bool))(i:Int):Bool:=((atZ l i).map (·.2)).getD false
def clZ (l:List (Nat×Bool))(i:Int):Option Nat:=(atZ l i).map (·.1)
theorem zqj (sh:Nat)(l:List (Nat×Bool))(i:Int):clZ (zc2 sh l) i=clZ l i:=by
 unfold clZ zc2;rw[zhQ];cases atZ l i <;> rfl
theorem zhO (sh:Nat)(l:List (Nat×Bool))(i:Int):mkZ (zc2 sh l) i=(mkZ l i || (decide (clZ l i=some sh) && (clZ l (i - 1)).isSome && !mkZ l (i - 1) && !mkZ l (i+1))):=by
 unfold mkZ clZ zc2;rw[zhQ];cases atZ l i with
 | none=>simp
 | some x=>
  unfold zqk;cases atZ l (i - 1) <;> cases atZ l (i+1) <;> simp
structure MkOk (c:List Nat)(l:List (Nat×Bool)):Prop where
 cl:∀ i,clZ l i=atZ c i
 ind:∀ i,mkZ l i=true→mkZ l (i+1)=true→False
 fst:∀ i,mkZ l i=true→(atZ c (i - 1)).isSome=true∧(atZ c i).isSome=true
theorem zfE (c:List Nat):MkOk c (zcW c):=by
 have e:∀ i,mkZ (zcW c) i=false:=fun i=>by
  unfold mkZ;rw[zjZ];cases atZ c i <;> rfl
 refine ⟨fun i=>?_,fun i h=>?_,fun i h=>?_⟩
 ·unfold clZ;rw[zjZ];cases atZ c i <;> rfl
 ·rw[e]at h;cases h
 ·rw[e]at h;cases h
theorem zfg {c:List Nat}{l:List (Nat×Bool)}{sh:Nat}(hu:UnlZ c)(h:MkOk c l):MkOk c (zc2 sh l):=by
 refine ⟨fun i=>by rw[zqj,h.cl],fun i h1 h2=>?_,fun i h1=>?_⟩
 ·rw[zhO]at h1 h2;simp only[yb4,ybm,decide_eq_true_eq,yb5]at h1 h2;rw[show i+1 - 1=i by omega]at h2;rcases h1 with h1 | h1 <;> rcases h2 with h2 | h2
  ·exact h.ind i h1 h2
  ·rw[h1]at h2;exact absurd h2.1.2 (by decide)
  ·rw[h2]at h1;exact absurd h1.2 (by decide)
  ·have a:=h1.1.1.1;have b:=h2.1.1.1;rw[h.cl]at a b;exact hu i sh sh a b rfl
 ·rw[zhO]at h1;simp only[yb4,ybm,decide_eq_true_eq,yb5]at h1;rcases h1 with h1 | h1
  ·exact h.fst i h1
  ·refine ⟨?_,?_⟩
   ·rw[← h.cl];exact h1.1.1.2
   ·rw[← h.cl,h1.1.1.1];rfl
theorem zbw {sh:Nat}{l:List (Nat×Bool)}{i:Int}(h:mkZ l i=true):mkZ (zc2 sh l) i=true:=by
 rw[zhO,h];rfl
theorem zhP {c:List Nat}{l:List (Nat×Bool)}{sh:Nat}{i:Int}(h:MkOk c l)(hc:atZ c i=some sh)(hp:(atZ c (i - 1)).isSome=true):mkZ (zc2 sh l) (i - 1)=true∨mkZ (zc2 sh l) i=true∨mkZ (zc2 sh l) (i+1)=true:=by
 by_cases a:mkZ l (i - 1)=true
 ·exact .inl (zbw a)
 ·by_cases b:mkZ l (i+1)=true
  ·exact .inr (.inr (zbw b))
  ·refine .inr (.inl ?_);rw[zhO,h.cl,h.cl,hc,hp,ybH.mpr a,ybH.mpr b];simp
theorem ziE {c:List Nat}(hu:UnlZ c):MkOk c (zee c):=zfg hu (zfg hu (zfg hu (zfE c)))
theorem zlj {c:List Nat}(hu:UnlZ c)(hc:∀ i x,atZ c i=some x→x≤2){i:Int}(h1:(atZ c (i - 1)).isSome=true)(h2:(atZ c i).isSome=true):mkZ (zee c) (i - 1)=true∨mkZ (zee c) i=true∨mkZ (zee c) (i+1)=true:=by
 obtain ⟨x,hx⟩:=yb0.mp h2;have hle:=hc i x hx;have z:x=2∨x=1∨x=0:=by omega
 rcases z with rfl | rfl | rfl
 ·rcases zhP (zfE c) hx h1 with q | q | q
  ·exact .inl (zbw (zbw q))
  ·exact .inr (.inl (zbw (zbw q)))
  ·exact .inr (.inr (zbw (zbw q)))
 ·rcases zhP (zfg (sh:=2) hu (zfE c)) hx h1 with q | q | q
  ·exact .inl (zbw q)
  ·exact .inr (.inl (zbw q))
  ·exact .inr (.inr (zbw q))
 ·exact zhP (zfg (sh:=1) hu (zfg (sh:=2) hu (zfE c))) hx h1
structure zdK (ms:List Bool):Prop where
 fst:ms.getD 0 false=false
 ind:∀ i,ms.getD i false=true→ms.getD (i+1) false=true→False
 dom:∀ i,1≤i→i < ms.length→ms.getD (i - 1) false=true∨ms.getD i false=true∨ms.getD (i+1) false=true
theorem zcG (c:List Nat)(i:Nat):(zeZ c).getD i false=mkZ (zee c) (i:Int):=by
 unfold mkZ zeZ;rw[zdn,yad,yal]
theorem zmS {c:List Nat}(hu:UnlZ c)(hc:∀ i x,atZ c i=some x→x≤2):zdK (zeZ c):=by
 refine ⟨?_,fun i h1 h2=>?_,fun i h1 h2=>?_⟩
 ·rw[zcG];cases e:mkZ (zee c) ((0:Nat):Int) with
  | false=>rfl
  | true=>
   have:=((ziE hu).fst _ e).1;rw[zh3 (by omega)]at this;cases this
 ·rw[zcG]at h1 h2;exact (ziE hu).ind i h1 h2
 ·rw[zeY]at h2;have a:(atZ c ((i:Int) - 1)).isSome=true:=by
   obtain ⟨x,hx⟩:=zpH (l:=c) (i:=(i:Int) - 1) (by omega) (by omega);rw[hx];rfl
  have b:(atZ c (i:Int)).isSome=true:=by
   obtain ⟨x,hx⟩:=zpH (l:=c) (i:=(i:Int)) (by omega) (by omega);rw[hx];rfl
  rcases zlj hu hc a b with q | q | q
  ·refine .inl ?_;rw[zcG,show ((i - 1:Nat):Int)=(i:Int) - 1 by omega];exact q
  ·refine .inr (.inl ?_);rw[zcG];exact q
  ·refine .inr (.inr ?_);rw[zcG];exact q
theorem zjC {p n:Option Nat}{y:Nat}(h:y < zfC p n):p=some y∨n=some y:=by
 unfold zfC at h;split at h
 ·omega
 ·rename_i c;have c0:p=some 0∨n=some 0:=Decidable.byContradiction fun q=>c ⟨fun z=>q (.inl z),fun z=>q (.inr z)⟩;split at h
  ·have:y=0:=by omega
   subst this;exact c0
  ·rename_i d;have d0:p=some 1∨n=some 1:=Decidable.byContradiction fun q=>d ⟨fun z=>q (.inl z),fun z=>q (.inr z)⟩;have:y=0∨y=1:=by omega
   rcases this with rfl | rfl
   ·exact c0
   ·exact d0
def za3 (xs:List Nat)(k:Nat):List Nat:=(if k=0 then none else xs[k - 1]?).toList++xs[k+1]?.toList
theorem zgJ {xs:List Nat}{k y:Nat}:y∈za3 xs k↔(if k=0 then none else xs[k - 1]?)=some y∨xs[k+1]?=some y:=by
 unfold za3;rw[yaH,Option.mem_toList,Option.mem_toList]
def zeg (xs:List Nat)(k:Nat):Nat:=zfC (if k=0 then none else xs[k - 1]?) xs[k+1]?
theorem zlu {xs:List Nat}{k:Nat}:zeg xs k∉za3 xs k:=fun h=>by
 rcases zgJ.mp h with q | q
 ·exact zfh q rfl
 ·exact zhg q rfl
theorem ziS {xs:List Nat}{k y:Nat}(h:y < zeg xs k):y∈za3 xs k:=zgJ.mpr (zjC h)
theorem znr (xs:List Nat)(k:Nat):zeg xs k≤2:=zkO _ _
theorem zhB {v:Nat}{xs:List Nat}{k:Nat}(h:k < xs.length):(recL v xs)[k]?=some (if xs.getD k 0=v then zeg xs k else xs.getD k 0):=by
 unfold recL mapW;rw[zdB,yad,yac h];rfl
def mixL (v:Nat)(xs:List Nat)(k:Nat):List Nat:=(recL v xs).take k++xs.drop k
theorem zoK {v:Nat}{xs:List Nat}{k:Nat}(h:xs.length≤k):mixL v xs k=recL v xs:=by
 unfold mixL;rw[yar (by rw[zbi];exact h),yba h,yaN]
theorem zgo (v:Nat)(xs:List Nat)(k:Nat):(mixL v xs k).length=xs.length:=by
 unfold mixL;rw[yak,yao,yaY,zbi];omega
theorem zd6 (v:Nat)(xs:List Nat)(k j:Nat):(mixL v xs k)[j]?=if j < k then (recL v xs)[j]? else xs[j]?:=by
 unfold mixL;by_cases hk:k≤xs.length
 ·rw[List.getElem?_append,yao,zbi,ybs hk];split
  ·rw[ybI];rw[if_pos (by assumption)]
  ·rw[ybJ];congr 1;omega
 ·rw[yba (by omega),yaN,yar (by rw[zbi];omega)];split
  ·rfl
  ·rw[ya3 (by rw[zbi];omega),ya3 (by omega)]
theorem zmR {v:Nat}{xs:List Nat}{k j:Nat}(h:k≤j):(mixL v xs k)[j]?=xs[j]?:=by
 rw[zd6,if_neg (by omega)]
theorem zmP {v:Nat}{xs:List Nat}{k:Nat}(h:k < xs.length)(hv:xs.getD k 0≠v):mixL v xs (k+1)=mixL v xs k:=by
 apply ybe;intro j;rw[zd6,zd6];by_cases c:j < k
 ·rw[if_pos c,if_pos (by omega)]
 ·rw[if_neg c];split
  ·have:j=k:=by omega
   subst this;rw[zhB h,if_neg hv,yad,yac h];rfl
  ·rfl
theorem zmQ {v:Nat}{xs:List Nat}{k:Nat}(hu:Unl xs)(h:k < xs.length)(hv:xs.getD k 0=v):(if k=0 then none else (mixL v xs k)[k - 1]?)=if k=0 then none else xs[k - 1]?:=by
 cases k with
 | zero=>rfl
 | succ k=>
  show (mixL v xs (k+1))[k]?=xs[k]?;rw[zd6,if_pos (by omega),zhB (by omega)];have:=hu k h;rw[hv]at this;rw[if_neg this,yad,yac (show k < xs.length by omega)];rfl
theorem zjo {v:Nat}{xs:List Nat}{k:Nat}(hu:Unl xs)(h:k < xs.length)(hv:xs.getD k 0=v):za3 (mixL v xs k) k=za3 xs k:=by
 unfold za3;rw[zmQ hu h hv,zmR (j:=k+1) (by omega)]
theorem zoJ {v:Nat}{xs:List Nat}{k:Nat}(h:k < xs.length)(hv:xs.getD k 0=v):mixL v xs (k+1)=(mixL v xs k).set k (zeg xs k):=by
 apply ybe;intro j;rw[List.getElem?_set,zgo,zd6,zd6];by_cases c:k=j
 ·subst c;rw[if_pos rfl,if_pos h,if_pos (by omega),zhB h,if_pos hv]
 ·rw[if_neg c];by_cases c2:j < k
  ·rw[if_pos c2,if_pos (by omega)]
  ·rw[if_neg c2,if_neg (by omega)]
def zcE (sh:Nat)(cs:List Nat)(ms:List Bool):List Bool:=(zc2 sh (cs.zip ms)).map (·.2)
theorem zaZ {sh:Nat}{cs:List Nat}{ms:List Bool}(h:cs.length=ms.length):(zcE sh cs ms).length=ms.length:=by
 unfold zcE zc2;rw[yaa,zcH,yb8];omega
theorem zja {cs:List Nat}:∀{ms:List Bool},cs.length=ms.length→(cs.zip ms).map (·.1)=cs:=by
 induction cs with
 | nil=>intro ms _;rfl
 | cons c cs ih=>
  intro ms h;cases ms with
  | nil=>cases h
  | cons m ms=>
   show c::(cs.zip ms).map (·.1)=c::cs;rw[ih (Nat.succ.inj h)]
theorem zjT:∀(l:List (Nat×Bool)),(l.map (·.1)).zip (l.map (·.2))=l
 | []=>rfl
 | x::l=>by
  show x::(l.map (·.1)).zip (l.map (·.2))=x::l;rw[zjT l]
theorem zmT (sh:Nat)(l:List (Nat×Bool)):(zc2 sh l).map (·.1)=l.map (·.1):=by
 apply ybe;intro k;unfold zc2 mapW;rw[yal,yal,zdB];cases l[k]? <;> rfl
theorem ziF {sh:Nat}{cs:List Nat}{ms:List Bool}(h:cs.length=ms.length):zc2 sh (cs.zip ms)=cs.zip (zcE sh cs ms):=by
 have e:=zjT (zc2 sh (cs.zip ms));rw[zmT,zja h]at e;exact e.symm
theorem zl3 (cs:List Nat):zcW cs=cs.zip (cs.map fun _=>false):=by
 unfold zcW
 induction cs with
 | nil=>rfl
 | cons c cs ih=>
  show (c,false)::cs.map (fun x=>(x,false))=(c,false)::cs.zip (cs.map fun _=>false);rw[ih]
theorem ziD (cs:List Nat):zeZ cs=zcE 0 cs (zcE 1 cs (zcE 2 cs (cs.map fun _=>false))):=by
 have l1:cs.length=(cs.map fun _=>false).length:=by rw[yaa]
 have l2:cs.length=(zcE 2 cs (cs.map fun _=>false)).length:=by rw[zaZ l1,← l1]
 unfold zeZ zee;rw[zl3,ziF l1,ziF l2];rfl
theorem zd5 {sh:Nat}{cs:List Nat}{ms:List Bool}(hl:cs.length=ms.length){k:Nat}(h:k < cs.length):(zcE sh cs ms)[k]?=some (ms.getD k false || (decide (cs.getD k 0=sh) && decide (1≤k) && !ms.getD (k - 1) false && !ms.getD (k+1) false)):=by
 unfold zcE zc2 mapW;have gz:∀ j,(cs.zip ms)[j]?=if h:j < cs.length then some (cs[j],ms[j]'(by omega)) else none:=fun j=>by
  split
  ·rename_i q;rw[yac (by rw[yb8];omega),List.getElem_zip]
  ·exact ya3 (by rw[yb8];omega)
 have gm:∀ j,ms.getD j false=(((cs.zip ms)[j]?).map (·.2)).getD false:=fun j=>by
  rw[gz];split
  ·rw[yad,yac (by omega)];rfl
  ·rw[yad,ya3 (by omega)];rfl
 rw[yal,zdB,gm k,gm (k+1),gm (k - 1),yad,yac h];have e:=gz k;rw[dif_pos h]at e;rw[e];show some _=some _;unfold zqk;cases k with
 | zero=>simp
 | succ k=>
  have e2:=gz k;rw[dif_pos (by omega)]at e2;simp[e2]
def mixM (sh:Nat)(cs:List Nat)(ms:List Bool)(k:Nat):List Bool:=(zcE sh cs ms).take k++ms.drop k
theorem zoI {sh:Nat}{cs:List Nat}{ms:List Bool}(hl:cs.length=ms.length){k:Nat}(h:cs.length≤k):mixM sh cs ms k=zcE sh cs ms:=by
 unfold mixM;rw[yar (by rw[zaZ hl];omega),yba (by omega),yaN]
theorem zgn {sh:Nat}{cs:List Nat}{ms:List Bool}(hl:cs.length=ms.length)(k:Nat):(mixM sh cs ms k).length=cs.length:=by
 unfold mixM;rw[yak,yao,yaY,zaZ hl];omega
theorem zcT {sh:Nat}{cs:List Nat}{ms:List Bool}(hl:cs.length=ms.length)(k j:Nat):(mixM sh cs ms k)[j]?=if j < k then (zcE sh cs ms)[j]? else ms[j]?:=by
 unfold mixM;by_cases hk:k≤ms.length
 ·rw[List.getElem?_append,yao,zaZ hl,ybs hk];split
  ·rw[ybI];rw[if_pos (by assumption)]
  ·rw[ybJ];congr 1;omega
 ·rw[yba (by omega),yaN,yar (by rw[zaZ hl];omega)];split
  ·rfl
  ·rw[ya3 (by rw[zaZ hl];omega),ya3 (by omega)]
def zpG (ms:List Bool)(k:Nat):Bool:=!ms.getD (k - 1) false && !ms.getD k false && !ms.getD (k+1) false
theorem zmN {sh:Nat}{cs:List Nat}{ms:List Bool}(hl:cs.length=ms.length){k:Nat}(h:k < cs.length)(hn:¬ (1≤k∧cs.getD k 0=sh∧zpG ms k=true)):mixM sh cs ms (k+1)=mixM sh cs ms k:=by
 apply ybe;intro j;rw[zcT hl,zcT hl];by_cases c:j < k
 ·rw[if_pos c,if_pos (by omega)]
 ·rw[if_neg c];split
  ·have:j=k:=by omega
   subst this;rw[zd5 hl h];unfold zpG at hn;rw[yac (by omega)];have e:ms.getD j false=ms[j]'(by omega):=by
    rw[yad,yac (by omega)];rfl
   rw[e]at hn ⊢;congr 1;generalize ms[j]=a at hn ⊢;generalize ms.getD (j - 1) false=b at hn ⊢;generalize ms.getD (j+1) false=d at hn ⊢;cases a <;> cases b <;> cases d <;> simp at hn ⊢
   intro q;omega
  ·rfl
structure zdJ (ms:List Bool)(sp:List Nat):Prop where
 up:sp.Pairwise (· < ·)
 iff:∀ j,j∈sp↔ms.getD j false=true
theorem zn5 (ms:List Bool):zdJ ms ((List.range ms.length).filter fun k=>ms.getD k false):=by
 refine ⟨List.Pairwise.filter _ ycn,fun j=>?_⟩;rw[yaV,yaW];constructor
 ·exact fun h=>h.2
 ·intro h;refine ⟨?_,h⟩;rw[yad]at h;cases e:ms[j]? with
  | none=>rw[e]at h;cases h
  | some x=>exact (yah.mp e).1
theorem zdJ.lt {ms:List Bool}{sp:List Nat}(S:zdJ ms sp){j:Nat}(h:j∈sp):j < ms.length:=by
 have h:=(S.iff j).mp h;rw[yad]at h;cases e:ms[j]? with
 | none=>rw[e]at h;cases h
 | some x=>exact (yah.mp e).1
theorem zdJ.step {ms:List Bool}{sp:List Nat}(S:zdJ ms sp)(M:zdK ms){t:Nat}(h:t+1 < sp.length):sp[t]+2≤sp[t+1]∧sp[t+1]≤sp[t]+3:=by
 have up:=ya6.mp S.up;have lt:=up t (t+1) (by omega) h (by omega);have m0:=(S.iff _).mp (yaG (show t < sp.length by omega));have m1:=(S.iff _).mp (yaG h);have l1:=S.lt (yaG h);have no:∀ j,sp[t] < j→j < sp[t+1]→ms.getD j false=false:=fun j a b=>by
  cases e:ms.getD j false with
  | false=>rfl
  | true=>
   obtain ⟨u,hu,q⟩:=ya4 ((S.iff j).mpr e);have c1:¬ u≤t:=fun z=>by
    by_cases z':u=t
    ·subst z';omega
    ·have:=up u t hu (by omega) (by omega);omega
   have c2:¬ t+1≤u:=fun z=>by
    by_cases z':u=t+1
    ·subst z';omega
    ·have:=up (t+1) u h hu (by omega);omega
   omega
 refine ⟨?_,?_⟩
 ·by_cases c:sp[t+1]=sp[t]+1
  ·rw[c]at m1;exact (M.ind _ m0 m1).elim
  ·omega
 ·refine ybo fun c=>?_;rcases M.dom (sp[t]+2) (by omega) (by omega) with q | q | q
  ·rw[no (sp[t]+2 - 1) (by omega) (by omega)]at q;cases q
  ·rw[no (sp[t]+2) (by omega) (by omega)]at q;cases q
  ·rw[no (sp[t]+2+1) (by omega) (by omega)]at q;cases q
theorem zdJ.first {ms:List Bool}{sp:List Nat}(S:zdJ ms sp)(M:zdK ms)(h:2≤ms.length):∃ hp:0 < sp.length,1≤sp[0]∧sp[0]≤2:=by
 have ex:∃ j,j≤2∧ms.getD j false=true:=by
  rcases M.dom 1 (by omega) (by omega) with q | q | q
  ·exact ⟨0,by omega,q⟩
  ·exact ⟨1,by omega,q⟩
  ·exact ⟨2,by omega,q⟩
 obtain ⟨j,hj,e⟩:=ex;obtain ⟨u,hu,q⟩:=ya4 ((S.iff j).mpr e);refine ⟨by omega,?_,?_⟩
 ·have m0:=(S.iff _).mp (yaG (show 0 < sp.length by omega));refine yco fun z=>?_;rw[z,M.fst]at m0;cases m0
 ·by_cases c:u=0
  ·subst c;omega
  ·have:=ya6.mp S.up 0 u (by omega) hu (by omega);omega
theorem zdJ.last {ms:List Bool}{sp:List Nat}(S:zdJ ms sp)(M:zdK ms)(h:2≤ms.length)(hp:0 < sp.length):ms.length≤sp[sp.length - 1]+2:=by
 have ex:∃ j,ms.length - 2≤j∧ms.getD j false=true:=by
  rcases M.dom (ms.length - 1) (by omega) (by omega) with q | q | q
  ·exact ⟨_,by omega,q⟩
  ·exact ⟨_,by omega,q⟩
  ·exact ⟨_,by omega,q⟩
 obtain ⟨j,hj,e⟩:=ex;obtain ⟨u,hu,q⟩:=ya4 ((S.iff j).mpr e);by_cases c:u=sp.length - 1
 ·subst c;omega
 ·have:=ya6.mp S.up u (sp.length - 1) hu (by omega) (by omega);omega
theorem zdJ.low {ms:List Bool}{sp:List Nat}(S:zdJ ms sp)(M:zdK ms):∀(t:Nat) (h:t < sp.length),2 * t+1≤sp[t]
 | 0,h=>by
  have m0:=(S.iff _).mp (yaG h);refine yco fun z=>?_;rw[z,M.fst]at m0;cases m0
 | t+1,h=>by
  have a:=zdJ.low S M t (by omega);have b:=(S.step M h).1;omega
theorem zdJ.half {ms:List Bool}{sp:List Nat}(S:zdJ ms sp)(M:zdK ms):2 * sp.length≤ms.length:=by
 by_cases c:sp.length=0
 ·omega
 ·have a:=S.low M (sp.length - 1) (by omega);have b:=S.lt (yaG (show sp.length - 1 < sp.length by omega));omega
theorem zdJ.none {ms:List Bool}{sp:List Nat}(S:zdJ ms sp)(M:zdK ms)(h:ms.length < 2):sp=[]:=by
 have:=S.half M;exact ybC (by omega)
def zdj {α:Type}(es:List α)(ms:List Bool):List α:=((es.zip ms).filter (·.2)).map (·.1)
def colN (xs:List Nat):Nat→List Nat
 | 0=>xs
 | i+1=>recL (3+i) (colN xs i)
theorem zjJ (xs:List Nat)(i:Nat):(colN xs i).length=xs.length:=by
 induction i with
 | zero=>rfl
 | succ i ih=>rw[colN,zbi,ih]
theorem zo3 {xs:List Nat}(h:Unl xs)(i:Nat):Unl (colN xs i):=by
 induction i with
 | zero=>exact h
 | succ i ih=>exact zpd (zfQ (unlZ ih))
def mkN (cs:List Nat):Nat→List Bool
 | 0=>cs.map fun _=>false
 | i+1=>zcE (2 - i) cs (mkN cs i)
theorem zmM (cs:List Nat):mkN cs 3=zeZ cs:=(ziD cs).symm
theorem zlh (cs:List Nat)(i:Nat):cs.length=(mkN cs i).length:=by
 induction i with
 | zero=>rw[mkN,yaa]
 | succ i ih=>rw[mkN,zaZ ih,ih]
theorem zoH {sh:Nat}{cs:List Nat}{ms:List Bool}(hl:cs.length=ms.length):mixM sh cs ms 1=ms:=by
 by_cases h:0 < cs.length
 ·rw[zmN hl h (fun z=>by omega)];rfl
 ·have:ms=[]:=ybC (by omega);subst this;unfold mixM;rw[ybC (show (zcE sh cs []).length=0 by rw[zaZ hl];rfl)];rfl
def zaE (ps:List Nat):Prop:=∀ i (h:i < ps.length),ps[i]≤i
def par (ps:List Nat):Nat→Option Nat
 | 0=>none
 | k+1=>ps[k]?
theorem zaR {ps:List Nat}(T:zaE ps){k p:Nat}(h:par ps k=some p):p < k∧k < ps.length+1:=by
 cases k with
 | zero=>cases h
 | succ k=>
  obtain ⟨h1,rfl⟩:=yah.mp (show ps[k]?=some p from h);have:=T k h1;omega
theorem zkq {ps:List Nat}{k:Nat}(h1:1≤k)(h2:k < ps.length+1):∃ p,par ps k=some p:=by
 cases k with
 | zero=>omega
 | succ k=>exact ⟨_,yac (show k < ps.length by omega)⟩
theorem zom {ps:List Nat}{k:Nat}(h2:k < ps.length+1)(h:par ps k=none):k=0:=by
 cases k with
 | zero=>rfl
 | succ k=>
  have:=List.getElem?_eq_none_iff.mp (show ps[k]?=none from h);omega
def wayF (ps:List Nat)(one:Nat):Nat→Nat→Option (List Nat)
 | 0,_=>none
 | f+1,o=>if o=one then some [o] else match par ps o with
  | none=>none
  | some p=>(wayF ps one f p).map (· ++ [o])
theorem zh7 {ps:List Nat}(T:zaE ps){one:Nat}:∀ f g o,o < f→o < g→wayF ps one f o=wayF ps one g o
 | 0,_,_,h,_=>absurd h (ybD _)
 | _,0,_,_,h=>absurd h (ybD _)
 | f+1,g+1,o,hf,hg=>by
  unfold wayF;split
  ·rfl
  ·cases e:par ps o with
   | none=>rfl
   | some p=>
    have:=(zaR T e).1;show (wayF ps one f p).map _=(wayF ps one g p).map _;rw[zh7 T f g p (by omega) (by omega)]
def wayL (ps:List Nat)(one o:Nat):Option (List Nat):=wayF ps one (o+1) o
theorem zlO {ps:List Nat}{o:Nat}:wayL ps o o=some [o]:=by
 unfold wayL wayF;rw[if_pos rfl]
theorem zeu {ps:List Nat}(T:zaE ps){one o:Nat}(h:o≠one):wayL ps one o=match par ps o with
  | none=>none
  | some p=>(wayL ps one p).map (· ++ [o]):=by
 unfold wayL;rw[wayF,if_neg h];cases e:par ps o with
 | none=>rfl
 | some p=>
  show (wayF ps one o p).map _=(wayF ps one (p+1) p).map _;rw[zh7 T o (p+1) p (zaR T e).1 (by omega)]
theorem zlP {ps:List Nat}(T:zaE ps){one:Nat}:∀ n o,o≤n→o < one→wayL ps one o=none
 | n,o,hn,h=>by
  rw[zeu T (by omega)];cases e:par ps o with
  | none=>rfl
  | some p=>
   have hp:=(zaR T e).1;show (wayL ps one p).map _=none;cases n with
   | zero=>omega
   | succ n=>rw[zlP T n p (by omega) (by omega)];rfl
def zgV (ps:List Nat)(w:List Nat):Prop:=∀ t,t+1 < w.length→par ps (w.getD (t+1) 0)=some (w.getD t 0)
theorem zlG {ps:List Nat}{w:List Nat}{x:Nat}(h:zgV ps w)(hx:w≠[]→par ps x=some (w.getD (w.length - 1) 0)):zgV ps (w++[x]):=by
 intro t ht;rw[yak,yaE]at ht;have e0:(w++[x]).getD t 0=w.getD t 0:=by
  rw[yad,yad,ybk (by omega)]
 rw[e0];by_cases c:t+1 < w.length
 ·have e1:(w++[x]).getD (t+1) 0=w.getD (t+1) 0:=by
   rw[yad,yad,ybk c]
  rw[e1];exact h t c
 ·have et:t+1=w.length:=by omega
  have e1:(w++[x]).getD (t+1) 0=x:=by
   rw[yad,et,ya0 (yab _),ybK];rfl
  rw[e1];have:=hx (fun z=>by rw[z]at et;simp at et);rw[← et,ybG]at this;exact this
theorem znF {ps:List Nat}{w:List Nat}(h:zgV ps w)(i m:Nat):zgV ps ((w.drop i).take m):=fun t ht=>by
 rw[yao,yaY]at ht;rw[yad,yad,ybI,ybI,if_pos (by omega),if_pos (by omega),ybJ,ybJ,← yad,← yad];exact h (i+t) (by omega)
def isB (ps:List Nat)(k j:Nat):Bool:=(wayL ps k j).isSome
def benL (ps:List Nat)(k n:Nat):List Nat:=(List.range n).filter (isB ps k)
theorem zcv {ps:List Nat}{k:Nat}:isB ps k k=true:=by
 unfold isB;rw[zlO];rfl
theorem zdE {ps:List Nat}(T:zaE ps){k j:Nat}(h:j < k):isB ps k j=false:=by
 unfold isB;rw[zlP T j j (yab _) h];rfl
theorem zbS {ps:List Nat}(T:zaE ps){k j p:Nat}(h:j≠k)(e:par ps j=some p):isB ps k j=isB ps k p:=by
 unfold isB;rw[zeu T h,e];show ((wayL ps k p).map _).isSome=_;cases wayL ps k p <;> rfl
theorem zo6 {ps:List Nat}(T:zaE ps)(k:Nat):benL ps k (k+1)=[k]:=by
 unfold benL;rw[ybt,yaT];have e1:(List.range k).filter (isB ps k)=[]:=by
  rw[ybu];intro j hj z;rw[zdE T (yaW.mp hj)]at z;cases z
 rw[e1,List.nil_append,yaL zcv];rfl
theorem zcj {ps:List Nat}{k n j:Nat}:j∈benL ps k n↔j < n∧isB ps k j=true:=by
 unfold benL;rw[yaV,yaW]
theorem zgK {ps:List Nat}{k n:Nat}:benL ps k (n+1)=benL ps k n++(if isB ps k n=true then [n] else []):=by
 unfold benL;rw[ybt,yaT];congr 1;by_cases h:isB ps k n=true
 ·rw[if_pos h,yaL h];rfl
 ·rw[if_neg h,yaS h];rfl
theorem zhZ (ps:List Nat)(k n:Nat):(benL ps k n).length≤n:=by
 have:=ybb (isB ps k) (List.range n);rw[yaR]at this;exact this
theorem zjN (ps:List Nat)(k n:Nat):(benL ps k n).Pairwise (· < ·):=List.Pairwise.filter _ ycn
theorem zkI {ps:List Nat}(T:zaE ps):∀ n j,j≤n→j < ps.length+1→isB ps 0 j=true
 | n,j,hn,h=>by
  by_cases c:j=0
  ·rw[c];exact zcv
  ·obtain ⟨p,e⟩:=zkq (by omega) h;have:=(zaR T e).1;rw[zbS T c e];cases n with
   | zero=>omega
   | succ n=>exact zkI T n p (by omega) (by omega)
theorem znL {ps:List Nat}(T:zaE ps):benL ps 0 (ps.length+1)=List.range (ps.length+1):=by
 unfold benL;rw[yb9];exact fun j hj=>zkI T j j (yab _) (yaW.mp hj)
def zaH (ps:List Nat)(k n:Nat):List Nat:=(List.range n).filter fun j=>decide (par ps j=some k)
theorem zaD {ps:List Nat}{k n j:Nat}:j∈zaH ps k n↔j < n∧par ps j=some k:=by
 unfold zaH;rw[yaV,yaW,decide_eq_true_eq]
theorem zdl {ps:List Nat}{k n:Nat}:zaH ps k (n+1)=zaH ps k n++(if par ps n=some k then [n] else []):=by
 unfold zaH;rw[ybt,yaT];congr 1;by_cases h:par ps n=some k
 ·rw[if_pos h,yaL (by exact yag h)];rfl
 ·rw[if_neg h,yaS (by rw[yai h];decide)];rfl
theorem zcy (ps:List Nat)(k n:Nat):(zaH ps k n).length≤n:=by
 have:=ybb (fun j=>decide (par ps j=some k)) (List.range n);rw[yaR]at this;exact this
theorem zi0 (ps:List Nat)(k n:Nat):(zaH ps k n).Pairwise (· < ·):=List.Pairwise.filter _ ycn
theorem ze2 {ps:List Nat}(T:zaE ps){k:Nat}:∀ n j,j≤n→j < ps.length+1→(isB ps k j=true↔j=k∨∃ c,par ps c=some k∧isB ps c j=true)
 | n,j,hn,h=>by
  by_cases c:j=k
  ·constructor
   ·exact fun _=>.inl c
   ·intro _;rw[c];exact zcv
  ·cases e:par ps j with
   | none=>
    have j0:=zom h e;have no:∀ m,j≠m→isB ps m j=false:=fun m hm=>by
     unfold isB;rw[zeu T hm,e];rfl
    constructor
    ·intro z;rw[no k c]at z;cases z
    ·rintro (z | ⟨d,hd,z⟩)
     ·exact absurd z c
     ·by_cases y:j=d
      ·rw[← y,e]at hd;cases hd
      ·rw[no d y]at z;cases z
   | some p=>
    have hp:=(zaR T e).1;cases n with
    | zero=>omega
    | succ n=>
     have ih:=ze2 T (k:=k) n p (by omega) (by omega);rw[zbS T c e,ih];constructor
     ·rintro (z | ⟨d,hd,z⟩)
      ·refine .inr ⟨j,?_,zcv⟩;rw[e,z]
      ·by_cases y:j=d
       ·rw[← y]at z;rw[zdE T hp]at z;cases z
       ·exact .inr ⟨d,hd,by rw[zbS T y e];exact z⟩
     ·rintro (z | ⟨d,hd,z⟩)
      ·exact absurd z c
      ·by_cases y:j=d
       ·subst y;rw[e]at hd;exact .inl (yae hd)
       ·rw[zbS T y e]at z;exact .inr ⟨d,hd,z⟩
theorem ze3 {ps:List Nat}(T:zaE ps){k c d:Nat}(hc:par ps c=some k)(hd:par ps d=some k)(hcd:c≠d):∀ n j,j≤n→isB ps c j=true→isB ps d j=true→False
 | n,j,hn,h1,h2=>by
  by_cases e1:j=c
  ·subst e1;rw[zbS T hcd hc,zdE T (zaR T hd).1]at h2;cases h2
  ·by_cases e2:j=d
   ·subst e2;rw[zbS T e1 hd,zdE T (zaR T hc).1]at h1;cases h1
   ·cases e:par ps j with
    | none=>
     unfold isB at h1;rw[zeu T e1,e]at h1;cases h1
    | some p=>
     have hp:=(zaR T e).1;rw[zbS T e1 e]at h1;rw[zbS T e2 e]at h2;cases n with
     | zero=>omega
     | succ n=>exact ze3 T hc hd hcd n p (by omega) h1 h2
theorem zk6 {ps:List Nat}(T:zaE ps){k:Nat}(hk:k < ps.length+1):(k::((zaH ps k (ps.length+1)).map fun c=>benL ps c (ps.length+1)).flatten).Perm (benL ps k (ps.length+1)):=by
 have lt:∀{l:List Nat},l.Pairwise (· < ·)→l.Nodup:=fun h=>List.Pairwise.imp (fun {a b} (q:a < b)=>yaq q) h;refine (List.perm_ext_iff_of_nodup ?_ (lt (zjN ps k _))).mpr fun j=>?_
 ·rw[yaK];refine ⟨fun h=>?_,?_⟩
  ·obtain ⟨l,hl,hj⟩:=yca.mp h;obtain ⟨c,hc,rfl⟩:=yaF.mp hl;have h1:=(zaD.mp hc).2;have h2:=(zcj.mp hj).2;rw[zdE T (zaR T h1).1]at h2;cases h2
  ·show List.Pairwise _ _;rw[List.pairwise_flatten];refine ⟨fun l hl=>?_,?_⟩
   ·obtain ⟨c,hc,rfl⟩:=yaF.mp hl;exact lt (zjN ps c _)
   ·rw[ybT];refine List.Pairwise.imp_of_mem (fun {c d} hc hd hcd=>?_) (zi0 ps k _);intro x hx y hy z;subst z;exact ze3 T (zaD.mp hc).2 (zaD.mp hd).2 (yaq hcd) x x (yab _) (zcj.mp hx).2 (zcj.mp hy).2
 ·rw[yaj,yca,zcj];constructor
  ·rintro (rfl | ⟨l,hl,hj⟩)
   ·exact ⟨hk,zcv⟩
   ·obtain ⟨c,hc,rfl⟩:=yaF.mp hl;obtain ⟨h1,h2⟩:=zcj.mp hj;exact ⟨h1,(ze2 T j j (yab _) h1).mpr (.inr ⟨c,(zaD.mp hc).2,h2⟩)⟩
  ·rintro ⟨h1,h2⟩;rcases (ze2 T j j (yab _) h1).mp h2 with q | ⟨c,hc,q⟩
   ·exact .inl q
   ·exact .inr ⟨_,yaF.mpr ⟨c,zaD.mpr ⟨(zaR T hc).2,hc⟩,rfl⟩,zcj.mpr ⟨h1,q⟩⟩
def zr7 (t u:TS):TS:=fun D σ H=>∀ N:L2.St→Hp→Prop,(∀ σ' H',u D σ' H'→N σ' H')→t { D with nx:=N } σ H
theorem zaw {X:Cx}{st:Stmt}{rest:List Stmt}{t u:TS}(h1:PS X st t)(h2:PSs X rest u):PSs X (st::rest) (zr7 t u):=fun pins s σ H D I h=>zaj h1 h2 pins s σ H D I (h (u D) fun _ _ z=>z)
def zr5 (t u:TS):TS:=fun D σ H=>∃ M:L2.St→Hp→Prop,(∀ N:L2.St→Hp→Prop,(∀ σ' H',M σ' H'→N σ' H')→t { D with nx:=N } σ H)∧∀ σ' H',M σ' H'→u D σ' H'
theorem zbZ {X:Cx}{st:Stmt}{rest:List Stmt}{t u:TS}(h1:PS X st t)(h2:PSs X rest u):PSs X (st::rest) (zr5 t u):=fun pins s σ H D I h=>by
 obtain ⟨M,h3,h4⟩:=h;exact zbk h1 h2 pins s σ H D I ⟨M,h3 M fun _ _ z=>z,h4⟩
theorem zoT {tb:TS}{D:Ends}{Pn:L2.St→Hp→Prop}{i:Nat}{x:V}{σ:L2.St}{H:Hp}(h:∀(N B:L2.St→Hp→Prop) (R:VK),(∀ σ H,Pn σ H→N σ H)→(∀ σ H,D.nx σ H→B σ H)→(∀ v H,D.rt v H→R v H)→tb { nx:=N,rt:=R,bk:=B,ct:=N } (σ.set i (some x)) H):zgR i x σ H fun σ2 H2=>tb { D with nx:=Pn,ct:=Pn,bk:=D.nx } σ2 H2:=h Pn D.nx D.rt (fun _ _ z=>z) (fun _ _ z=>z) (fun _ _ z=>z)
theorem zp6 {X:Cx}{K:Frag}{A:Around}(α:Type)[Rep α](hu:A.units+Rep.depth α < cLine)(hK:X.K=K:=by rfl)(hA:X.A=A:=by rfl):OpR X (compareOp .NotEq) (rNeD α K):=by
 subst hK hA;exact zgl α hu
seal PSs PS PE PT PW PA PI PG PO
section
variable {P:Program}{w:World}{K:Frag}{mg:Str→Option Value}{base:Heap}
theorem zov (T:Txt K mg)(qbF:DF K mg "_law_mixed" zeE zdW):FC P w K mg base 1 "_law_mixed" zdW zl7:=by
 refine qbF.ok qbm (fun vs H Q E h=>?_) (fun f cdv A outer s H vs Q E hr h=>?_)
 ·obtain ⟨c,k,rfl,_⟩:=h;rfl
 obtain ⟨c,k,rfl,q⟩:=h;refine ⟨_,(zaj (zat (i:=2) qbm.nd rfl (Or.inl rfl) (zaz zfp (zaz zc1 (zaz za4 (zaz za4 (zaz zfp (pv 0) zae) (zaz zc1 zae (pv 1))) zae) zae) zae))
   (zaj (zat (i:=3) qbm.nd rfl (Or.inl rfl) (zaz zfp (zaz za4 (zaz za4 (zaz zc1 (pv 2) (pv 2)) (zaz zc1 zae (pv 2))) (pv 1)) zae))
   (zag (zas (zaz zjk (zaz zfp (zaz za4 (zaz za4 (zaz zc1 (pv 3) (pv 3)) (zaz zc1 zae (pv 3))) (zaz zc1 zae (pv 1))) zae) zae))))),?_⟩
 walk_at "rd"
 exact q _
theorem zoE (T:Txt K mg)(qbG:DF K mg "_law_begin" zeH zdZ):FC P w K mg base 1 "_law_begin" zdZ (zme K):=by
 refine qbG.ok qcG (fun vs H Q E h=>?_) (fun f cdv A outer s H vs Q E hr h=>?_)
 ·obtain ⟨L,ns,rfl,_⟩:=h;rfl
 obtain ⟨L,ns,rfl,hS,q⟩:=h;refine ⟨_,(zag (zas (zmr (zfV zdy (pv 0) (zfV zdy zae (zfV zdy zae zmm))) rfl rfl (by simp) (by decide)))),?_⟩;intro p hp;refine ⟨_,rfl,zac,[(.inr "script",.ref L),(.inr "at",.int 0),(.inr "left",.int 0)],rfl,(by show 3≤15;decide),?_⟩;have e:upd (upd H p (.dK [])) p (.dK (zdA [] [(.inr "script",.ref L),(.inr "at",.int 0),(.inr "left",.int 0)]))=upd H p (zdi L 0 0):=by
  rw[zpJ];have:zdA [] [((.inr "script" : Key),V.ref L),(.inr "at",.int 0),(.inr "left",.int 0)]=[(.inr "script",.ref L),(.inr "at",.int 0),(.inr "left",.int 0)]:=by
   have a1:putK [] (.inr "script" : Key) (V.ref L)=[(.inr "script",.ref L)]:=zdc (kvs:=[]) _ rfl;have a2:putK [((.inr "script" : Key),V.ref L)] (.inr "at") (.int 0)=[(.inr "script",.ref L),(.inr "at",.int 0)]:=by
    rw[zdc _ (by rw[zaQ (zef (show ("script" : Str) ≠ "at" by decide +kernel))];rfl)];rfl
   have a3:putK [((.inr "script" : Key),V.ref L),(.inr "at",.int 0)] (.inr "left") (.int 0)=[(.inr "script",.ref L),(.inr "at",.int 0),(.inr "left",.int 0)]:=by
    rw[zdc _ (by rw[zaQ (zef (show ("script" : Str) ≠ "left" by decide +kernel)),zaQ (zef (show ("at" : Str) ≠ "left" by decide +kernel))];rfl)];rfl
   unfold zdA;simp only[List.foldl_cons,List.foldl_nil];rw[a1,a2,a3]
  rw[this];rfl
 rw[e];exact q p _ hp (zai hp _) ⟨ns,0,0,zac,(zai hp _).seq hS⟩
theorem zp7 (T:Txt K mg)(qb4:DF K mg "_law_take" zfL zbo)(qcN:FC P w K mg base 1 "_law_mixed" zdW zl7):FC P w K mg base 2 "_law_take" zbo (zea K):=by
 refine qb4.ok qaJ (fun vs H Q E h=>?_) (fun f cdv A outer s H vs Q E hr h=>?_)
 ·obtain ⟨d,L,m,rfl,_⟩:=h;rfl
 obtain ⟨d,L,m,rfl,⟨hm,hm'⟩,⟨ns,a,l,hd,hS⟩,q⟩:=h;refine ⟨_,(zaj (zat (i:=2) qaJ.nd rfl (Or.inl rfl) (zde (zdr hr) (pv 0) zdy (fun _ _=>rfl)))
   (zaj (zat (i:=3) qaJ.nd rfl (Or.inl rfl) (zde (zdr hr) (pv 0) zdy (fun _ _=>rfl)))
   (zbk (zbu (zay zeo (zde (zdr hr) (pv 0) zdy (fun _ _=>rfl)) zae (zaA _)) (zaj (zel (zdr hr) (pv 0) zdy (zaz za4 (pv 2) zae) rfl)
   (zaj (zat (i:=4) qaJ.nd rfl (Or.inl rfl) zae)
   (zbk (zbu (zay zjj (zau zar rfl T.qat boot_len (zaa (pv 3) zad)) zae (zaA _)) (zag (zat (i:=4) qaJ.nd rfl (Or.inl rfl) (zaq zax (pv 3) (zaz zfp (pv 2) (zau zar rfl T.qat boot_len (zaa (pv 3) zad))) (fun _ _=>rfl)))) zaI)
   (zbk (zbu (PW.pt (ziq (zay zoq (pv 2) (zau zar rfl T.qat boot_len (zaa (pv 3) zad)) (zaA _)) (zfm (zay zgm (zau zkV rfl T.qdm boot_abs (zaa (pv 4) zad)) (zaz zgk zae zae) (zaA _))))) (zag (zas (zaz zfp (zav qcN hr (zaa (pv 4) (zaa (pv 2) zad))) (pv 1)))) zaI)
   (zag (zel (zdr hr) (pv 0) zdy (zau zkV rfl T.qdm boot_abs (zaa (pv 4) zad)) rfl)))))) zaI)
   (zaj (zat (i:=5) qaJ.nd rfl (Or.inl rfl) (zaz zfp (zde (zdr hr) (pv 0) zdy (fun _ _=>rfl)) (pv 1)))
   (zaj (zel (zdr hr) (pv 0) zdy (zaz zjk (zde (zdr hr) (pv 0) zdy (fun _ _=>rfl)) (pv 1)) rfl)
   (zag (zas (pv 5)))))))),?_⟩
 refine ⟨_,rfl,_,_,rfl,zrR hd,_,rfl,_,_,rfl,zls hd,?_⟩;refine ⟨fun σ' H'=>∃(x2 x3 x4 x5:Option V) (a' l':Int),σ'=[some (.ref d),some (.int m),x2,x3,x4,x5]∧H' d=some (zdi L a' l')∧Keep d H H',?_,?_⟩
 ·refine ⟨_,rfl,_,_,rfl,zhS hd,rfl,_,rfl,?_⟩;refine ite2 (fun _=>?_) (fun _=>?_)
  ·refine ⟨_,rfl,_,_,rfl,rfl,_,rfl,_,_,rfl,zrj hd,?_⟩;have hd1:upd H d (zdi L (a+1) l) d=some (zdi L (a+1) l):=zac;obtain ⟨-,k1⟩:=LS.set (a':=a+1) (l':=l) hd hS;have hS1:=zhw hd k1 hS;generalize upd H d (zdi L (a+1) l)=H1 at hd1 k1 hS1 ⊢;refine ⟨fun σ' H'=>∃ c:Int,σ'=[some (.ref d),some (.int m),some (.int a),some (.ref L),some (.int c),none]∧H1=H',?_,?_⟩
   ·refine ⟨_,rfl,_,_,rfl,.inl hS1,_,_,rfl,rfl,_,rfl,?_⟩;refine ite2 (fun c=>?_) (fun c=>?_)
    ·have c':(0:Int) < (((ns.map V.int).length:Nat):Int):=yaB c;obtain ⟨v,hv⟩:=zr1 (ns:=ns) (k:=a) (by rw[yaa]at c';omega);refine ⟨_,rfl,_,rfl,_,rfl,_,_,rfl,.inl hS1,_,_,rfl,rfl,c',_,_,_,_,rfl,rfl,hS1,hv,?_⟩;exact ⟨v,rfl,rfl⟩
    ·exact ⟨0,rfl,rfl⟩
   rintro σ' H' ⟨c,rfl,rfl⟩;refine ⟨fun σ' H'=>σ'=[some (.ref d),some (.int m),some (.int a),some (.ref L),some (.int c),none]∧H1=H',?_,?_⟩
   ·refine ⟨_,rfl,_,rfl,_,_,rfl,.inl hS1,_,_,rfl,rfl,_,rfl,?_⟩;refine ite2 (fun _=>?_) (fun _=>?_)
    ·refine iteT ?_;refine ⟨_,rfl,_,rfl,c,a,rfl,fun v=>⟨_,rfl,_,_,rfl,rfl,hm,?_⟩⟩;exact q _ _ (yb2 _ (by omega)) (yb3 _ hm) k1 ⟨ns,a+1,l,hd1,hS1⟩
    ·refine ⟨_,rfl,_,rfl,_,_,rfl,rfl,⟨by decide,by decide,by decide⟩,_,_,rfl,rfl,_,rfl,?_⟩;refine ite2 (fun _=>?_) (fun _=>?_)
     ·refine ⟨_,rfl,_,rfl,c,a,rfl,fun v=>⟨_,rfl,_,_,rfl,rfl,hm,?_⟩⟩;exact q _ _ (yb2 _ (by omega)) (yb3 _ hm) k1 ⟨ns,a+1,l,hd1,hS1⟩
     ·exact ⟨rfl,rfl⟩
   rintro σ' H' ⟨rfl,rfl⟩;refine ⟨_,rfl,_,rfl,_,rfl,_,_,rfl,zkj hd1,?_⟩;obtain ⟨-,k2⟩:=LS.set (a':=a+1) (l':=if c < 0 then -c else c) hd1 hS1
   exact ⟨_,_,_,_,_,_,rfl,zac,k1.trans k2⟩
  ·exact ⟨_,_,_,_,a,l,rfl,hd,Keep.refl _ _⟩
 rintro σ' H' ⟨x2,x3,x4,x5,a',l',rfl,hd',k'⟩;have hS':=zhw hd k' hS;refine ⟨_,rfl,_,_,rfl,zhS hd',_,rfl,_,_,rfl,rfl,hm,?_⟩;refine ⟨_,rfl,_,_,rfl,zhS hd',_,rfl,_,_,rfl,rfl,⟨hm,hm'⟩,_,rfl,_,_,rfl,zkj hd',?_⟩;obtain ⟨s1,k1⟩:=LS.set (a':=a') (l':=l' / m) hd' hS';refine ⟨_,rfl,?_⟩;exact q _ _ (yb2 _ (by omega)) (yb3 _ hm) (k'.trans k1) s1
inductive zb8 (K:Frag)(H:Hp):V→Bool→Prop where
 | int (i:Int):zb8 K H (.int i) true
 | bl (b:Bool):zb8 K H (.bl b) false
 | oth (x:V) (t:String) (ty:TyOf K H x (.type t)) (h2:kitO t "int" = some false):zb8 K H x false
def zjc (K:Frag):Sp:=fun vs H Q _=>∃(x:V) (b:Bool),vs=[x]∧zb8 K H x b∧Q (.bl b) H
theorem zor (T:Txt K mg)(qbo:DF K mg "is_whole" zdO zcC):FC P w K mg base 1 "is_whole" zcC (zjc K):=by
 refine qbo.ok qcl (fun vs H Q E h=>?_) (fun f cdv A outer s H vs Q E hr h=>?_)
 ·obtain ⟨x,b,rfl,_⟩:=h;rfl
 obtain ⟨x,b,rfl,hk,q⟩:=h;refine ⟨_,(zag (zas (zms (zau ze6 rfl T.qas boot_isinstance (zaa (pv 0) (zaa (zgj (v:=.ty "int") rfl T.qdt boot_int rfl) zad))) (zkm (zrm (zau ze6 rfl T.qas boot_isinstance (zaa (pv 0) (zaa (zgj (v:=.ty "bool") rfl T.qdn boot_bool rfl) zad)))))))),?_⟩;cases hk with
 | int i=>
  refine ⟨_,rfl,_,_,_,_,rfl,.int _,zrG,_,rfl,?_⟩;refine iteT ?_;refine ⟨_,rfl,_,_,_,_,rfl,.int _,zrH,_,rfl,?_⟩;exact q
 | bl c=>
  refine ⟨_,rfl,_,_,_,_,rfl,.bl _,(show kitO "bool" "int" = some true by decide +kernel),_,rfl,?_⟩;refine iteT ?_;refine ⟨_,rfl,_,_,_,_,rfl,.bl _,zrI,_,rfl,?_⟩;exact q
 | oth x t ty h2=>
  refine ⟨_,rfl,_,_,_,_,rfl,ty,h2,_,rfl,?_⟩;refine iteF ?_;exact q
def zrc:Sp:=fun vs H Q _=>∃ a b:Nat,vs=[.int a,.int b]∧a≠b∧Q (.int (lu a b:Nat)) H
theorem zrv (T:Txt K mg)(qaC:DF K mg "lowest_unlike" zbX zbP):FC P w K mg base 1 "lowest_unlike" zbP zrc:=by
 refine qaC.ok qaQ (fun vs H Q E h=>?_) (fun f cdv A outer s H vs Q E hr h=>?_)
 ·obtain ⟨a,b,rfl,_⟩:=h;rfl
 obtain ⟨a,b,rfl,hab,q⟩:=h;refine ⟨_,(zaj (zat (i:=2) qaQ.nd rfl (Or.inl rfl) (zaz zrr (pv 0) (pv 1)))
   (zag (zas (zaz zck (zpt F.plainAttrs_int F.slot_int_bit_length F.type_int_bit_length zhM (zaz zpu (pv 2) (zgh zdt (pv 2)))) zae)))),?_⟩
 refine ⟨_,rfl,_,rfl,_,_,rfl,rfl,_,rfl,_,rfl,_,rfl,_,_,rfl,rfl,rfl,_,rfl,rfl,_,_,rfl,rfl,?_⟩;rw[← zrD a b hab]at q;exact q
def zn6 (K:Frag):Sp:=fun vs H Q _=>∃ d L:Addr,vs=[.ref d]∧LS K L d H∧∀(v:Int) (H':Hp),-(10 ^ 60) < v→v < 10 ^ 60→Keep d H H'→LS K L d H'→Q (.int v) H'
theorem zoO {x m:Int}(h1:-999≤x)(h2:x≤999)(h3:0 < m)(h4:m≤10 ^ 57):-(10 ^ 60) < x * m∧x * m < 10 ^ 60:=by
 have a:=Int.mul_le_mul_of_nonneg_right h2 (Int.le_of_lt h3);have b:=Int.mul_le_mul_of_nonneg_right h1 (Int.le_of_lt h3);omega
theorem zrx (T:Txt K mg)(qcr:DF K mg "_law_key" zhA zeR)(qaa:FC P w K mg base 2 "_law_take" zbo (zea K)):FC P w K mg base 3 "_law_key" zeR (zn6 K):=by
 refine qcr.ok qcB (fun vs H Q E h=>?_) (fun f cdv A outer s H vs Q E hr h=>?_)
 ·obtain ⟨d,L,rfl,_⟩:=h;rfl
 obtain ⟨d,L,rfl,hs,q⟩:=h;refine ⟨_,(zaj (zat (i:=1) qcB.nd rfl (Or.inl rfl) (zav qaa hr (zaa (pv 0) (zaa zae zad))))
   (zbk (zbu (zay zgm (pv 1) zae (zaA _)) (zag (zas (zav qaa hr (zaa (pv 0) (zaa zae zad))))) zaI)
   (zbk (zbu (zay zgm (pv 1) zae (zaA _)) (zag (zas (zaz zck (zav qaa hr (zaa (pv 0) (zaa zae zad))) zae))) zaI)
   (zbk (zbu (zay zeo (pv 1) zae (zaA _)) (zag (zas (zaz zc1 (zaz zck (zav qaa hr (zaa (pv 0) (zaa zae zad))) zae) (zaq zax (zbg (zaa zae (zaa (zaz zgk zae zae) (zaa (zaz zgk zae zae) (zaa (zaz zgk zae zae) zad))))) (zav qaa hr (zaa (pv 0) (zaa zae zad))) (fun _ _=>rfl))))) zaI)
   (zag (zas (zaz zc1 (zaq zax (zbg (zaa zae (zaa (zgh zdt zae) zad))) (zav qaa hr (zaa (pv 0) (zaa zae zad))) (fun _ _=>rfl)) (zaz zck (zaz zck (zaz zgk zae zae) zae) (zav qaa hr (zaa (pv 0) (zaa zae zad))))))))))),?_⟩
 refine ⟨_,rfl,d,L,8,rfl,by decide,hs,fun w1 H1 w0 w8 k1 s1=>?_⟩;have nd:∀{H':Hp} {p:Addr},LS K L d H'→H' p=none→p≠d:=fun s hp z=>by
  obtain ⟨_,_,_,e,_⟩:=s.ex;rw[← z,hp]at e;cases e
 refine ⟨fun σ' H'=>σ'=[some (.ref d),some (.int w1)]∧H1=H',?_,?_⟩
 ·refine ⟨_,rfl,_,_,rfl,rfl,_,rfl,?_⟩;refine ite2 (fun c=>?_) (fun c=>?_)
  ·refine ⟨_,rfl,d,L,10,rfl,by decide,s1,fun u H2 u0 u1 k2 s2=>?_⟩;exact q u H2 (by omega) (by omega) (k1.trans k2) s2
  ·exact ⟨rfl,rfl⟩
 rintro σ' H' ⟨rfl,rfl⟩;refine ⟨fun σ' H'=>σ'=[some (.ref d),some (.int w1)]∧H1=H',?_,?_⟩
 ·refine ⟨_,rfl,_,_,rfl,rfl,_,rfl,?_⟩;refine ite2 (fun c=>?_) (fun c=>?_)
  ·refine ⟨_,rfl,d,L,60,rfl,by decide,s1,fun u H2 u0 u1 k2 s2=>⟨_,_,rfl,rfl,?_⟩⟩;exact q (u - 30) H2 (by omega) (by omega) (k1.trans k2) s2
  ·exact ⟨rfl,rfl⟩
 rintro σ' H' ⟨rfl,rfl⟩;refine ⟨fun σ' H'=>σ'=[some (.ref d),some (.int w1)]∧H1=H',?_,?_⟩
 ·refine ⟨_,rfl,rfl,_,rfl,?_⟩;refine ite2 (fun c=>?_) (fun c=>?_)
  ·refine ⟨_,rfl,d,L,1999,rfl,by decide,s1,fun u H2 u0 u1 k2 s2=>⟨_,_,rfl,rfl,?_⟩⟩;refine ⟨_,_,rfl,rfl,⟨by decide,by decide,by decide⟩,_,_,rfl,rfl,⟨by decide,by decide,by decide⟩,_,_,rfl,rfl,⟨by decide,by decide,by decide⟩,(by show 4≤sizeLine;decide),fun p hp=>?_⟩;refine ⟨_,rfl,d,L,4,rfl,by decide,s2.of_new hp _,fun b H3 b0 b1 k3 s3=>?_⟩;obtain ⟨m,hat,m0,m1⟩:∃ m:Int,atI [V.int 1,V.int (10 ^ (19:Int).toNat),V.int (10 ^ (38:Int).toNat),V.int (10 ^ (57:Int).toNat)] b=some (.int m)∧0 < m∧m≤10 ^ 57:=by
    have z:b=0∨b=1∨b=2∨b=3:=by omega
    rcases z with rfl | rfl | rfl | rfl
    ·exact ⟨_,rfl,by decide +kernel,by decide +kernel⟩
    ·exact ⟨_,rfl,by decide +kernel,by decide +kernel⟩
    ·exact ⟨_,rfl,by decide +kernel,by decide +kernel⟩
    ·exact ⟨_,rfl,by decide +kernel,by decide +kernel⟩
   refine ⟨_,_,_,_,rfl,rfl,SqL.of (k3 p _ (nd s2 hp) zac),hat,_,_,rfl,rfl,.inl ⟨by omega,by omega⟩,?_⟩;obtain ⟨f1,f2⟩:=zoO (x:=u - 999) (m:=m) (by omega) (by omega) m0 m1;exact q _ H3 f1 f2 ((k1.trans k2).trans ((zai hp _).keep.trans k3)) s3
  ·exact ⟨rfl,rfl⟩
 rintro σ' H' ⟨rfl,rfl⟩;refine ⟨_,rfl,(by show 2≤sizeLine;decide),fun p hp=>?_⟩;refine ⟨_,rfl,d,L,2,rfl,by decide,s1.of_new hp _,fun b H2 b0 b1 k2 s2=>?_⟩;obtain ⟨m,hat,hm⟩:∃ m:Int,atI [V.int 1,V.int (-1)] b=some (.int m)∧(m=1∨m = -1):=by
  have z:b=0∨b=1:=by omega
  rcases z with rfl | rfl
  ·exact ⟨_,rfl,.inl rfl⟩
  ·exact ⟨_,rfl,.inr rfl⟩
 refine ⟨_,_,_,_,rfl,rfl,SqL.of (k2 p _ (nd s1 hp) zac),hat,_,_,rfl,rfl,⟨by decide,by decide,by decide⟩,_,_,rfl,rfl,_,rfl,d,L,3,rfl,by decide,s2,fun u H3 u0 u1 k3 s3=>⟨_,_,rfl,rfl,_,_,rfl,rfl,.inl ⟨by omega,by omega⟩,?_⟩⟩;have e60:(10:Int) ^ (60:Int).toNat=10 ^ 60:=rfl;rw[e60];have kk:=k1.trans ((zai hp _).keep.trans (k2.trans k3));rcases hm with rfl | rfl
 ·exact q _ H3 (by omega) (by omega) kk s3
 ·exact q _ H3 (by omega) (by omega) kk s3
def Rise (es:List (Int×Int)):Prop:=es.Pairwise fun a b=>pLt a b=true
def zet (k:Int)(e:Int×Int):Prop:=-(10 ^ 60) < e.1∧e.1 < 10 ^ 60∧0≤e.2∧e.2 < k
theorem zml {κ:Type}[DecidableEq κ](kvs:List (κ×V))(k:κ)(v:V):(putK kvs k v).map (·.1)=if (kvs.any fun kv=>decide (kv.1=k))=true then kvs.map (·.1) else kvs.map (·.1)++[k]:=by
 unfold putK;split
 ·rw[yaZ];apply ycp;intro a ha;show (if a.1=k then (a.1,v) else a).1=a.1
  split <;> rfl
 ·rw[yan];rfl
def ziZ (e:Int×Int):Int:=64 * (if 0≤e.1 then 2 * e.1 else -2 * e.1 - 1)+e.2
def zgU (e:Int×Int):Nat:=(ziZ e).toNat
theorem zf8 {e:Int×Int}(h:zet 64 e):((zgU e:Nat):Int)=ziZ e:=by
 obtain ⟨h1,h2,h3,h4⟩:=h;unfold zgU ziZ;split <;> omega
theorem zo4 {e:Int×Int}(h:zet 64 e):zgU e < 2 ^ 207:=by
 have z:=zf8 h;obtain ⟨h1,h2,h3,h4⟩:=h;unfold ziZ at z;split at z <;> omega
theorem znD {e f:Int×Int}(h:zet 64 e)(g:zet 64 f)(z:zgU e=zgU f):e=f:=by
 have z1:=zf8 h;have z2:=zf8 g;obtain ⟨h1,h2,h3,h4⟩:=h;obtain ⟨g1,g2,g3,g4⟩:=g;obtain ⟨a,b⟩:=e;obtain ⟨c,d⟩:=f;rw[z,z2]at z1;unfold ziZ at z1;dsimp only at *;have:a=c∧b=d:=by
  split at z1 <;> split at z1 <;> omega
 rw[this.1,this.2]
def zpp (K:Frag):Sp:=fun vs H Q _=>∃(v:V) (e:Int×Int),vs=[v]∧Rep.has K H e v∧Q (.int (ziZ e)) H
theorem zqg (T:Txt K mg)(qcO:DF K mg "code" zkg zhF):FC P w K mg base 1 "code" zhF (zpp K):=by
 refine qcO.ok qcm (fun vs H Q E h=>?_) (fun f cdv A outer s H vs Q E hr h=>?_)
 ·obtain ⟨v,e,rfl,_⟩:=h;rfl
 obtain ⟨v,e,rfl,he,q⟩:=h;obtain ⟨p,x1,x2,rfl,hT,e1,e2⟩:=(show hasP K H e v from he);have hT:=SqT.of (K:=K) hT;have e1:x1=.int e.1:=e1;have e2:x2=.int e.2:=e2;subst e1 e2;refine ⟨_,(zaj (zat (i:=1) qcm.nd rfl (Or.inl rfl) (zaq zaF (pv 0) zae (fun _ _=>rfl)))
   (zaj (zat (i:=2) qcm.nd rfl (Or.inl rfl) (zkn (zay zoq (pv 1) zae (zaA _)) (zaz zc1 zae (pv 1)) (zaz zck (zaz zc1 (zgh zdt zae) (pv 1)) zae)))
   (zag (zas (zaz za4 (zaz zc1 (zfW rfl T.qbW) (pv 2)) (zaq zaF (pv 0) zae (fun _ _=>rfl))))))),?_⟩
 refine ⟨_,rfl,_,_,_,_,rfl,rfl,hT,rfl,?_⟩;refine ⟨_,rfl,_,_,rfl,rfl,_,rfl,?_⟩;refine ite2 (fun c=>?_) (fun c=>?_)
 ·have c':0≤e.1:=yaB c;refine ⟨_,rfl,_,_,rfl,rfl,.inl ⟨by decide,by decide⟩,?_⟩;refine ⟨_,rfl,_,_,rfl,rfl,.inl ⟨by decide,by decide⟩,_,rfl,_,_,_,_,rfl,rfl,hT,rfl,_,_,rfl,rfl,?_⟩;unfold ziZ at q;rw[if_pos c']at q;exact q
 ·have c':¬ 0≤e.1:=ycq (ybH.mpr c);refine ⟨_,rfl,_,rfl,_,_,rfl,rfl,.inl ⟨by decide,by decide⟩,_,_,rfl,rfl,?_⟩;refine ⟨_,rfl,_,_,rfl,rfl,.inl ⟨by decide,by decide⟩,_,rfl,_,_,_,_,rfl,rfl,hT,rfl,_,_,rfl,rfl,?_⟩;unfold ziZ at q;rw[if_neg c']at q;exact q
abbrev nV (n:Nat):V:=.int (n:Int)
theorem zky {v:Int}(h:0≤v):∃ n:Nat,v=(n:Int):=⟨v.toNat,by omega⟩
theorem zhm {xs:List Nat}{i:Nat}(h:i < xs.length):atI (xs.map nV) (i:Int)=some (nV (xs.getD i 0)):=
 zaP (by rw[yal,yac h,yad,yac h];rfl)
theorem zqO {xs:List Nat}{i:Nat}(h0:i≠0)(h:i < xs.length):atI (xs.map nV) ((i:Int) - 1)=some (nV (xs.getD (i - 1) 0)):=by
 have e:(i:Int) - 1=((i - 1:Nat):Int):=by omega
 rw[e];exact zhm (by omega)
theorem zhd {xs:List Nat}{i:Nat}{x:V}(h:(xs.map nV)[i]?=some x):i < xs.length∧x=nV (xs.getD i 0):=by
 rw[yal]at h;cases e:xs[i]? with
 | none=>rw[e]at h;cases h
 | some y=>
  rw[e]at h;refine ⟨(yah.mp e).1,?_⟩;rw[yad,e];exact (yae h).symm
theorem zqP (n:Nat):Builtin.bitAnd (n:Int) 1=((n % 2:Nat):Int):=by
 unfold Builtin.bitAnd;rw[yag (ybi n),yag (by decide:(0:Int)≤1)];show ((n &&& 1:Nat):Int)=_;rw[Nat.and_one_is_mod]
theorem zrV (a b:Nat):2 * ((lu a b:Nat):Int)+Builtin.bitAnd ((b:Int) / 2 ^ ((lu a b:Nat):Int).toNat) 1=((fig a b:Nat):Int):=by
 have e:(b:Int) / 2 ^ ((lu a b:Nat):Int).toNat=((b / 2 ^ lu a b:Nat):Int):=by
  rw[ya7,Int.natCast_ediv,Int.natCast_pow];rfl
 rw[e,zqP];unfold fig;omega
theorem zkx {K:Frag}{H:Hp}{xs:List Nat}:zao K H (xs.map fun n:Nat=>(n:Int)) (xs.map nV):=by
 have e:xs.map nV=(xs.map fun n:Nat=>(n:Int)).map V.int:=by rw[yaZ];rfl
 rw[e];exact zao.ints
def But (p:Addr)(H H':Hp):Prop:=∀ b o,b≠p→H b=some o→H' b=some o
theorem But.sq {K:Frag}{p:Addr}{H H':Hp}{a:Addr}{xs:List V}(k:But p H H')(h:SqL K H a xs)(n:H p=none):SqL K H' a xs:=by
 rcases h with (h | ⟨o,h⟩) | h
 ·exact .inl (.inl (k _ _ (zab h n) h))
 ·exact .inl (.inr ⟨o,k _ _ (zab h n) h⟩)
 ·exact .inr h
theorem zns (xs:List Nat):(xs.map nV).all zgS=true:=by
 rw[yaQ];intro x hx;obtain ⟨n,_,rfl⟩:=yaF.mp hx;rfl
theorem zpB (n:Nat)(xs:List Nat):inV (.int (n:Int)) (xs.map nV)=decide (n∈xs):=by
 unfold inV
 induction xs with
 | nil=>rfl
 | cons x xs ih=>
  rw[yaw,ybc,ih];show ((x:Int) == (n:Int) || decide (n∈xs))=decide (n∈x::xs);by_cases h:x=n
  ·subst h;simp
  ·have:((x:Int) == (n:Int))=false:=by
    rw[beq_eq_false_iff_ne];omega
   rw[this,yb1];have e:(n∈x::xs)=(n∈xs):=propext (by simp[Ne.symm h]);simp[Ne.symm h]
def zj1 (K:Frag):Sp:=fun vs H Q _=>∃(a:Addr) (xs:List Nat),vs=[.ref a]∧SqL K H a (xs.map nV)∧Unl xs∧xs.length≤1000∧
 ∀(p:Addr) (H':Hp),H p=none→Same H H'→H' p=some (.lst ((zdq xs).map nV))→Q (.ref p) H'
theorem zmx (T:Txt K mg)(qb5:DF K mg "turned" zfG zeM)(qbH:FC P w K mg base 1 "lowest_unlike" zbP zrc):FC P w K mg base 2 "turned" zeM (zj1 K):=by
 refine qb5.ok qaT (fun vs H Q E h=>?_) (fun f cdv A outer s H vs Q E hr h=>?_)
 ·obtain ⟨a,xs,rfl,_⟩:=h;rfl
 obtain ⟨a,xs,rfl,hS,hu,hz,q⟩:=h;refine ⟨_,(zaj (zat (i:=1) qaT.nd rfl (Or.inl rfl) (zbg zad))
   (zaj (zbb PassesOwn.never rfl (zdx rfl T.qa6 (zaa (pv 0) zad)) (zfn rfl (zaG (zan (i:=2) qaT.nd rfl (Or.inl rfl)) (zaG (zan (i:=3) qaT.nd rfl (Or.inl rfl)) zce))) (zag (zbu (zay zeo (pv 2) zae (zaA _)) (zag (zaW (zdz F.plainAttrs_list F.slot_list_append F.type_list_append zaN (pv 1) (zaa (zaz zfp (pv 3) zae) zad)))) (zaj (zat (i:=4) qaT.nd rfl (Or.inl rfl) (zav qbH hr (zaa (zaq zax (pv 0) (zaz zck (pv 2) zae) (fun _ _=>rfl)) (zaa (pv 3) zad))))
   (zag (zaW (zdz F.plainAttrs_list F.slot_list_append F.type_list_append zaN (pv 1) (zaa (zaz za4 (zaz zc1 zae (pv 4)) (zaz zpu (zaz zrs (pv 3) (pv 4)) zae)) zad))))))))
   (zag (zas (pv 1))))),?_⟩
 refine ⟨(by show 0≤sizeLine;decide),fun p hp=>?_⟩;have k0:But p H (upd H p (.lst [])):=fun b o n e=>by rw[zaf n];exact e
 refine ⟨_,rfl,a,rfl,⟨_,k0.sq hS hp⟩,?_⟩;refine zhT (xs:=xs.map nV) (fun i σ H2=>∃ x2 x3 x4:Option V,σ=[some (.ref a),some (.ref p),x2,x3,x4]∧H2 p=some (.lst (((zdq xs).take i).map nV))∧But p H H2) ?_ ?_ ?_ ?_
 ·exact ⟨_,_,_,rfl,zac,k0⟩
 ·rintro i σ H2 _ ⟨x2,x3,x4,rfl,_,k2⟩;exact k2.sq hS hp
 ·rintro i x σ H2 r hx ⟨x2,x3,x4,rfl,h2,k2⟩ hr;obtain ⟨hi,rfl⟩:=zhd hx;have hS2:=k2.sq hS hp;have np:p≠r:=zab h2 hr;have h3:upd H2 r (.tup [.int i,nV (xs.getD i 0)]) p=some (.lst (((zdq xs).take i).map nV)):=by rw[zaf np];exact h2
  have k3:But p H (upd H2 r (.tup [.int i,nV (xs.getD i 0)])):=fun b o n e=>(zai hr _) b o (k2 b o n e);have hS3:=k3.sq hS hp;have hlen:(((zdq xs).take i).map nV).length < sizeLine:=zam (by rw[yaa,yao,zbW];omega);refine ⟨r,_,rfl,SqT.of zac,rfl,_,_,rfl,_,_,rfl,rfl,?_⟩;generalize upd H2 r (.tup [.int i,nV (xs.getD i 0)])=H3 at h3 k3 hS3 ⊢;have fin:∀ v:V,v=nV (zew xs i)→∃ y2 y3 y4:Option V,[some (V.ref a),some (V.ref p),y2,y3,y4]=[some (V.ref a),some (V.ref p),y2,y3,y4]∧upd H3 p (.lst (((zdq xs).take i).map nV++[v])) p=some (.lst (((zdq xs).take (i+1)).map nV))∧But p H (upd H3 p (.lst (((zdq xs).take i).map nV++[v]))):=by
   rintro v rfl;refine ⟨none,none,none,rfl,?_,fun b o n e=>by rw[zaf n];exact k3 b o n e⟩;rw[zac,zkZ hi,yan];rfl
  refine ⟨_,rfl,rfl,_,rfl,?_⟩;refine ite2 (fun c=>?_) (fun c=>?_)
  ·have c':i=0:=by
    have:=V.int.inj (yaB c);omega
   refine ⟨_,rfl,.inl ⟨rfl,_,SqL.of h3⟩,_,rfl,_,_,rfl,rfl,(by show (0:Int) < 2;decide),_,_,_,rfl,rfl,h3,hlen,?_⟩;obtain ⟨_,_,_,_,g2,g3⟩:=fin (.int (((xs.getD i 0:Nat):Int) % 2)) (by
    unfold zew;rw[if_pos c',c'];show V.int _=V.int _;rw[Int.natCast_emod];rfl)
   exact ⟨_,_,_,rfl,g2,g3⟩
  ·have c':i≠0:=fun z=>c (by subst z;decide);have hne:xs.getD (i - 1) 0≠xs.getD i 0:=by
    have:=hu (i - 1) (by omega);rw[show i - 1+1=i by omega]at this;exact this
   refine ⟨_,rfl,_,rfl,_,_,rfl,rfl,_,_,_,_,rfl,rfl,hS3,zqO c' hi,_,rfl,_,_,rfl,hne,?_⟩;refine ⟨_,rfl,.inl ⟨rfl,_,SqL.of h3⟩,_,rfl,_,_,rfl,rfl,.inl ⟨by decide,by decide⟩,_,rfl,_,rfl,_,_,rfl,rfl,ybi _,_,_,rfl,rfl,_,_,rfl,rfl,_,_,_,rfl,rfl,h3,hlen,?_⟩;obtain ⟨_,_,_,_,g2,g3⟩:=fin (.int (2 * ((lu (xs.getD (i - 1) 0) (xs.getD i 0):Nat):Int)+Builtin.bitAnd (((xs.getD i 0:Nat):Int) / 2 ^ ((lu (xs.getD (i - 1) 0) (xs.getD i 0):Nat):Int).toNat) 1)) (by
    unfold zew;rw[if_neg c',zrV])
   exact ⟨_,_,_,rfl,g2,g3⟩
 ·rintro σ H2 ⟨x2,x3,x4,rfl,h2,k2⟩;refine ⟨_,rfl,?_⟩;refine q p H2 hp (fun b o e=>k2 b o (zab e hp) e) ?_;rw[h2,yar (by rw[zbW,yaa];exact yab _)]
def zdp:Nat→List Nat→List Nat
 | 0,xs=>xs
 | n+1,xs=>zdq (zdp n xs)
theorem zcJ (n:Nat)(xs:List Nat):(zdp n xs).length=xs.length:=by
 induction n with
 | zero=>rfl
 | succ n ih=>rw[zdp,zbW,ih]
theorem zcZ {xs:List Nat}(h:Unl xs)(n:Nat):Unl (zdp n xs):=by
 induction n with
 | zero=>exact h
 | succ n ih=>exact zlR ih
theorem zd8 {m k:Nat}{xs:List Nat}(h:zds m xs)(hk:m≤k):zds k xs:=fun i hi=>yas (h i hi) hk
theorem zpP {xs:List Nat}(h:Unl xs)(hb:zds (2 ^ 207) xs):zds 414 (zdp 1 xs):=zcz (k:=207) (by decide) h hb
theorem zpO {xs:List Nat}(h:Unl xs)(hb:zds (2 ^ 207) xs):zds 18 (zdp 2 xs):=zcz (k:=9) (by decide) (zcZ h 1) (zd8 (zpP h hb) (by decide))
theorem zpN {xs:List Nat}(h:Unl xs)(hb:zds (2 ^ 207) xs):zds 10 (zdp 3 xs):=zcz (k:=5) (by decide) (zcZ h 2) (zd8 (zpO h hb) (by decide))
theorem zpM {xs:List Nat}(h:Unl xs)(hb:zds (2 ^ 207) xs):zds 8 (zdp 4 xs):=zcz (k:=4) (by decide) (zcZ h 3) (zd8 (zpN h hb) (by decide))
theorem zpL {xs:List Nat}(h:Unl xs)(hb:zds (2 ^ 207) xs):zds 6 (zdp 5 xs):=zcz (k:=3) (by decide) (zcZ h 4) (zd8 (zpM h hb) (by decide))
def zc4 (es:List (Int×Int)):List Nat:=es.map zgU
theorem za0 (es:List (Int×Int)):(zc4 es).length=es.length:=yaa _
theorem zfj {es:List (Int×Int)}{i:Nat}(h:i < es.length):(zc4 es).getD i 0=zgU es[i]:=by
 unfold zc4;rw[yad,yal,yac h];rfl
theorem zjK {es:List (Int×Int)}(h:∀ e∈es,zet 64 e):zds (2 ^ 207) (zc4 es):=fun i hi=>by
 rw[za0]at hi;rw[zfj hi];exact zo4 (h _ (yaG hi))
theorem zgE {es:List (Int×Int)}(h:∀ e∈es,zet 64 e)(hr:Rise es):Unl (zc4 es):=fun i hi=>by
 rw[za0]at hi;rw[zfj (by omega),zfj hi];intro z;have e:=znD (h _ (yaG (by omega))) (h _ (yaG hi)) z;have:=ya6.mp hr i (i+1) (by omega) hi (by omega);rw[e]at this;have q:=zcY.mp this;omega
theorem zlC {es:List (Int×Int)}{i:Nat}(h:i < es.length):(zc4 es).take (i+1)=(zc4 es).take i++[zgU es[i]]:=by
 have h':i < (zc4 es).length:=by rw[za0];exact h
 have z:(zc4 es)[i]'h'=zgU es[i]:=List.getElem_map zgU;rw[yaA h',z]
def zj6 (K:Frag):Sp:=fun vs H Q _=>∃(a:Addr) (ws:List V) (es:List (Int×Int)),vs=[.ref a]∧SqL K H a ws∧zao K H es ws∧es.length≤1000∧(∀ e∈es,zet 64 e)∧Rise es∧
 ∀(p:Addr) (H':Hp),H p=none→Same H H'→H' p=some (.lst ((zdp 5 (zc4 es)).map nV))→Q (.ref p) H'
theorem zlD {K:Frag}{H0 H2:Hp}{D:Addr}{es:List (Int×Int)}{ws:List V}{i:Nat}{x:V}(hD:H0 D=none)(hw:zao K H0 es ws)(hx:ws[i]?=some x)(k:But D H0 H2):∃ h:i < es.length,Rep.has K H2 es[i] x:=by
 obtain ⟨e,h1,h2⟩:=hw.get hx;have hi:=(yah.mp h1).1;refine ⟨hi,?_⟩;have z:es[i]=e:=(yah.mp h1).2;rw[z];obtain ⟨a,x1,x2,rfl,q,e1,e2⟩:=(show hasP K H0 e x from h2);exact ⟨a,x1,x2,rfl,k _ _ (zab q hD) q,e1,e2⟩
theorem zmF (T:Txt K mg)(qb6:DF K mg "labels" zfJ zeO)(qdp:FC P w K mg base 1 "code" zhF (zpp K))(qc1:FC P w K mg base 2 "turned" zeM (zj1 K)):FC P w K mg base 3 "labels" zeO (zj6 K):=by
 refine qb6.ok qbd (fun vs H Q E h=>?_) (fun f cdv A outer s H vs Q E hr h=>?_)
 ·obtain ⟨a,ws,es,rfl,_⟩:=h;rfl
 obtain ⟨a,ws,es,rfl,hS,hw,hz,he,hri,q⟩:=h;have hlen:=hw.length;refine ⟨_,(zaj (zgd (i:=1) (N:=["entry"]) (own:=1) (cap:=[]) qbd.nd rfl rfl rfl (za1 (pv 0)) ⟨rfl,rfl,rfl,rfl,rfl,rfl⟩ (fun _ _ _ _ _=>(zan (i:=0) (show List.Nodup (["entry"]:List Str) by decide +kernel) rfl (Or.inl rfl))) (fun _ _ _ _ _=>zbj) (fun _ _ _ _ _=>(zav qdp hr (zaa (pv 0) zad))))
   (zaj (zbb PassesOwn.never rfl (zb4 rfl T.qao (zaa (zfW rfl T.qdb) zad)) (zan (i:=2) qbd.nd rfl (Or.inl rfl)) (zag (zat (i:=1) qbd.nd rfl (Or.inl rfl) (zav qc1 hr (zaa (pv 1) zad)))))
   (zag (zas (pv 1))))),?_⟩
 refine ⟨_,rfl,a,rfl,⟨_,hS⟩,fun D hD=>?_⟩;have k0:But D H (upd H D (.lst [])):=fun b o n e=>by rw[zaf n];exact e
 refine zaT (xs:=ws) (fun i σ H2=>∃ x0:Option V,σ=[x0]∧H2 D=some (.lst (((zc4 es).take i).map nV))∧But D H H2) ?_ ?_ ?_ ?_
 ·exact ⟨_,rfl,zac,k0⟩
 ·rintro i σ H2 _ ⟨x0,rfl,_,k2⟩;exact k2.sq hS hD
 ·rintro i m x σ H2 hx hm ⟨x0,rfl,h2,k2⟩;obtain ⟨hi,hhas⟩:=zlD hD hw hx k2;refine zcU ?_;refine ⟨_,rfl,x,es[i],rfl,hhas,?_⟩;refine ⟨_,h2,zam (by rw[yaa,yao,za0];omega),m - 1,by omega,by omega,_,rfl,?_,fun b o n e=>by rw[zaf n];exact k2 b o n e⟩;rw[zac,zlC hi,yan,← zf8 (he _ (yaG hi))];rfl
 ·rintro σ H2 ⟨x0,rfl,h2,k2⟩;have e0:H2 D=some (.lst ((zc4 es).map nV)):=by
   rw[h2,yar (by rw[za0];omega)]
  have same0:Same H H2:=fun b o e=>k2 b o (zab e hD) e;refine ⟨5,rfl,by decide,by decide,?_⟩;refine zby (n:=5) (fun i σ H3=>∃(p:Addr) (x2 x3:Option V),σ=[some (.ref a),some (.ref p),x2]∧H p=none∧Same H H3∧H3 p=some (.lst ((zdp i (zc4 es)).map nV))) ?_ ?_ ?_
  ·exact ⟨D,_,none,rfl,hD,same0,e0⟩
  ·rintro i σ H3 hi ⟨p,x2,x3,rfl,hp,s3,h3⟩;refine ⟨_,rfl,p,_,rfl,SqL.of h3,zcZ (zgE he hri) i,by rw[zcJ,za0];exact hz,fun p4 H4 hp4 s4 h4=>?_⟩;exact ⟨p4,_,none,rfl,s3.free hp4,s3.trans s4,h4⟩
  ·rintro σ H3 ⟨p,x2,x3,rfl,hp,s3,h3⟩;refine ⟨_,rfl,?_⟩;exact q p H3 hp s3 h3
theorem zgc {n d i:Nat}:HT.sIx n d (some (i:Int))=min i n:=by
 unfold HT.sIx;simp
 try omega
theorem zkR (xs:List V)(a b:Nat):cutV xs (some (a:Int)) (some (b:Int))=(xs.drop a).take (b - a):=by
 unfold cutV;rw[zgc,zgc];by_cases h:a≤xs.length
 ·rw[ybs h];by_cases h2:b≤xs.length
  ·rw[ybs h2]
  ·rw[ycb (by omega),yar (by rw[yaY];exact yab _),yar (by rw[yaY];omega)]
 ·rw[ycb (show xs.length≤a by omega),yba (yab _),yba (show xs.length≤a by omega)];simp
theorem zg0 {α:Type}(xs:List α)(k:Nat):(xs.drop k).take 1=xs[k]?.toList:=by
 by_cases h:k < xs.length
 ·rw[List.drop_eq_getElem_cons h,yac h];rfl
 ·rw[yba (by omega),ya3 (by omega)];rfl
theorem znz {xs:List V}{k:Nat}{i j:Int}(hi:i=if (k:Int) - 1 > 0 then (k:Int) - 1 else 0)(hj:j=(k:Int)):cutV xs (some i) (some j)=(if k=0 then none else xs[k - 1]?).toList:=by
 subst hj;have e:i=((k - 1:Nat):Int):=by
  rw[hi];split <;> omega
 subst e;rw[zkR];split
 ·rename_i h;subst h;simp
 ·rw[show k - (k - 1)=1 by omega,zg0]
theorem zlA {xs:List V}{k:Nat}{i j:Int}(hi:i=(k:Int)+1)(hj:j=(k:Int)+2):cutV xs (some i) (some j)=xs[k+1]?.toList:=by
 subst hi hj;rw[show (k:Int)+1=((k+1:Nat):Int) by omega,show (k:Int)+2=((k+2:Nat):Int) by omega,zkR,show k+2 - (k+1)=1 by omega,zg0]
theorem znK (xs:List Nat)(k:Nat):(if k=0 then none else (xs.map nV)[k - 1]?).toList++(xs.map nV)[k+1]?.toList=(za3 xs k).map nV:=by
 unfold za3;rw[yan,yal,yal];congr 1
 ·split
  ·rfl
  ·cases xs[k - 1]? <;> rfl
 ·cases xs[k+1]? <;> rfl
theorem But.new {p b:Addr}{H H2:Hp}(k:But p H H2)(hb:H2 b=none)(o:HO):But p H (upd H2 b o):=fun x o' n e=>(zai hb o) x o' (k x o' n e)
def zik (K:Frag):Sp:=fun vs H Q _=>∃(a:Addr) (xs:List Nat),vs=[.ref a]∧SqL K H a (xs.map nV)∧Unl xs∧zds 6 xs∧xs.length≤1000∧
 ∀(p:Addr) (H':Hp),H p=none→Same H H'→H' p=some (.lst ((colL xs).map nV))→Q (.ref p) H'
def zcF (es:List (Int×Int)):List Bool:=zeZ (colL (zdp 5 (zc4 es)))
theorem zbE (es:List (Int×Int)):(zcF es).length=es.length:=by
 unfold zcF;rw[zeY,zgD,zcJ,za0]
theorem zju {es:List (Int×Int)}(he:∀ e∈es,zet 64 e)(hri:Rise es):Unl (zdp 5 (zc4 es)):=zcZ (zgE he hri) 5
theorem ziL {es:List (Int×Int)}(he:∀ e∈es,zet 64 e)(hri:Rise es):zds 6 (zdp 5 (zc4 es)):=zpL (zgE he hri) (zjK he)
theorem znM {xs:List Nat}(h:zds 6 xs):∀ i x,atZ xs i=some x→x≤5:=fun i x e=>by
 obtain ⟨h0,h1⟩:=zh2 e;have:=h i.toNat (by omega);unfold atZ at e;rw[if_pos h0]at e;rw[yad,e]at this;exact Nat.lt_succ_iff.mp this
theorem ziC {es:List (Int×Int)}(he:∀ e∈es,zet 64 e)(hri:Rise es):zdK (zcF es):=zmS (zkT (unlZ (zju he hri))) (zqJ (znM (ziL he hri)))
def zl8 (K:Frag):Sp:=fun vs H Q _=>∃(a:Addr) (ws:List V) (es:List (Int×Int)),vs=[.ref a]∧H a=some (.lst ws)∧zao K H es ws∧es.length≤1000∧(∀ e∈es,zet 64 e)∧Rise es∧
 ∀(p:Addr) (H':Hp),H p=none→Same H H'→H' p=some (.lst ((zcF es).map V.bl))→Q (.ref p) H'
def zkc (K:Frag):Sp:=fun vs H Q _=>∃(a:Addr) (ws:List V) (es:List (Int×Int)),vs=[.ref a]∧H a=some (.lst ws)∧zao K H es ws∧es.length≤1000∧(∀ e∈es,zet 64 e)∧Rise es∧
 ∀(p:Addr) (H':Hp),H p=none→Same H H'→H' p=some (.lst (zdj ws (zcF es)))→Q (.ref p) H'
theorem zgZ (o:Option Bool):o.toList.any id=o.getD false:=by
 cases o with
 | none=>rfl
 | some b=>cases b <;> rfl
theorem zoR (ms:List Bool):inV (.bl true) (ms.map V.bl)=ms.any id:=by
 unfold inV
 induction ms with
 | nil=>rfl
 | cons m ms ih=>
  rw[yaw,ybc,ih,ybc];cases m <;> rfl
theorem zqE (ms:List Bool):(ms.map V.bl).all zgS=true:=by
 rw[yaQ];intro x hx;obtain ⟨n,_,rfl⟩:=yaF.mp hx;rfl
theorem ziQ {α:Type}{as:List α}{bs:List Bool}{a:α}{b:Bool}(h:as.length=bs.length):zdj (as++[a]) (bs++[b])=zdj as bs++(if b=true then [a] else []):=by
 unfold zdj;rw[List.zip_append h,yaT,yan];congr 1;cases b <;> rfl
theorem zjB {α:Type}(as:List α)(bs:List Bool):(zdj as bs).length≤as.length:=by
 unfold zdj;rw[yaa];refine yat (ybb _ _) ?_;rw[yb8];omega
theorem zkM {α:Type}[Rep α]{K:Frag}{H:Hp}:∀{es:List α} {ws:List V} {ms:List Bool},zao K H es ws→zao K H (zdj es ms) (zdj ws ms)
 | _,_,_,.nil=>by
  unfold zdj;exact .nil
 | e::es,w::ws,[],.cons h t=>by
  unfold zdj;exact .nil
 | e::es,w::ws,m::ms,.cons h t=>by
  have:=zkM (ms:=ms) t;unfold zdj at this ⊢;cases m with
  | false=>exact this
  | true=>exact .cons h this
theorem zeh (bs:List Nat)(c:Nat):((List.range (c+1)).filter fun c=>!decide (c∈bs))=((List.range c).filter fun c=>!decide (c∈bs))++(if c∈bs then [] else [c]):=by
 rw[ybt,yaT];congr 1;by_cases h:c∈bs
 ·rw[if_pos h];simp[List.filter,h]
 ·rw[if_neg h];simp[List.filter,h]
theorem zed {H:Hp}{p t:Addr}{xs ys:List V}(h1:H p=some (.lst xs))(h2:H t=some (.tup ys)):p≠t:=fun z=>by
 rw[z,h2]at h1;cases h1
theorem zne {n k:Nat}(h:k < n):ixN n (k:Int)=some k:=by
 unfold ixN;simp;omega
def besV (xs:List V)(k:Nat):List V:=(if k=0 then none else xs[k - 1]?).toList++xs[k+1]?.toList
theorem zjL (xs:List V)(k:Nat):(besV xs k).length≤2:=by
 have e:∀ o:Option V,o.toList.length≤1:=fun o=>by cases o <;> simp
 unfold besV;rw[yak];have:=e (if k=0 then none else xs[k - 1]?)
 have:=e xs[k+1]?;omega
def spNb (K:Frag):Sp:=fun vs H Q _=>∃(a:Addr) (xs:List V) (k:Nat),vs=[.ref a,.int k]∧H a=some (.lst xs)∧
 ∀(g:Addr) (H':Hp),H g=none→Same H H'→H' g=some (.lst (besV xs k))→Q (.ref g) H'
theorem zhK (T:Txt K mg)(qaU:DF K mg "neighbours" zcL zb1):FC P w K mg base 1 "neighbours" zb1 (spNb K):=by
 refine qaU.ok qbY (fun vs H Q E h=>?_) (fun f cdv A outer s H vs Q E hr h=>?_)
 ·obtain ⟨a,xs,k,rfl,_⟩:=h;rfl
 obtain ⟨a,xs,k,rfl,ha,q⟩:=h;refine ⟨_,(zag (zas (zaz zix (zbR zco (pv 0) (zb3 (zau (ze5 rfl) rfl T.qcZ boot_max (zaa (zaz zck (pv 1) zae) (zaa zae zad)))) (zb3 (pv 1))) (zbR zco (pv 0) (zb3 (zaz za4 (pv 1) zae)) (zb3 (zaz za4 (pv 1) zae)))))),?_⟩;refine ⟨_,rfl,_,rfl,_,_,rfl,rfl,_,_,rfl,_,rfl,_,rfl,_,rfl,_,_,rfl,SqL.of ha,fun b hb=>?_⟩;have kb:=zai hb (.lst (cutV xs (some (if 0 > (k:Int) - 1 then 0 else (k:Int) - 1)) (some (k:Int))))
 have hbb:upd H b (.lst (cutV xs (some (if 0 > (k:Int) - 1 then 0 else (k:Int) - 1)) (some (k:Int)))) b=some (.lst (if k=0 then none else xs[k - 1]?).toList):=by
  rw[zac,znz (k:=k) (by split <;> split <;> omega) rfl]
 generalize upd H b (.lst (cutV xs (some (if 0 > (k:Int) - 1 then 0 else (k:Int) - 1)) (some (k:Int))))=H3 at kb hbb ⊢
 refine ⟨_,rfl,_,rfl,_,_,rfl,rfl,_,rfl,_,rfl,_,_,rfl,rfl,_,rfl,_,_,rfl,SqL.of (kb _ _ ha),fun c hc=>?_⟩;have kc:=zai hc (.lst (cutV xs (some ((k:Int)+1)) (some ((k:Int)+2))));have hcb:=kc _ _ hbb;have hcc:upd H3 c (.lst (cutV xs (some ((k:Int)+1)) (some ((k:Int)+2)))) c=some (.lst xs[k+1]?.toList):=by
  rw[zac,zlA (k:=k) rfl rfl]
 generalize upd H3 c (.lst (cutV xs (some ((k:Int)+1)) (some ((k:Int)+2))))=H4 at kc hcb hcc ⊢;refine ⟨b,c,_,_,rfl,rfl,hcb,hcc,?_,fun g hg=>?_⟩
 ·rw[← yak];exact yat (zjL xs k) (by decide)
 exact q g _ (kb.free (kc.free hg)) (kb.trans (kc.trans (zai hg _))) zac
def zpo (K:Frag):Sp:=fun vs H Q _=>∃(a:Addr) (xs:List Nat) (k:Nat),vs=[.ref a]∧H a=some (.lst ((za3 xs k).map nV))∧
 ∀ H':Hp,Same H H'→Q (.int (zeg xs k:Nat)) H'
theorem zhL (T:Txt K mg)(qaV:DF K mg "least_free" zcM zcs):FC P w K mg base 1 "least_free" zcs (zpo K):=by
 refine qaV.ok qbZ (fun vs H Q E h=>?_) (fun f cdv A outer s H vs Q E hr h=>?_)
 ·obtain ⟨a,xs,k,rfl,_⟩:=h;rfl
 obtain ⟨a,xs,k,rfl,ha,q⟩:=h;refine ⟨_,(zag (zas (zau (znG rfl) rfl T.qc0 boot_min (zaa (zbd (N:=["colour","taken"]) (own:=1) (cap:=[0]) rfl (zg7 (zbv (zaa zae (zaa zae (zaa zae zad))))) ⟨rfl,rfl,rfl,rfl,rfl,rfl⟩ (fun _ _ _ _ _=>(zan (i:=0) (show List.Nodup (["colour","taken"]:List Str) by decide +kernel) rfl (Or.inl rfl))) (fun _ _ _ _ _=>(zek (zay (zhJ (K:=K)) (pv 0) (pv 1) (by with_unfolding_all rfl)))) (fun _ _ _ _ _=>(pv 0))) zad)))),?_⟩
 refine ⟨(by show 3≤sizeLine;decide),fun t ht=>?_⟩;have st:=zai ht (.tup [V.int 0,V.int 1,V.int 2]);have ht1:upd H t (.tup [V.int 0,V.int 1,V.int 2]) t=some (.tup [V.int 0,V.int 1,V.int 2]):=zac;generalize upd H t (.tup [V.int 0,V.int 1,V.int 2])=H1 at st ht1 ⊢;have h1a:=st _ _ ha;refine ⟨t,rfl,⟨_,SqT.of ht1⟩,fun D hD=>?_⟩;refine zf7 (xs:=[V.int 0,V.int 1,V.int 2]) (fun c σ H6=>∃ x0:Option V,σ=[x0,some (.ref a)]∧H6 D=some (.lst (((List.range c).filter fun c=>!decide (c∈za3 xs k)).map nV))∧But D H1 H6) ?_ ?_ ?_ ?_
 ·exact ⟨_,rfl,zac,fun b o n e=>by rw[zaf n];exact e⟩
 ·rintro i σ H6 _ ⟨x0,rfl,_,k6⟩;exact SqT.of (k6 _ _ (zab ht1 hD) ht1)
 ·rintro c m x σ H6 hx hm ⟨x0,rfl,h6,k6⟩;obtain ⟨hi,rfl⟩:c < 3∧x=V.int (c:Int):=by
   rcases c with _ | _ | _ | c
   ·exact ⟨by decide,(yae hx).symm⟩
   ·exact ⟨by decide,(yae hx).symm⟩
   ·exact ⟨by decide,(yae hx).symm⟩
   ·cases hx
  have h6g:=k6 _ _ (zab h1a hD) h1a;have hlen:=ybb (fun c=>!decide (c∈za3 xs k)) (List.range c);rw[yaR]at hlen;refine ⟨_,rfl,_,rfl,_,_,rfl,.inl (SqL.of h6g),rfl,zns _,_,rfl,?_⟩;show if (!inV (.int (c:Int)) ((za3 xs k).map nV))=true then _ else _
  rw[zpB];have hm3:c+m=3:=hm;refine ite2 (fun e=>?_) (fun e=>?_)
  ·have e':c∉za3 xs k:=fun z=>by
    rw[yag z]at e;cases e
   refine ⟨_,rfl,_,h6,zam (by rw[yaa];omega),m - 1,by omega,(by show c+1+(m - 1)=3;omega),_,rfl,?_,fun b o n e=>by rw[zaf n];exact k6 b o n e⟩;rw[zac,zeh,if_neg e',yan];rfl
  ·have e':c∈za3 xs k:=Decidable.byContradiction fun z=>e (by rw[yai z];rfl);refine ⟨m - 1,by omega,(by show c+1+(m - 1)=3;omega),_,rfl,?_,k6⟩;rw[h6,zeh,if_pos e',yaN]
 ·rintro σ H6 ⟨x0,rfl,h6,k6⟩;have h6:H6 D=some (.lst (((List.range 3).filter fun c=>!decide (c∈za3 xs k)).map nV)):=h6;have s6:Same H1 H6:=fun b o e=>k6 b o (zab e hD) e;have mem:∀ c,c∈((List.range 3).filter fun c=>!decide (c∈za3 xs k))↔c < 3∧c∉za3 xs k:=fun c=>by
   rw[yaV,yaW];constructor
   ·rintro ⟨h1,h2⟩;refine ⟨h1,fun z=>?_⟩;rw[yag z]at h2;cases h2
   ·rintro ⟨h1,h2⟩;exact ⟨h1,by rw[yai h2];rfl⟩
  have hf:zeg xs k∈((List.range 3).filter fun c=>!decide (c∈za3 xs k)):=(mem _).mpr ⟨Nat.lt_succ_of_le (znr xs k),zlu⟩;refine ⟨D,((List.range 3).filter fun c=>!decide (c∈za3 xs k)).map fun n:Nat=>(n:Int),rfl,?_,?_,fun M hM hL=>?_⟩
  ·rw[yaZ];exact SqL.of h6
  ·rw[yaa];exact List.length_pos_of_mem hf
  have eM:M=(zeg xs k:Int):=by
   have h1:=hL _ (yaF.mpr ⟨_,hf,rfl⟩);obtain ⟨c,hc,rfl⟩:=yaF.mp hM;have h2:¬ c < zeg xs k:=fun z=>((mem c).mp hc).2 (ziS z);omega
  rw[eM];exact q _ (st.trans s6)
theorem zqL (xs:List Nat)(k:Nat):besV (xs.map nV) k=(za3 xs k).map nV:=znK xs k
theorem zld (T:Txt K mg)(qbI:DF K mg "colours" zeJ zd1)(qaW:FC P w K mg base 1 "neighbours" zb1 (spNb K))(qch:FC P w K mg base 1 "least_free" zcs (zpo K)):FC P w K mg base 3 "colours" zd1 (zik K):=by
 refine qbI.ok qa1 (fun vs H Q E h=>?_) (fun f cdv A outer s H vs Q E hr h=>?_)
 ·obtain ⟨a,xs,rfl,_⟩:=h;rfl
 obtain ⟨a,xs,rfl,hS,hu,hb,hz,q⟩:=h;refine ⟨_,(zaj (zat (i:=1) qa1.nd rfl (Or.inl rfl) (zbI zcm rfl T.qby boot_list (zaa (pv 0) zad)))
   (zaj (zbb PassesOwn.never rfl (zg7 (zbv (zaa zae (zaa zae (zaa zae zad))))) (zan (i:=2) qa1.nd rfl (Or.inl rfl)) (zag (zbb PassesOwn.never rfl (zb4 rfl T.qao (zaa (zau zar rfl T.qat boot_len (zaa (pv 0) zad)) zad)) (zan (i:=3) qa1.nd rfl (Or.inl rfl)) (zag (zbu (zay zeo (zaq zax (pv 1) (pv 3) (fun _ _=>rfl)) (pv 2) (zaA _)) (zag (zkl (zav qch hr (zaa (zav qaW hr (zaa (pv 1) (zaa (pv 3) zad))) zad)) (zps (pv 1) (pv 3) zkf))) zaI)))))
   (zag (zas (pv 1))))),?_⟩
 refine ⟨_,rfl,a,_,rfl,.inl hS,fun p hp=>?_⟩;have k0:But p H (upd H p (.lst (xs.map nV))):=fun b o n e=>by rw[zaf n];exact e
 refine ⟨(by show 3≤sizeLine;decide),fun t ht=>?_⟩;have npt:p≠t:=zab zac ht;refine ⟨t,rfl,⟨_,SqT.of zac⟩,?_⟩;refine zjD (xs:=[V.int 3,V.int 4,V.int 5]) (fun i σ H2=>∃ x2 x3:Option V,σ=[some (.ref a),some (.ref p),x2,x3]∧H2 p=some (.lst ((colN xs i).map nV))∧H2 t=some (.tup [V.int 3,V.int 4,V.int 5])∧But p H H2) ?_ ?_ ?_ ?_
 ·exact ⟨_,_,rfl,by rw[zaf npt];exact zac,zac,k0.new ht _⟩
 ·rintro i σ H2 _ ⟨x2,x3,rfl,_,h2t,_⟩;exact SqT.of h2t
 ·rintro i x σ H2 hx ⟨x2,x3,rfl,h2,h2t,k2⟩;obtain ⟨hi,rfl⟩:i < 3∧x=V.int ((3+i:Nat):Int):=by
   rcases i with _ | _ | _ | i
   ·exact ⟨by decide,(yae hx).symm⟩
   ·exact ⟨by decide,(yae hx).symm⟩
   ·exact ⟨by decide,(yae hx).symm⟩
   ·cases hx
  have hyl:=zjJ xs i;have hyu:=zo3 hu i;have hnx:colN xs (i+1)=recL (3+i) (colN xs i):=rfl;rw[hnx];generalize colN xs i=ys at h2 hyl hyu ⊢;generalize 3+i=v;have hSa:SqL K H2 a (xs.map nV):=k2.sq hS hp;refine ⟨_,rfl,_,_,rfl,.inl hSa,_,rfl,by rw[yaa];omega,by rw[yaa];omega,?_⟩;have el:((((xs.map nV).length:Nat):Int)).toNat=ys.length:=by rw[yaa,ya7,hyl]
  rw[el];refine zby (n:=ys.length) (fun k σ H3=>∃ x3:Option V,σ=[some (.ref a),some (.ref p),some (.int v),x3]∧H3 p=some (.lst ((mixL v ys k).map nV))∧H3 t=some (.tup [V.int 3,V.int 4,V.int 5])∧But p H H3) ?_ ?_ ?_
  ·exact ⟨_,rfl,h2,h2t,k2⟩
  ·rintro k σ H3 hk ⟨x3,rfl,h3,h3t,k3⟩;rw[ybW];have ml:=zgo v ys k;have eg:(mixL v ys k).getD k 0=ys.getD k 0:=by
    rw[yad,zmR (yab k),← yad]
   have hat:atI ((mixL v ys k).map nV) (k:Int)=some (nV (ys.getD k 0)):=by
    rw[← eg];exact zhm (by omega)
   refine ⟨_,rfl,_,rfl,_,_,_,_,rfl,rfl,SqL.of h3,hat,_,rfl,rfl,_,rfl,?_⟩;refine ite2 (fun c=>?_) (fun c=>?_)
   ·have c':ys.getD k 0=v:=by
     have:=V.int.inj (yaB c);omega
    refine ⟨_,rfl,_,rfl,p,_,k,rfl,h3,fun g H4 hg s4 h4=>?_⟩;rw[zqL,zjo hyu hk c']at h4;refine ⟨g,ys,k,rfl,h4,fun H5 s5=>?_⟩;have s35:=s4.trans s5;have same:∀ b o,b≠p→H3 b=some o→upd H5 p (.lst (((mixL v ys k).map nV).set k (nV (zeg ys k)))) b=some o:=fun b o n e=>by
     rw[zaf n];exact s35 _ _ e
    refine ⟨_,rfl,_,rfl,_,_,_,k,rfl,rfl,s35 _ _ h3,zne (by rw[yaa,ml];exact hk),?_⟩;refine ⟨_,rfl,?_,same _ _ (Ne.symm (zed h3 h3t)) h3t,fun b o n e=>same _ _ n (k3 b o n e)⟩;rw[zac,zoJ hk c',List.map_set]
   ·have c':ys.getD k 0≠v:=fun z=>c (by rw[z];exact yag rfl);exact ⟨_,rfl,by rw[zmP hk c'];exact h3,h3t,k3⟩
  ·rintro σ H3 ⟨x3,rfl,h3,h3t,k3⟩;rw[zoK (yab _)]at h3;exact ⟨_,_,rfl,h3,h3t,k3⟩
 ·rintro σ H2 ⟨x2,x3,rfl,h2,_,k2⟩;refine ⟨_,rfl,?_⟩;exact q p H2 hp (fun b o e=>k2 b o (zab e hp) e) h2
def zdI (ms:List Bool)(k:Nat):Bool:=!ms.getD (k - 1) false && !ms.getD (k+1) false
def besB (ms:List Bool)(k:Nat):List Bool:=(if k=0 then none else ms[k - 1]?).toList++ms[k+1]?.toList
theorem zqM (ms:List Bool)(k:Nat):besV (ms.map V.bl) k=(besB ms k).map V.bl:=by
 unfold besV besB;rw[yan,yal,yal];congr 1
 ·split
  ·rfl
  ·cases ms[k - 1]? <;> rfl
 ·cases ms[k+1]? <;> rfl
theorem zo5 {ms:List Bool}{k:Nat}(h:1≤k):(besB ms k).any id=!zdI ms k:=by
 unfold besB zdI;rw[if_neg (by omega),List.any_append,zgZ,zgZ,yad,yad];generalize ms[k - 1]?.getD false=x;generalize ms[k+1]?.getD false=z;cases x <;> cases z <;> rfl
theorem zjn {sh:Nat}{cs:List Nat}{ms:List Bool}(hu:Unl cs)(hl:cs.length=ms.length){k:Nat}(h:k < cs.length)(h1:1≤k)(hs:cs.getD k 0=sh):zdI (mixM sh cs ms k) k=zdI ms k:=by
 unfold zdI;have e:∀ j,k≤j→(mixM sh cs ms k).getD j false=ms.getD j false:=fun j hj=>by
  rw[yad,yad,zcT hl,if_neg (by omega)]
 rw[e (k+1) (by omega)];have e2:(mixM sh cs ms k).getD (k - 1) false=ms.getD (k - 1) false:=by
  rw[yad,zcT hl,if_pos (by omega),zd5 hl (by omega)];have:=hu (k - 1) (by omega);rw[show k - 1+1=k by omega,hs]at this;rw[yai this];simp
 rw[e2]
theorem zg8 {sh:Nat}{cs:List Nat}{ms:List Bool}(hl:cs.length=ms.length){k:Nat}(h:k < cs.length)(hn:¬ (cs.getD k 0=sh∧zdI ms k=true)):mixM sh cs ms (k+1)=mixM sh cs ms k:=by
 apply ybe;intro j;rw[zcT hl,zcT hl];by_cases c:j < k
 ·rw[if_pos c,if_pos (by omega)]
 ·rw[if_neg c];split
  ·have:j=k:=by omega
   subst this;rw[zd5 hl h];unfold zdI at hn;rw[yac (by omega)];have e:ms.getD j false=ms[j]'(by omega):=by
    rw[yad,yac (by omega)];rfl
   rw[e];congr 1;generalize ms[j]=a;generalize ms.getD (j - 1) false=b at hn ⊢;generalize ms.getD (j+1) false=d at hn ⊢;by_cases z:cs.getD j 0=sh
   ·have hn':¬ ((!b && !d)=true):=fun y=>hn ⟨z,y⟩;cases b with
    | true=>simp
    | false=>
     cases d with
     | true=>simp
     | false=>exact absurd rfl hn'
   ·rw[yai z];simp
  ·rfl
theorem zmO {sh:Nat}{cs:List Nat}{ms:List Bool}(hl:cs.length=ms.length){k:Nat}(h:k < cs.length)(hp:1≤k∧cs.getD k 0=sh∧zdI ms k=true):mixM sh cs ms (k+1)=(mixM sh cs ms k).set k true:=by
 apply ybe;intro j;rw[List.getElem?_set,zgn hl,zcT hl,zcT hl];by_cases c:k=j
 ·subst c;rw[if_pos rfl,if_pos h,if_pos (by omega),zd5 hl h];obtain ⟨p1,p2,p3⟩:=hp;unfold zdI at p3;simp only[ybm,yb5]at p3;rw[p2,p3.1,p3.2,yag p1];simp
 ·rw[if_neg c];by_cases c2:j < k
  ·rw[if_pos c2,if_pos (by omega)]
  ·rw[if_neg c2,if_neg (by omega)]
theorem zow (T:Txt K mg)(qcs:DF K mg "marks" zhx zfS)(qc2:FC P w K mg base 3 "labels" zeO (zj6 K))(qcP:FC P w K mg base 3 "colours" zd1 (zik K))(qaW:FC P w K mg base 1 "neighbours" zb1 (spNb K)):FC P w K mg base 5 "marks" zfS (zl8 K):=by
 refine qcs.ok qbe (fun vs H Q E h=>?_) (fun f cdv A outer s H vs Q E hr h=>?_)
 ·obtain ⟨a,ws,es,rfl,_⟩:=h;rfl
 obtain ⟨a,ws,es,rfl,ha,hw,hz,he,hri,q⟩:=h;refine ⟨_,(zaj (zat (i:=1) qbe.nd rfl (Or.inl rfl) (zav qcP hr (zaa (zav qc2 hr (zaa (pv 0) zad)) zad)))
   (zaj (zgd (i:=2) (N:=["tint"]) (own:=1) (cap:=[]) qbe.nd rfl rfl rfl (za1 (pv 1)) ⟨rfl,rfl,rfl,rfl,rfl,rfl⟩ (fun _ _ _ _ _=>(zan (i:=0) (show List.Nodup (["tint"]:List Str) by decide +kernel) rfl (Or.inl rfl))) (fun _ _ _ _ _=>zbj) (fun _ _ _ _ _=>zcf))
   (zaj (zbb PassesOwn.never rfl (zg7 (zbv (zaa zae (zaa zae (zaa zae zad))))) (zan (i:=3) qbe.nd rfl (Or.inl rfl)) (zag (zbb PassesOwn.never rfl (zdw rfl T.qao (zaa zae (zaa (zau zar rfl T.qat boot_len (zaa (pv 1) zad)) zad))) (zan (i:=4) qbe.nd rfl (Or.inl rfl)) (zag (zbu (PW.pt (zg5 (zay zeo (zaq zax (pv 1) (pv 4) (fun _ _=>rfl)) (pv 3) (zaA _)) (zfe (zay zfo zcf (zav qaW hr (zaa (pv 2) (zaa (pv 4) zad))) (by with_unfolding_all rfl))))) (zag (zkl zcf (zps (pv 2) (pv 4) zkf))) zaI)))))
   (zag (zas (pv 2)))))),?_⟩
 refine ⟨_,rfl,a,ws,es,rfl,SqL.of ha,hw,hz,he,hri,fun p H3 hp s3 h3=>?_⟩;refine ⟨p,_,rfl,SqL.of h3,zju he hri,ziL he hri,by rw[zcJ,za0];exact hz,fun c H4 hc s4 h4=>?_⟩;have cu:Unl (colL (zdp 5 (zc4 es))):=zpd (zkT (unlZ (zju he hri)));have cl:(colL (zdp 5 (zc4 es))).length=es.length:=by rw[zgD,zcJ,za0]
 have fin:zcF es=mkN (colL (zdp 5 (zc4 es))) 3:=(zmM _).symm;generalize colL (zdp 5 (zc4 es))=cs at h4 cu cl fin;have s04:=s3.trans s4;refine ⟨_,rfl,c,rfl,⟨_,SqL.of h4⟩,fun F hF=>?_⟩;refine zaT (xs:=cs.map nV) (fun i σ H5=>∃ x0:Option V,σ=[x0]∧H5 F=some (.lst ((List.replicate i false).map V.bl))∧But F H4 H5) ?_ ?_ ?_ ?_
 ·exact ⟨_,rfl,zac,fun b o n e=>by rw[zaf n];exact e⟩
 ·rintro i σ H5 _ ⟨x0,rfl,_,k5⟩;exact k5.sq (SqL.of h4) hF
 ·rintro i m x σ H5 hx hm ⟨x0,rfl,h5,k5⟩;have hi:=(yah.mp hx).1;rw[yaa]at hi hm;refine zcU ?_;refine ⟨_,h5,zam (by rw[yaa,ya1];omega),m - 1,by omega,by rw[yaa];omega,_,rfl,?_,fun b o n e=>by rw[zaf n];exact k5 b o n e⟩;rw[zac,List.replicate_succ',yan];rfl
 rintro σ H5 ⟨x0,rfl,h5,k5⟩;have s45:Same H4 H5:=fun b o e=>k5 b o (zab e hF) e;have h5c:=s45 _ _ h4;have nFc:c≠F:=zab h4 hF;have hF0:H F=none:=s04.free hF;have k05:But F H H5:=fun b o _ e=>s45 _ _ (s04 _ _ e);have e5:H5 F=some (.lst ((mkN cs 0).map V.bl)):=by
  rw[h5,mkN,yaa,show List.replicate cs.length false=cs.map (fun _=>false) from by rw[List.map_const']]
 refine ⟨(by show 3≤sizeLine;decide),fun t ht=>?_⟩;have st:=zai ht (.tup [V.int 2,V.int 1,V.int 0]);refine ⟨t,rfl,⟨_,SqT.of zac⟩,?_⟩;refine zjD (xs:=[V.int 2,V.int 1,V.int 0]) (fun i σ H6=>∃(x3 x4:Option V),σ=[some (.ref a),some (.ref c),some (.ref F),x3,x4]∧H6 F=some (.lst ((mkN cs i).map V.bl))∧H6 c=some (.lst (cs.map nV))∧H6 t=some (.tup [V.int 2,V.int 1,V.int 0])∧But F H H6) ?_ ?_ ?_ ?_
 ·exact ⟨_,_,rfl,st _ _ e5,st _ _ h5c,zac,k05.new ht _⟩
 ·rintro i σ H6 _ ⟨x3,x4,rfl,_,_,h6t,_⟩;exact SqT.of h6t
 ·rintro i x σ H6 hx ⟨x3,x4,rfl,h6,h6c,h6t,k6⟩;obtain ⟨hi,rfl⟩:i < 3∧x=V.int ((2 - i:Nat):Int):=by
   rcases i with _ | _ | _ | i
   ·exact ⟨by decide,(yae hx).symm⟩
   ·exact ⟨by decide,(yae hx).symm⟩
   ·exact ⟨by decide,(yae hx).symm⟩
   ·cases hx
  have hml:=zlh cs i;have hnx:mkN cs (i+1)=zcE (2 - i) cs (mkN cs i):=rfl;rw[hnx];generalize mkN cs i=ms at h6 hml ⊢;generalize 2 - i=sh;refine ⟨_,rfl,_,_,rfl,.inl (SqL.of h6c),1,_,rfl,⟨by omega,by omega,by rw[yaa];omega,by rw[yaa];omega⟩,?_⟩;have en:((((cs.map nV).length:Nat):Int) - 1).toNat=cs.length - 1:=by rw[yaa];omega
  rw[en];have km:∀ k,(mixM sh cs ms k).length=cs.length:=zgn hml;refine zby (n:=cs.length - 1) (fun j σ H7=>∃(x4:Option V),σ=[some (.ref a),some (.ref c),some (.ref F),some (.int sh),x4]∧H7 F=some (.lst ((mixM sh cs ms (1+j)).map V.bl))∧H7 c=some (.lst (cs.map nV))∧H7 t=some (.tup [V.int 2,V.int 1,V.int 0])∧But F H H7) ?_ ?_ ?_
  ·exact ⟨_,rfl,by rw[zoH hml];exact h6,h6c,h6t,k6⟩
  ·rintro j σ H7 hj ⟨x4,rfl,h7,h7c,h7t,k7⟩;have ek:(1:Int)+(j:Int)=((1+j:Nat):Int):=by omega
   have hk1:1≤1+j:=by omega
   have hkl:1+j < cs.length:=by omega
   rw[ek];have es1:1+(j+1)=1+j+1:=by omega
   rw[es1];generalize 1+j=k at h7 hk1 hkl ⊢;have hat:=zhm (xs:=cs) hkl;have mc:cs.getD k 0=sh→zdI (mixM sh cs ms k) k=zdI ms k:=fun z=>zjn cu hml hkl hk1 z;refine ⟨_,rfl,_,rfl,_,_,_,_,rfl,rfl,SqL.of h7c,hat,_,rfl,rfl,_,rfl,?_⟩;refine ite2 (fun e=>?_) (fun e=>?_)
   ·have e':cs.getD k 0=sh:=by
     have:=V.int.inj (yaB e);omega
    refine ⟨_,rfl,_,rfl,F,_,k,rfl,h7,fun b H8 hb sb hbb=>?_⟩;rw[zqM]at hbb;have kb:But F H H8:=fun x o n e=>sb _ _ (k7 x o n e);refine ⟨_,_,rfl,.inl (SqL.of hbb),rfl,zqE _,_,rfl,?_⟩;show if (!inV (.bl true) ((besB (mixM sh cs ms k) k).map V.bl))=true then _ else _
    rw[zoR,zo5 hk1,mc e',Bool.not_not];refine ite2 (fun y=>?_) (fun y=>?_)
    ·refine ⟨_,rfl,_,rfl,_,_,_,k,rfl,rfl,sb _ _ h7,zne (by rw[yaa,km];exact hkl),?_⟩;have same:∀ b o,b≠F→H8 b=some o→upd H8 F (.lst (((mixM sh cs ms k).map V.bl).set k (.bl true))) b=some o:=fun b o n e=>by
      rw[zaf n];exact e
     refine ⟨_,rfl,?_,same _ _ (fun z=>?_) (sb _ _ h7c),same _ _ (Ne.symm (zed (sb _ _ h7) (sb _ _ h7t))) (sb _ _ h7t),fun b o n e=>same _ _ n (kb b o n e)⟩
     ·rw[zac,zmO hml hkl ⟨hk1,e',y⟩,List.map_set]
     ·exact nFc z
    ·exact ⟨_,rfl,by rw[zg8 hml hkl (fun z=>y z.2)];exact sb _ _ h7,sb _ _ h7c,sb _ _ h7t,kb⟩
   ·have e':cs.getD k 0≠sh:=fun z=>e (by rw[z];exact yag rfl);refine iteF ?_;exact ⟨_,rfl,by rw[zg8 hml hkl (fun z=>e' z.1)];exact h7,h7c,h7t,k7⟩
  ·rintro σ H7 ⟨x4,rfl,h7,h7c,h7t,k7⟩;rw[zoI hml (by omega)]at h7;exact ⟨_,_,rfl,h7,h7c,h7t,k7⟩
 ·rintro σ H6 ⟨x3,x4,rfl,h6,_,_,k6⟩;refine ⟨_,rfl,?_⟩;refine q F H6 hF0 (fun b o e=>k6 b o (zab e hF0) e) ?_;rw[fin];exact h6
theorem zoW {α:Type}:zdj ([]:List α) []=[]:=rfl
theorem zrQ {ms:List Bool}{i:Nat}{x:V}(h:(ms.map V.bl)[i]?=some x):∃ hi:i < ms.length,x=.bl ms[i]:=by
 rw[yal]at h;cases e:ms[i]? with
 | none=>rw[e]at h;cases h
 | some y=>
  rw[e]at h;obtain ⟨hi,rfl⟩:=yah.mp e;exact ⟨hi,(yae h).symm⟩
theorem zex {α:Type}{l:List α}{i:Nat}(h:i < l.length):l.take (i+1)=l.take i++[l[i]]:=yaA h
theorem zmI (T:Txt K mg)(qb7:DF K mg "handed" zfO zeT)(qdc:FC P w K mg base 5 "marks" zfS (zl8 K)):FC P w K mg base 6 "handed" zeT (zkc K):=by
 refine qb7.ok qcL (fun vs H Q E h=>?_) (fun f cdv A outer s H vs Q E hr h=>?_)
 ·obtain ⟨a,ws,es,rfl,_⟩:=h;rfl
 obtain ⟨a,ws,es,rfl,ha,hw,hz,he,hri,q⟩:=h;have hwl:=hw.length;have hml:=zbE es;refine ⟨_,(zag (zas (zbd (N:=["entry","mark"]) (own:=2) (cap:=[]) rfl (zgg rfl T.qcq (zaa (pv 0) (zaa (zav qdc hr (zaa (pv 0) zad)) zad))) ⟨rfl,rfl,rfl,rfl,rfl,rfl⟩ (fun _ _ _ _ _=>(zff (K:=K) (n:=2) rfl (zaG (zan (i:=0) (show List.Nodup (["entry","mark"]:List Str) by decide +kernel) rfl (Or.inl rfl)) (zaG (zan (i:=1) (show List.Nodup (["entry","mark"]:List Str) by decide +kernel) rfl (Or.inl rfl)) zce)))) (fun _ _ _ _ _=>(zek (zdo (pv 1)))) (fun _ _ _ _ _=>(pv 0))))),?_⟩;refine ⟨_,rfl,_,rfl,a,ws,es,rfl,ha,hw,hz,he,hri,fun u H6 hu g6 h6u=>?_⟩;have h6p:=g6 _ _ ha;generalize zcF es=ms at hml h6u q;refine ⟨a,u,rfl,⟨_,SqL.of h6p⟩,⟨_,SqL.of h6u⟩,fun D hD=>?_⟩;refine zkS (xs:=ws) (ys:=ms.map V.bl) (by rw[yaa,hml];exact hwl.symm) (fun j σ H7=>∃ x0 x1:Option V,σ=[x0,x1]∧H7 D=some (.lst (zdj (ws.take j) (ms.take j)))∧But D H6 H7) ?_ ?_ ?_ ?_
 ·exact ⟨_,_,rfl,by rw[yb7,yb7,zoW];exact zac,fun b o n e=>by rw[zaf n];exact e⟩
 ·rintro j σ H7 _ ⟨x0,x1,rfl,_,k7⟩;exact ⟨k7.sq (SqL.of h6p) hD,k7.sq (SqL.of h6u) hD⟩
 ·rintro j m' x y σ H7 r' hx hy hm' ⟨x0,x1,rfl,h7,k7⟩ hr';obtain ⟨hj,rfl⟩:=zrQ hy;obtain ⟨hjw,rfl⟩:=yah.mp hx;have hsn:=ziQ (a:=ws[j]) (b:=ms[j]) (show (ws.take j).length=(ms.take j).length by rw[yao,yao];omega);rw[← zex hjw,← zex hj]at hsn;refine ⟨r',_,rfl,SqT.of zac,rfl,_,_,rfl,_,_,rfl,rfl,?_⟩;have s7:=zai hr' (.tup [ws[j],.bl ms[j]]);have h8:=s7 _ _ h7;have k8:=k7.new hr' (.tup [ws[j],.bl ms[j]]);generalize upd H7 r' (.tup [ws[j],.bl ms[j]])=H8 at h8 k8 ⊢;refine ⟨_,rfl,_,rfl,?_⟩;have hl8:=zjB (ws.take j) (ms.take j);rw[yao]at hl8;refine ite2 (fun e=>?_) (fun e=>?_)
  ·refine ⟨_,rfl,_,h8,zam (by omega),m' - 1,by omega,by omega,_,_,rfl,?_,fun b o n e=>by rw[zaf n];exact k8 b o n e⟩;rw[zac,hsn,if_pos e]
  ·refine ⟨m' - 1,by omega,by omega,_,_,rfl,?_,k8⟩;rw[h8,hsn,if_neg e,yaN]
 ·rintro σ H7 ⟨x0,x1,rfl,h7,k7⟩;rw[yar (yab _),yar (by omega)]at h7;have s7:Same H6 H7:=fun b o e=>k7 b o (zab e hD) e;exact q D H7 (g6.free hD) (g6.trans s7) h7
theorem zd4 {K:Frag}{H:Hp}{q:Addr}{zs:List V}{o:HO}(hq:H q=some (.lst zs)){es:List (Int×Int)}{ws:List V}(h:zao K H es ws):zao K (upd H q o) es ws:=pImp (fun _ _ h=>by
  obtain ⟨a,x1,x2,rfl,hT,e1,e2⟩:=(show hasP K H _ _ from h);exact ⟨a,x1,x2,rfl,by rw[zaf (zrz hT hq (by intro z;cases z))];exact hT,e1,e2⟩) h
def Own (K:Frag)(H:Hp):List Addr→List (List (Int×Int))→Prop:=Paired fun q l=>∃ ws,H q=some (.lst ws)∧zao K H l ws
section
variable {K:Frag}{H H':Hp}
theorem Own.length {qs:List Addr}{ls:List (List (Int×Int))}(h:Own K H qs ls):qs.length=ls.length:=Paired.length h
theorem Own.ext (e:Ext H H'){qs:List Addr}{ls:List (List (Int×Int))}(h:Own K H qs ls):Own K H' qs ls:=pImp (fun _ _ h=>by
 obtain ⟨ws,h1,h2⟩:=h;exact ⟨ws,e _ _ h1 (fun _ z=>nomatch z),zao.mono e h2⟩) h
theorem Own.get:∀{qs:List Addr} {ls:List (List (Int×Int))} {i:Nat} {x:V},Own K H qs ls→(qs.map V.ref)[i]?=some x→∃ q l ws,qs[i]?=some q∧x=.ref q∧ls[i]?=some l∧H q=some (.lst ws)∧zao K H l ws
 | _,_,_,_,.nil,e=>by simp at e
 | _,_,0,_,.cons ⟨ws,h1,h2⟩ _,e=>by
  simp at e;exact ⟨_,_,ws,rfl,e.symm,rfl,h1,h2⟩
 | _,_,i+1,x,.cons _ t,e=>by
  obtain ⟨q,l,ws,h1,h2,h3,h4,h5⟩:=Own.get (i:=i) (x:=x) t (by simpa using e);exact ⟨q,l,ws,by simpa using h1,h2,by simpa using h3,h4,h5⟩
theorem Own.append {qs qs':List Addr}{ls ls':List (List (Int×Int))}(h:Own K H qs ls)(g:Own K H qs' ls'):Own K H (qs++qs') (ls++ls'):=pApp h g
theorem Own.other {q:Addr}{o:HO}{zs:List V}(hq:H q=some (.lst zs)){qs:List Addr}{ls:List (List (Int×Int))}(h:Own K H qs ls)(hn:q∉qs):Own K (upd H q o) qs ls:=by
 unfold Own at h
 induction h with
 | nil=>exact .nil
 | cons h _ ih=>
  obtain ⟨ws,h1,h2⟩:=h;rw[yaj,not_or]at hn;exact .cons ⟨ws,by rw[zaf (Ne.symm hn.1)];exact h1,zd4 hq h2⟩ (ih hn.2)
end
theorem ziT {ls:List (List (Int×Int))}{i:Nat}{l:List (Int×Int)}(h:ls[i]?=some l):(ls.take (i+1)).flatten=(ls.take i).flatten++l:=by
 have hi:=(yah.mp h).1;rw[yaA hi,ybL,(yah.mp h).2];simp
theorem zqD {ls:List (List (Int×Int))}(i:Nat):(ls.take i).flatten.length≤ls.flatten.length:=by
 have e:ls.flatten=(ls.take i).flatten++(ls.drop i).flatten:=by rw[← ybL,ybf]
 rw[e,yak];omega
def zpn (K:Frag):Sp:=fun vs H Q _=>∃(a:Addr) (qs:List Addr) (ls:List (List (Int×Int))),vs=[.ref a]∧H a=some (.lst (qs.map V.ref))∧Own K H qs ls∧ls.flatten.length≤63∧
 ∀(p:Addr) (ws:List V) (H':Hp),H p=none→Same H H'→H' p=some (.lst ws)→zao K H' (zez ls.flatten) ws→Q (.ref p) H'
theorem zmG (T:Txt K mg)(qa7:DF K mg "joined_up" zda zcS):FC P w K mg base 1 "joined_up" zcS (zpn K):=by
 refine qa7.ok qaS (fun vs H Q E h=>?_) (fun f cdv A outer s H vs Q E hr h=>?_)
 ·obtain ⟨a,qs,ls,rfl,_⟩:=h;rfl
 obtain ⟨a,qs,ls,rfl,ha,ho,hz,q⟩:=h;have hll:=ho.length;refine ⟨_,(zaj (zat (i:=1) qaS.nd rfl (Or.inl rfl) (zbg zad))
   (zaj (zbb PassesOwn.never rfl (za1 (pv 0)) (zan (i:=2) qaS.nd rfl (Or.inl rfl)) (zag (zaW (zdz F.plainAttrs_list F.slot_list_extend F.type_list_extend zmL (pv 1) (zaa (pv 2) zad)))))
   (zag (zas (zau (zfy (Int×Int)) rfl T.qcC boot_sorted (zaa (pv 1) zad)))))),?_⟩
 refine ⟨(by show 0≤sizeLine;decide),fun t ht=>?_⟩;have k0:But t H (upd H t (.lst [])):=fun b o n e=>by rw[zaf n];exact e
 refine ⟨_,rfl,a,rfl,⟨_,SqL.of (k0 _ _ (zab ha ht) ha)⟩,?_⟩;refine zdk (xs:=qs.map V.ref) (fun i σ H2=>∃(zs:List V) (x2:Option V),σ=[some (.ref a),some (.ref t),x2]∧H2 t=some (.lst zs)∧zao K H2 (ls.take i).flatten zs∧But t H H2∧Own K H2 qs ls) ?_ ?_ ?_ ?_
 ·exact ⟨[],_,rfl,zac,.nil,k0,ho.ext (zai ht _).ext⟩
 ·rintro i σ H2 _ ⟨zs,x2,rfl,h2,_,k2,_⟩;exact SqL.of (k2 _ _ (zab ha ht) ha)
 ·rintro i x σ H2 hx ⟨zs,x2,rfl,h2,hw,k2,o2⟩;obtain ⟨g,l,ws,e1,rfl,e3,e4,e5⟩:=o2.get hx;have hlen:zs.length+ws.length≤1000:=by
   have z1:=hw.length;have z2:=e5.length;have z3:=zqD (ls:=ls) (i+1);rw[ziT e3,yak]at z3;omega
  have hgo:∀ b∈qs,b≠t:=fun b hb z=>by
   obtain ⟨j,hj,rfl⟩:=ya4 hb;obtain ⟨_,_,ws0,f1,f2,_,f4,_⟩:=ho.get (i:=j) (x:=.ref qs[j]) (by rw[yal,yac hj];rfl);cases f2
   rw[z,ht]at f4;cases f4
  refine ⟨_,rfl,.inl ⟨rfl,_,SqL.of h2⟩,_,rfl,t,g,zs,ws,rfl,rfl,h2,e4,ya5 (zam hlen),?_⟩;refine ⟨_,_,rfl,zac,?_,fun b o n e=>by rw[zaf n];exact k2 b o n e,o2.other h2 (fun z=>hgo t z rfl)⟩;rw[ziT e3];exact (zd4 h2 hw).append (zd4 h2 e5)
 ·rintro σ H2 ⟨zs,x2,rfl,h2,hw,k2,o2⟩;rw[yar (by rw[yaa];omega)]at hw;refine ⟨_,rfl,t,zs,_,rfl,SqL.of h2,hw,by omega,fun l ws hl hs=>?_⟩;have e2:=zai hl (.lst ws);have s2:Same H H2:=fun b o e=>k2 b o (zab e ht) e;exact q l ws _ (s2.free hl) (s2.trans e2) zac (zao.mono e2.ext hs)
def zc7 (ps:List Nat):List V:=.non::ps.map nV
def parV (ps:List Nat)(k:Nat):V:=match par ps k with
 | none=>.non
 | some p=>nV p
theorem zaK (ps:List Nat):(zc7 ps).length=ps.length+1:=by
 unfold zc7;rw[yaI,yaa]
theorem zh1 {ps:List Nat}{k:Nat}(h:k < ps.length+1):atI (zc7 ps) (k:Int)=some (parV ps k):=by
 refine zaP ?_;unfold zc7 parV;cases k with
 | zero=>rfl
 | succ k=>
  show (ps.map nV)[k]?=some (match ps[k]? with | none=>_ | some p=>nV p)
  rw[yal,yac (show k < ps.length by omega)];rfl
theorem zeV {ps:List Nat}{k p:Nat}(h:par ps k=some p):parV ps k=nV p:=by
 unfold parV;rw[h]
theorem ziu {ps:List Nat}{k:Nat}(h:par ps k=none):parV ps k=.non:=by
 unfold parV;rw[h]
theorem zhH {ps:List Nat}{k m:Nat}:parV ps k=.int (m:Int)↔par ps k=some m:=by
 cases e:par ps k with
 | none=>
  rw[ziu e];exact ⟨(fun z=>nomatch z),(fun z=>nomatch z)⟩
 | some p=>
  rw[zeV e];constructor
  ·intro z;have:=Int.ofNat.inj (V.int.inj z);rw[this]
  ·intro z;rw[yae z]
theorem zio (ps:List Nat)(k:Nat)(i:Int):scal (parV ps k) (.int i)=true:=by
 cases e:par ps k with
 | none=>rw[ziu e];rfl
 | some p=>rw[zeV e];rfl
theorem But.new' {p b:Addr}{H H2:Hp}(k:But p H H2)(hb:H2 b=none)(o:HO):But p H (upd H2 b o):=fun x o' n e=>(zai hb o) x o' (k x o' n e)
def zph (K:Frag):Sp:=fun vs H Q _=>∃(d L:Addr) (m:Int),vs=[.ref d,.int m]∧(0 < m∧m≤40)∧LS K L d H∧
 ∀(t:Addr) (ps:List Nat) (H':Hp),H t=none→zaE ps→(ps.length:Int) < m→H' t=some (.tup (zc7 ps))→Keep d H H'→LS K L d H'→Q (.ref t) H'
theorem zlU {ps:List Nat}{u:Nat}(T:zaE ps)(h:u≤ps.length):zaE (ps++[u]):=by
 intro i hi;rw[yak,yaE]at hi;by_cases c:i < ps.length
 ·rw[List.getElem_append_left c];exact T i c
 ·have:i=ps.length:=by omega
  subst this;rw[List.getElem_append_right (yab _)];simp;exact h
theorem zox (T:Txt K mg)(qb8:DF K mg "_law_tree" zfK zeP)(qaa:FC P w K mg base 2 "_law_take" zbo (zea K)):FC P w K mg base 3 "_law_tree" zeP (zph K):=by
 refine qb8.ok qbg (fun vs H Q E h=>?_) (fun f cdv A outer s H vs Q E hr h=>?_)
 ·obtain ⟨d,L,m,rfl,_⟩:=h;rfl
 obtain ⟨d,L,m,rfl,⟨hm0,hm1⟩,hs,q⟩:=h;refine ⟨_,(zaj (zat (i:=2) qbg.nd rfl (Or.inl rfl) (zav qaa hr (zaa (pv 0) (zaa zae zad))))
   (zaj (zat (i:=3) qbg.nd rfl (Or.inl rfl) (zbg (zaa zrn zad)))
   (zaj (zbb PassesOwn.never rfl (zdw rfl T.qao (zaa zae (zaa (zaz za4 zae (zav qaa hr (zaa (pv 0) (zaa (pv 1) zad)))) zad))) (zan (i:=4) qbg.nd rfl (Or.inl rfl)) (zag (zaW (zdz F.plainAttrs_list F.slot_list_append F.type_list_append zaN (pv 3) (zaa (zaq zax (zbg (zaa (zaz zck (pv 4) zae) (zaa zae (zaa (zav qaa hr (zaa (pv 0) (zaa (pv 4) zad))) (zaa (zau (ze5 rfl) rfl T.qcZ boot_max (zaa zae (zaa (zaz zck (zaz zck (pv 4) zae) (zav qaa hr (zaa (pv 0) (zaa zae zad)))) zad))) zad))))) (pv 2) (fun _ _=>rfl)) zad)))))
   (zag (zas (zbI zdm rfl T.qb3 boot_tuple (zaa (pv 3) zad))))))),?_⟩
 refine ⟨_,rfl,d,L,4,rfl,by decide,hs,fun w1 H1 w0 w4 k1 s1=>?_⟩;refine ⟨(by show 1≤sizeLine;decide),fun p hp=>?_⟩;have g0:=zai hp (.lst [V.non]);have hpd:p≠d:=by
  obtain ⟨ns,a,l,e,_⟩:=s1.ex;exact Ne.symm (zab e hp)
 have hp0:H p=none:=by
  cases e:H p with
  | none=>rfl
  | some o=>
   have:=k1 p o hpd e;rw[hp]at this;cases this
 refine ⟨_,rfl,_,rfl,d,L,m,rfl,⟨hm0,by omega⟩,s1.same g0,fun n H2 n0 n1 k2 s2=>⟨_,_,rfl,rfl,1,_,rfl,⟨by omega,by omega,by omega,by omega⟩,?_⟩⟩;have en:((1:Int)+n - 1).toNat=n.toNat:=by omega
 rw[en];refine zby (n:=n.toNat) (fun i σ H3=>∃(ps:List Nat) (x4:Option V),σ=[some (.ref d),some (.int m),some (.int w1),some (.ref p),x4]∧H3 p=some (.lst (zc7 ps))∧ps.length=i∧zaE ps∧(∀ b o,b≠d→b≠p→H b=some o→H3 b=some o)∧LS K L d H3) ?_ ?_ ?_
 ·exact ⟨[],_,rfl,k2 p _ hpd zac,rfl,fun i hi=>absurd hi (by simp),fun b o n1 n2 e=>k2 b o n1 (g0 b o (k1 b o n1 e)),s2⟩
 ·rintro i σ H3 hi ⟨ps,x4,rfl,h3,rfl,hT,k3,s3⟩;have ek:(1:Int)+((ps.length:Nat):Int)=((ps.length+1:Nat):Int):=by omega
  rw[ek];refine ⟨_,rfl,.inl ⟨rfl,_,SqL.of h3⟩,?_⟩;refine ⟨_,rfl,_,_,rfl,rfl,_,rfl,_,rfl,d,L,_,rfl,⟨by omega,by omega⟩,s3,fun v1 H4 v10 v11 k4 s4=>?_⟩;refine ⟨_,rfl,_,_,rfl,rfl,_,rfl,d,L,2,rfl,by decide,s4,fun v2 H5 v20 v21 k5 s5=>⟨_,_,rfl,rfl,_,_,rfl,(by show 4≤sizeLine;decide),fun l hl=>?_⟩⟩;have h4:=k4 p _ hpd h3;have h5:=k5 p _ hpd h4;obtain ⟨u,hat,hu⟩:∃ u:Nat,atI [V.int (((ps.length+1:Nat):Int) - 1),V.int 0,V.int v1,V.int (if ((ps.length+1:Nat):Int) - 1 - v2 > 0 then ((ps.length+1:Nat):Int) - 1 - v2 else 0)] w1=some (nV u)∧u≤ps.length:=by
   have z:w1=0∨w1=1∨w1=2∨w1=3:=by omega
   rcases z with rfl | rfl | rfl | rfl
   ·refine ⟨ps.length,?_,yab _⟩;rw[show ((ps.length+1:Nat):Int) - 1=((ps.length:Nat):Int) by omega];rfl
   ·exact ⟨0,rfl,yaC _⟩
   ·obtain ⟨u,rfl⟩:=zky v10;exact ⟨u,rfl,by omega⟩
   ·refine ⟨(if ((ps.length+1:Nat):Int) - 1 - v2 > 0 then ((ps.length+1:Nat):Int) - 1 - v2 else 0).toNat,?_,?_⟩
    ·show some (V.int _)=some (V.int _);rw[Int.toNat_of_nonneg (by split <;> omega)]
    ·split <;> omega
  refine ⟨_,rfl,_,_,_,_,rfl,rfl,SqL.of zac,hat,_,_,_,rfl,rfl,by rw[zaf (zab h5 hl)];exact h5,zam (by rw[zaK];omega),?_⟩;refine ⟨ps++[u],_,rfl,?_,by rw[yak,yaE],zlU hT hu,fun b o n1 n2 e=>?_,?_⟩
  ·rw[zac];unfold zc7;rw[yan];rfl
  ·rw[zaf n2];have e5:=k5 b o n1 (k4 b o n1 (k3 b o n1 n2 e));exact (zai hl _) _ _ e5
  ·exact LS.put hs hp0 (fun b o n1 n2 e=>(zai hl _) _ _ (k5 b o n1 (k4 b o n1 (k3 b o n1 n2 e)))) (s5.of_new hl _)
 ·rintro σ H3 ⟨ps,x4,rfl,h3,hl,hT,k3,s3⟩;refine ⟨_,rfl,p,_,rfl,.inl ⟨SqL.of h3,fun t ht=>?_⟩⟩;have sn:=zai ht (.tup (zc7 ps));have htp:t≠p:=Ne.symm (zab h3 ht);have ht0:H t=none:=by
   cases e:H t with
   | none=>rfl
   | some o=>
    have htd:t≠d:=by
     obtain ⟨ns,a,l,e,_⟩:=s3.ex;exact Ne.symm (zab e ht)
    have:=k3 t o htd htp e;rw[ht]at this;cases this
  exact q t ps _ ht0 hT (by omega) zac (fun b o n e=>sn _ _ (k3 b o n (zab e hp0) e)) (s3.of_new ht _)
def zc0 (K:Frag):Sp:=fun vs H Q _=>∃(t:Addr) (ps:List Nat) (k:Nat),vs=[.ref t,.int k]∧H t=some (.tup (zc7 ps))∧ps.length≤900∧
 ∀(p:Addr) (H':Hp),H p=none→Same H H'→H' p=some (.lst ((zaH ps k (ps.length+1)).map nV))→Q (.ref p) H'
theorem zjl (T:Txt K mg)(qbp:DF K mg "children" zdP zcD):FC P w K mg base 1 "children" zcD (zc0 K):=by
 refine qbp.ok qcn (fun vs H Q E h=>?_) (fun f cdv A outer s H vs Q E hr h=>?_)
 ·obtain ⟨t,ps,k,rfl,_⟩:=h;rfl
 obtain ⟨t,ps,k,rfl,ht,hz,q⟩:=h;refine ⟨_,(zag (zas (zbd (N:=["other","tree","knot"]) (own:=1) (cap:=[0,1]) rfl (zb4 rfl T.qao (zaa (zau zar rfl T.qat boot_len (zaa (pv 0) zad)) zad)) ⟨rfl,rfl,rfl,rfl,rfl,rfl⟩ (fun _ _ _ _ _=>(zan (i:=0) (show List.Nodup (["other","tree","knot"]:List Str) by decide +kernel) rfl (Or.inl rfl))) (fun _ _ _ _ _=>(zek (zay zeo (zaq (zbr (K:=K)) (pv 1) (pv 0) (fun _ _=>rfl)) (pv 2) (zaA _)))) (fun _ _ _ _ _=>(pv 0))))),?_⟩;refine ⟨_,rfl,_,_,rfl,.inr (SqT.of ht),_,rfl,by omega,by rw[zaK];omega,fun D hD=>?_⟩;have el:((((zc7 ps).length:Nat):Int)).toNat=ps.length+1:=by rw[zaK,ya7]
 rw[el];refine zfi (n:=ps.length+1) (fun j σ H3=>∃ x0:Option V,σ=[x0,some (.ref t),some (.int k)]∧H3 D=some (.lst ((zaH ps k j).map nV))∧But D H H3) ?_ ?_ ?_
 ·exact ⟨_,rfl,zac,fun b o n e=>by rw[zaf n];exact e⟩
 ·rintro j m σ H3 hm hj ⟨x0,rfl,h3,k3⟩;rw[ybW];have h3t:=k3 _ _ (zab ht hD) ht;have hlen:=zcy ps k j;refine ⟨_,rfl,_,rfl,_,_,_,_,rfl,rfl,SqT.of h3t,zh1 hj,_,rfl,zio _ _ _,_,rfl,?_⟩;refine ite2 (fun c=>?_) (fun c=>?_)
  ·have c':par ps j=some k:=zhH.mp (yaB c);refine ⟨_,rfl,_,h3,zam (by rw[yaa];omega),m - 1,by omega,by omega,_,rfl,?_,fun b o n e=>by rw[zaf n];exact k3 b o n e⟩;rw[zac,zdl,if_pos c',yan];rfl
  ·have c':¬ par ps j=some k:=fun z=>c (yag (zhH.mpr z));refine ⟨m - 1,by omega,by omega,_,rfl,?_,k3⟩;rw[h3,zdl,if_neg c',yaN]
 ·rintro σ H3 ⟨x0,rfl,h3,k3⟩;exact q D H3 hD (fun b o e=>k3 b o (zab e hD) e) h3
def zim (K:Frag):Sp:=fun vs H Q _=>∃(t:Addr) (ps:List Nat) (k:Nat),vs=[.ref t,.int k]∧H t=some (.tup (zc7 ps))∧zaE ps∧k < ps.length+1∧ps.length≤900∧
 ∀(p:Addr) (H':Hp),H p=none→Same H H'→H' p=some (.lst ((benL ps k (ps.length+1)).map nV))→Q (.ref p) H'
theorem zlg (T:Txt K mg)(qbJ:DF K mg "beneath" zeL zd3):FC P w K mg base 1 "beneath" zd3 (zim K):=by
 refine qbJ.ok qbj (fun vs H Q E h=>?_) (fun f cdv A outer s H vs Q E hr h=>?_)
 ·obtain ⟨t,ps,k,rfl,_⟩:=h;rfl
 obtain ⟨t,ps,k,rfl,ht,hT,hk,hz,q⟩:=h;refine ⟨_,(zaj (zat (i:=2) qbj.nd rfl (Or.inl rfl) (zbg (zaa (pv 1) zad)))
   (zaj (zbb PassesOwn.never rfl (zdw rfl T.qao (zaa (zaz za4 (pv 1) zae) (zaa (zau zar rfl T.qat boot_len (zaa (pv 0) zad)) zad))) (zan (i:=3) qbj.nd rfl (Or.inl rfl)) (zag (zbu (zay zmw (zaq zaF (pv 0) (pv 3) (fun _ _=>rfl)) (pv 2) (by with_unfolding_all rfl)) (zag (zaW (zdz F.plainAttrs_list F.slot_list_append F.type_list_append zaN (pv 2) (zaa (pv 3) zad)))) zaI)))
   (zag (zas (pv 2))))),?_⟩
 refine ⟨_,rfl,(by show 1≤sizeLine;decide),fun p hp=>?_⟩;have k0:But p H (upd H p (.lst [.int (k:Int)])):=fun b o n e=>by rw[zaf n];exact e
 have ntp:t≠p:=zab ht hp;refine ⟨_,rfl,_,_,rfl,rfl,_,rfl,_,_,rfl,.inr (SqT.of (k0 _ _ ntp ht)),_,_,rfl,⟨by omega,by omega,by omega,by rw[zaK];omega⟩,?_⟩;have en:((((zc7 ps).length:Nat):Int) - ((k:Int)+1)).toNat=ps.length - k:=by rw[zaK];omega
 rw[en];refine zby (n:=ps.length - k) (fun i σ H3=>∃ x3:Option V,σ=[some (.ref t),some (.int k),some (.ref p),x3]∧H3 p=some (.lst ((benL ps k (k+1+i)).map nV))∧But p H H3) ?_ ?_ ?_
 ·refine ⟨_,rfl,?_,k0⟩;rw[zac,ybF,zo6 hT];rfl
 ·rintro i σ H3 hi ⟨x3,rfl,h3,k3⟩;have ek:(k:Int)+1+(i:Int)=((k+1+i:Nat):Int):=by omega
  rw[ek];have hj:k+1+i < ps.length+1:=by omega
  have hj1:1≤k+1+i:=by omega
  have hjk:k+1+i≠k:=by omega
  have ei:k+1+(i+1)=k+1+i+1:=by omega
  rw[ei];generalize k+1+i=j at h3 hj hj1 hjk ⊢;obtain ⟨u,hu⟩:=zkq hj1 hj;have h3t:=k3 _ _ ntp ht;have hat:=zh1 hj;rw[zeV hu]at hat;have hlen:=zhZ ps k j;refine ⟨_,rfl,_,rfl,_,_,_,_,rfl,rfl,SqT.of h3t,hat,_,rfl,_,_,rfl,.inl (SqL.of h3),rfl,zns _,_,rfl,?_⟩;show if inV (.int (u:Int)) ((benL ps k j).map nV)=true then _ else _
  rw[zpB];have hB:isB ps k j=isB ps k u:=zbS hT hjk hu;have hult:=(zaR hT hu).1;refine ite2 (fun c=>?_) (fun c=>?_)
  ·have c':isB ps k u=true:=(zcj.mp (yaB c)).2;refine ⟨_,rfl,.inl ⟨rfl,_,SqL.of h3⟩,_,rfl,_,_,_,rfl,rfl,h3,zam (by rw[yaa];omega),?_⟩;refine ⟨_,rfl,?_,fun b o n e=>by rw[zaf n];exact k3 b o n e⟩;rw[zac,zgK,hB,if_pos c',yan];rfl
  ·have c':¬ isB ps k u=true:=fun z=>c (yag (zcj.mpr ⟨hult,z⟩));refine ⟨_,rfl,?_,k3⟩;rw[h3,zgK,hB,if_neg c',yaN]
 ·rintro σ H3 ⟨x3,rfl,h3,k3⟩;refine ⟨_,rfl,?_⟩;rw[show k+1+(ps.length - k)=ps.length+1 by omega]at h3;exact q p H3 hp (fun b o e=>k3 b o (zab e hp) e) h3
def zcl (es:List (Int×Int)):List (Int×Int):=zdj es (zcF es)
def zbF (rows:List (List Int))(k:Nat):List Int:=rows.getD k []
def ownE (rows:List (List Int))(k:Nat):List (Int×Int):=(zbF rows k).map fun x=>(x,(k:Int))
def zlt (ps:List Nat)(rows:List (List Int)):Nat→Nat→List (Int×Int)
 | 0,_=>[]
 | f+1,k=>zez (((zaH ps k (ps.length+1)).map fun c=>zcl (zlt ps rows f c)).flatten++ownE rows k)
theorem zhf {ps:List Nat}(T:zaE ps){rows:List (List Int)}:∀ f g k,k < ps.length+1→ps.length+1 - k≤f→ps.length+1 - k≤g→zlt ps rows f k=zlt ps rows g k
 | 0,_,k,hk,h,_=>by omega
 | _,0,k,hk,_,h=>by omega
 | f+1,g+1,k,hk,hf,hg=>by
  unfold zlt;congr 3;refine ycp fun c hc=>?_;have h:=zaD.mp hc;have:=zaR T h.2;show zcl _=zcl _;rw[zhf T f g c h.1 (by omega) (by omega)]
def zak (ps:List Nat)(rows:List (List Int))(k:Nat):List (Int×Int):=zlt ps rows (ps.length+1 - k) k
def zec (ps:List Nat)(rows:List (List Int))(k:Nat):List (List (Int×Int)):=((zaH ps k (ps.length+1)).map fun c=>zcl (zak ps rows c))++[ownE rows k]
theorem zcV {ps:List Nat}(T:zaE ps){rows:List (List Int)}{k:Nat}(hk:k < ps.length+1):zak ps rows k=zez (zec ps rows k).flatten:=by
 unfold zak zec;obtain ⟨f,hf⟩:∃ f,ps.length+1 - k=f+1:=⟨ps.length - k,by omega⟩;rw[hf,zlt,ybL,List.flatten_singleton];congr 3;refine ycp fun c hc=>?_;have h:=zaD.mp hc;have:=zaR T h.2;show zcl _=zcl _;rw[zhf T f (ps.length+1 - c) c h.1 (by omega) (by omega)];rfl
structure za5 (rows:List (List Int)):Prop where
 up:∀ row∈rows,row.Pairwise (· < ·)
 key:∀ row∈rows,∀ x∈row,-(10 ^ 60) < x∧x < 10 ^ 60
theorem za5.at_up {rows:List (List Int)}(R:za5 rows)(k:Nat):(zbF rows k).Pairwise (· < ·):=by
 unfold zbF;rw[yad];cases e:rows[k]? with
 | none=>exact .nil
 | some row=>exact R.up row (yaP e)
theorem za5.at_key {rows:List (List Int)}(R:za5 rows)(k:Nat):∀ x∈zbF rows k,-(10 ^ 60) < x∧x < 10 ^ 60:=by
 unfold zbF;rw[yad];cases e:rows[k]? with
 | none=>exact fun x hx=>nomatch hx
 | some row=>exact R.key row (yaP e)
theorem ziR {α:Type}:∀(es:List α) (ms:List Bool),(zdj es ms).Sublist es
 | [],_=>by
  unfold zdj;exact List.Sublist.refl _
 | e::es,[]=>by
  unfold zdj;exact List.nil_sublist _
 | e::es,m::ms=>by
  have ih:=ziR es ms;unfold zdj at ih ⊢;cases m with
  | false=>exact List.Sublist.cons e ih
  | true=>exact List.Sublist.cons₂ e ih
theorem zbx (es:List (Int×Int)):(zcl es).Sublist es:=ziR _ _
def Of (ps:List Nat)(rows:List (List Int))(k:Nat)(e:Int×Int):Prop:=∃ j,j < ps.length+1∧isB ps k j=true∧e.2=(j:Int)∧e.1∈zbF rows j
theorem zkt {ps:List Nat}{rows:List (List Int)}{k:Nat}(hk:k < ps.length+1){e:Int×Int}(h:e∈ownE rows k):Of ps rows k e∧e.2=(k:Int):=by
 obtain ⟨x,hx,rfl⟩:=yaF.mp h;exact ⟨⟨k,hk,zcv,rfl,hx⟩,rfl⟩
theorem zmu {rows:List (List Int)}(R:za5 rows)(k:Nat):(ownE rows k).Nodup:=by
 unfold ownE;rw[List.nodup_iff_pairwise_ne,ybT];exact List.Pairwise.imp (fun {a b} (h:a < b) z=>by
  have:=congrArg Prod.fst z;have:a=b:=this;omega) (R.at_up k)
theorem zf2 {ps:List Nat}(T:zaE ps){rows:List (List Int)}(R:za5 rows):∀(m k:Nat),ps.length+1 - k≤m→k < ps.length+1→(∀ e∈zak ps rows k,Of ps rows k e)∧(zec ps rows k).flatten.Nodup
 | 0,k,hm,hk=>by omega
 | m+1,k,hm,hk=>by
  have ih:∀ c,par ps c=some k→(∀ e∈zak ps rows c,Of ps rows c e)∧(zak ps rows c).Nodup:=fun c hc=>by
   have:=zaR T hc;have q:=zf2 T R m c (by omega) this.2;refine ⟨q.1,?_⟩;rw[zcV T this.2];exact (zcw _).nodup_iff.mpr q.2
  have up:∀{c:Nat} {e:Int×Int},par ps c=some k→Of ps rows c e→Of ps rows k e:=fun {c e} hc h=>by
   obtain ⟨j,h1,h2,h3,h4⟩:=h;exact ⟨j,h1,(ze2 T j j (yab _) h1).mpr (.inr ⟨c,hc,h2⟩),h3,h4⟩
  refine ⟨fun e he=>?_,?_⟩
  ·rw[zcV T hk,zga]at he;obtain ⟨l,hl,he⟩:=yca.mp he;rcases yaH.mp hl with q | q
   ·obtain ⟨c,hc,rfl⟩:=yaF.mp q;have hp:=(zaD.mp hc).2;exact up hp ((ih c hp).1 e ((zbx _).mem he))
   ·rw[yap.mp q]at he;exact (zkt hk he).1
  ·show List.Pairwise _ _;unfold zec;rw[List.pairwise_flatten];refine ⟨fun l hl=>?_,?_⟩
   ·rcases yaH.mp hl with q | q
    ·obtain ⟨c,hc,rfl⟩:=yaF.mp q;exact (ih c (zaD.mp hc).2).2.sublist (zbx _)
    ·rw[yap.mp q];exact zmu R k
   ·rw[List.pairwise_append];refine ⟨?_,List.pairwise_singleton _ _,?_⟩
    ·rw[ybT];refine List.Pairwise.imp_of_mem (fun {c d} hc hd hcd=>?_) (zi0 ps k _);intro x hx y hy z;subst z;have pc:=(zaD.mp hc).2;have pd:=(zaD.mp hd).2;obtain ⟨j,_,h2,h3,_⟩:=(ih c pc).1 x ((zbx _).mem hx);obtain ⟨i,_,g2,g3,_⟩:=(ih d pd).1 x ((zbx _).mem hy);have:j=i:=by omega
     subst this;exact ze3 T pc pd (yaq hcd) j j (yab _) h2 g2
    ·intro l hl l' hl' x hx y hy z;subst z;obtain ⟨c,hc,rfl⟩:=yaF.mp hl;rw[yap.mp hl']at hy;have pc:=(zaD.mp hc).2;obtain ⟨j,_,h2,h3,_⟩:=(ih c pc).1 x ((zbx _).mem hx);have h4:=(zkt hk hy).2;have:j=k:=by omega
     subst this;rw[zdE T (zaR T pc).1]at h2;cases h2
theorem zf3 {ps:List Nat}(T:zaE ps){rows:List (List Int)}(R:za5 rows){k:Nat}(hk:k < ps.length+1):∀ e∈zak ps rows k,Of ps rows k e:=(zf2 T R _ k (yab _) hk).1
theorem zgv {ps:List Nat}(T:zaE ps){rows:List (List Int)}(R:za5 rows){k:Nat}(hk:k < ps.length+1):(zak ps rows k).Nodup:=by
 rw[zcV T hk];exact (zcw _).nodup_iff.mpr (zf2 T R _ k (yab _) hk).2
theorem zaY {ps:List Nat}(T:zaE ps){rows:List (List Int)}(R:za5 rows){k:Nat}(hk:k < ps.length+1):Rise (zak ps rows k):=by
 rw[zcV T hk];exact zg2 (zf2 T R _ k (yab _) hk).2
theorem zgw {ps:List Nat}(T:zaE ps){rows:List (List Int)}(R:za5 rows)(hz:ps.length≤40){k:Nat}(hk:k < ps.length+1):∀ e∈zak ps rows k,zet 64 e:=fun e he=>by
 obtain ⟨j,h1,h2,h3,h4⟩:=zf3 T R hk e he;have:=R.at_key j _ h4;exact ⟨this.1,this.2,by omega,by omega⟩
def wtR (ps:List Nat)(rows:List (List Int))(k:Nat):Nat:=((benL ps k (ps.length+1)).map fun j=>(zbF rows j).length).sum
theorem zn4 {l m:List Nat}(h:l.Perm m):l.sum=m.sum:=by
 induction h with
 | nil=>rfl
 | cons x _ ih=>rw[yaU,yaU,ih]
 | swap x y l=>rw[yaU,yaU,yaU,yaU];omega
 | trans _ _ h1 h2=>rw[h1,h2]
theorem zjX (f:Nat→Nat):∀(ls:List (List Nat)),(ls.flatten.map f).sum=(ls.map fun l=>(l.map f).sum).sum
 | []=>rfl
 | l::ls=>by
  rw[List.flatten_cons,yan,List.sum_append,zjX f ls,yaw,yaU]
theorem zlL {ps:List Nat}(T:zaE ps)(f:Nat→Nat){k:Nat}(hk:k < ps.length+1):((benL ps k (ps.length+1)).map f).sum=f k+((zaH ps k (ps.length+1)).map fun c=>((benL ps c (ps.length+1)).map f).sum).sum:=by
 have h:=zn4 ((zk6 T hk).map f);rw[yaw,yaU,zjX,yaZ]at h;exact h.symm
theorem zpg {f g:Nat→Nat}:∀{l:List Nat},(∀ x∈l,f x≤g x)→(l.map f).sum≤(l.map g).sum
 | [],_=>yab _
 | x::l,h=>by
  rw[yaw,yaU,yaw,yaU];have h1:=h x yav;have h2:=zpg (f:=f) (g:=g) (l:=l) fun y hy=>h y (yau _ hy);omega
theorem zkA {α:Type}:∀(ls:List (List α)),ls.flatten.length=(ls.map List.length).sum
 | []=>rfl
 | l::ls=>by
  rw[List.flatten_cons,yak,zkA ls,yaw,yaU]
theorem znq {ps:List Nat}(T:zaE ps){rows:List (List Int)}{k:Nat}(hk:k < ps.length+1):(zak ps rows k).length=(zbF rows k).length+((zaH ps k (ps.length+1)).map fun c=>(zcl (zak ps rows c)).length).sum:=by
 rw[zcV T hk,zdu];unfold zec;rw[ybL,yak,List.flatten_singleton,zkA,yaZ];unfold ownE;rw[yaa,Nat.add_comm];rfl
theorem zhe {ps:List Nat}(T:zaE ps){rows:List (List Int)}:∀(m k:Nat),ps.length+1 - k≤m→k < ps.length+1→(zak ps rows k).length≤wtR ps rows k
 | 0,k,hm,hk=>by omega
 | m+1,k,hm,hk=>by
  unfold wtR;rw[znq T hk,zlL T _ hk];refine ycg (zpg fun c hc=>?_) _;have h:=zaD.mp hc;have:=zaR T h.2;exact yat (zbx _).length_le (zhe T m c (by omega) h.1)
theorem zg1 (f:Nat→Nat)(P:Nat→Bool):∀(l:List Nat),((l.filter P).map f).sum≤(l.map f).sum
 | []=>yab _
 | x::l=>by
  have ih:=zg1 f P l;rw[yaw,yaU];by_cases h:P x=true
  ·rw[yaL h,yaw,yaU];omega
  ·rw[yaS h];omega
def ze1 (rows:List (List Int)):Nat:=(rows.map List.length).sum
theorem zl2 (rows:List (List Int)):((List.range rows.length).map fun j=>(zbF rows j).length).sum=ze1 rows:=by
 unfold ze1;congr 1;apply ybe;intro i;rw[yal,yal];by_cases h:i < rows.length
 ·rw[ya9 h,yac h];show some (zbF rows i).length=some rows[i].length;unfold zbF;rw[yad,yac h];rfl
 ·rw[ya3 (by rw[yaR];omega),ya3 (by omega)];rfl
theorem zpc {ps:List Nat}{rows:List (List Int)}(hl:rows.length=ps.length+1)(k:Nat):wtR ps rows k≤ze1 rows:=by
 unfold wtR benL;refine yat (zg1 _ _ _) ?_;rw[← hl,zl2];exact yab _
theorem zdG {ps:List Nat}(T:zaE ps){rows:List (List Int)}(hl:rows.length=ps.length+1){k:Nat}(hk:k < ps.length+1):(zak ps rows k).length≤ze1 rows:=yat (zhe T _ k (yab _) hk) (zpc hl k)
def zaU (H:Hp)(as:List Addr)(rows:List (List Int)):Prop:=Paired (fun a row=>H a=some (.tup (row.map V.int))) as rows
theorem zaU.ext {H H':Hp}(e:∀ b o,H b=some o→H' b=some o){as:List Addr}{rows:List (List Int)}(h:zaU H as rows):zaU H' as rows:=pImp (fun _ _=>e _ _) h
theorem zaU.keep {d p:Addr}{H H':Hp}(hd:∀ a row,H a=some (.tup row)→a≠d)(e:∀ b o,b≠d→H b=some o→H' b=some o){as:List Addr}{rows:List (List Int)}(h:zaU H as rows):zaU H' as rows:=pImp (fun _ _ h=>e _ _ (hd _ _ h) h) h
theorem zaU.length {H:Hp}{as:List Addr}{rows:List (List Int)}(h:zaU H as rows):as.length=rows.length:=Paired.length h
theorem zaU.get {H:Hp}:∀{as:List Addr} {rows:List (List Int)} {k:Nat},zaU H as rows→k < rows.length→∃ a,as[k]?=some a∧H a=some (.tup ((zbF rows k).map V.int))
 | _,_,_,.nil,hk=>by simp at hk
 | a::as,row::rows,0,.cons h t,_=>⟨a,rfl,h⟩
 | a::as,row::rows,k+1,.cons h t,hk=>by
  obtain ⟨b,h1,h2⟩:=zaU.get (k:=k) t (by simpa using hk);refine ⟨b,by rw[ycm];exact h1,?_⟩;have:zbF (row::rows) (k+1)=zbF rows k:=by
   unfold zbF;rw[yad,yad,ycm]
  rw[this];exact h2
theorem zaU.snoc {H:Hp}{a:Addr}{row:List Int}{as:List Addr}{rows:List (List Int)}(h:zaU H as rows)(g:H a=some (.tup (row.map V.int))):zaU H (as++[a]) (rows++[row]):=pApp h (.cons g .nil)
structure zaO (H:Hp)(st:Addr)(ps:List Nat)(rows:List (List Int))(t rs:Addr)(as:List Addr):Prop where
 st:H st=some (.tup [.ref t,.ref rs])
 tr:H t=some (.tup (zc7 ps))
 rs:H rs=some (.tup (as.map V.ref))
 at_:zaU H as rows
 len:rows.length=ps.length+1
 T:zaE ps
 R:za5 rows
 few:ps.length≤40
 keys:ze1 rows≤63
theorem zaO.same {H H':Hp}{st t rs:Addr}{ps:List Nat}{rows:List (List Int)}{as:List Addr}(S:zaO H st ps rows t rs as)(e:Same H H'):zaO H' st ps rows t rs as:=
 ⟨e _ _ S.st,e _ _ S.tr,e _ _ S.rs,S.at_.ext e,S.len,S.T,S.R,S.few,S.keys⟩
theorem zhl {as:List Addr}{k:Nat}{a:Addr}(h:as[k]?=some a):atI (as.map V.ref) (k:Int)=some (.ref a):=zaP (by rw[yal,h];rfl)
theorem ziA {α:Type}{l:List α}(h:l.Nodup):l.reverse.Nodup:=(List.reverse_perm l).nodup_iff.mpr h
def zgP (K:Frag)(H:Hp)(ps:List Nat)(rows:List (List Int))(j:Nat)(q:Addr):Prop:=∃ ws,H q=some (.lst ws)∧zao K H (zak ps rows j) ws
def zaB (K:Frag)(H:Hp)(ps:List Nat)(rows:List (List Int)):List Nat→List Addr→Prop:=Paired (zgP K H ps rows)
theorem zgP.same {K:Frag}{H H':Hp}{ps:List Nat}{rows:List (List Int)}{j:Nat}{q:Addr}(h:zgP K H ps rows j q)(e:Same H H'):zgP K H' ps rows j q:=by
 obtain ⟨ws,h1,h2⟩:=h;exact ⟨ws,e _ _ h1,h2.mono e.ext⟩
theorem zaB.same {K:Frag}{H H':Hp}{ps:List Nat}{rows:List (List Int)}(e:Same H H'){js:List Nat}{qs:List Addr}(h:zaB K H ps rows js qs):zaB K H' ps rows js qs:=pImp (fun _ _ h=>zgP.same h e) h
theorem zaB.ext {K:Frag}{H H':Hp}{ps:List Nat}{rows:List (List Int)}(e:Ext H H'){js:List Nat}{qs:List Addr}(h:zaB K H ps rows js qs):zaB K H' ps rows js qs:=pImp (fun _ _ h=>by
  obtain ⟨ws,a1,a2⟩:=h;exact ⟨ws,e _ _ a1 (fun _ z=>nomatch z),a2.mono e⟩) h
theorem zaB.length {K:Frag}{H:Hp}{ps:List Nat}{rows:List (List Int)}{js:List Nat}{qs:List Addr}(h:zaB K H ps rows js qs):js.length=qs.length:=Paired.length h
theorem zaB.snoc {K:Frag}{H:Hp}{ps:List Nat}{rows:List (List Int)}{j:Nat}{q:Addr}{js:List Nat}{qs:List Addr}(h:zaB K H ps rows js qs)(g:zgP K H ps rows j q):zaB K H ps rows (js++[j]) (qs++[q]):=pApp h (.cons g .nil)
theorem zaB.get {K:Frag}{H:Hp}{ps:List Nat}{rows:List (List Int)}:∀{js:List Nat} {qs:List Addr} {i j:Nat},zaB K H ps rows js qs→js[i]?=some j→∃ q,qs[i]?=some q∧zgP K H ps rows j q
 | _,_,i,j,.nil,h=>by simp at h
 | _::_,q::_,0,j,.cons h t,e=>by
  have:=yae (show some _=some j from e);subst this;exact ⟨q,rfl,h⟩
 | _::_,_::_,i+1,j,.cons h t,e=>by
  obtain ⟨q,h1,h2⟩:=zaB.get (i:=i) t (by simpa using e);exact ⟨q,by simpa using h1,h2⟩
theorem zaB.rev {K:Frag}{H:Hp}{ps:List Nat}{rows:List (List Int)}{js:List Nat}{qs:List Addr}(h:zaB K H ps rows js qs):zaB K H ps rows js.reverse qs.reverse:=by
 unfold zaB at h
 induction h with
 | nil=>exact .nil
 | cons h _ ih=>
  rw[yb6,yb6];exact zaB.snoc ih h
theorem zaB.alloc {K:Frag}{H:Hp}{ps:List Nat}{rows:List (List Int)}:∀{js:List Nat} {qs:List Addr},zaB K H ps rows js qs→∀ q∈qs,∃ ws,H q=some (.lst ws)
 | _,_,.nil=>fun q hq=>nomatch hq
 | _::_,_::_,.cons h t=>fun q hq=>by
  rcases yaj.mp hq with e | e
  ·obtain ⟨ws,h1,_⟩:=h;exact ⟨ws,e ▸ h1⟩
  ·exact zaB.alloc t q e
abbrev kN (j:Nat):Key:=Sum.inl (j:Int)
def zdD:List Nat→List Addr→List (Key×V)
 | j::js,q::qs=>(kN j,.ref q)::zdD js qs
 | _,_=>[]
theorem zkE {j:Nat}:∀{js:List Nat} {qs:List Addr},j∉js→valV (zdD js qs) (kN j)=none
 | [],_,_=>rfl
 | _::_,[],_=>rfl
 | i::js,q::qs,h=>by
  have h1:¬ kN i=kN j:=fun z=>h (by
   have:=Int.ofNat.inj (Sum.inl.inj z);rw[this];exact yav)
  show valV ((kN i,V.ref q)::zdD js qs) (kN j)=none;rw[zaQ h1];exact zkE fun z=>h (yau _ z)
theorem zjv {j:Nat}{q:Addr}:∀{js:List Nat} {qs:List Addr} {i:Nat},js.Nodup→js[i]?=some j→qs[i]?=some q→valV (zdD js qs) (kN j)=some (.ref q)
 | [],_,_,_,h,_=>by simp at h
 | _::_,[],_,_,_,h=>by simp at h
 | a::js,b::qs,0,_,h1,h2=>by
  have:=yae (show some a=some j from h1);subst this;have:=yae (show some b=some q from h2);subst this;exact za6 (p:=(kN a,V.ref b)) rfl
 | a::js,b::qs,i+1,hn,h1,h2=>by
  have g1:js[i]?=some j:=by simpa using h1
  have hne:¬ kN a=kN j:=fun z=>by
   have e:=Int.ofNat.inj (Sum.inl.inj z);exact (yaK.mp hn).1 (e ▸ yaP g1)
  show valV ((kN a,V.ref b)::zdD js qs) (kN j)=_;rw[zaQ hne];exact zjv (yaK.mp hn).2 g1 (by simpa using h2)
theorem zkD {j:Nat}{q:Addr}:∀{js:List Nat} {qs:List Addr},js.length=qs.length→zdD (js++[j]) (qs++[q])=zdD js qs++[(kN j,.ref q)]
 | [],[],_=>rfl
 | [],_::_,h=>by cases h
 | _::_,[],h=>by cases h
 | a::js,b::qs,h=>by
  show (kN a,V.ref b)::zdD (js++[j]) (qs++[q])=(kN a,V.ref b)::(zdD js qs++[(kN j,V.ref q)]);rw[zkD (Nat.succ.inj h)]
theorem zqo {j:Nat}{q:Addr}{js:List Nat}{qs:List Addr}(hl:js.length=qs.length)(h:j∉js):putK (zdD js qs) (kN j) (.ref q)=zdD (js++[j]) (qs++[q]):=by
 rw[zdc _ (zkE h),zkD hl]
theorem zm3:∀{js:List Nat} {qs:List Addr},js.length=qs.length→(zdD js qs).length=js.length
 | [],[],_=>rfl
 | [],_::_,h=>by cases h
 | _::_,[],h=>by cases h
 | a::js,b::qs,h=>by
  show (zdD js qs).length+1=js.length+1;rw[zm3 (Nat.succ.inj h)]
theorem zpa {l:List Nat}(h:l.Pairwise (· > ·)){i j c:Nat}(hj:l[i]?=some j)(hc:c∈l)(hcj:j < c):c∈l.take i:=by
 obtain ⟨u,hu,rfl⟩:=ya4 hc;obtain ⟨hi,rfl⟩:=yah.mp hj;have:u < i:=by
  refine ycc fun z=>?_;by_cases e:i=u
  ·subst e;omega
  ·have:=ya6.mp h i u hi hu (by omega);omega
 rw[List.mem_iff_getElem?];exact ⟨u,by rw[ybI,if_pos this,yac hu]⟩
theorem zkJ {ps:List Nat}(T:zaE ps){k j c:Nat}(h:isB ps k j=true)(hc:par ps c=some j):isB ps k c=true:=by
 by_cases e:c=k
 ·rw[e];exact zcv
 ·rw[zbS T e hc];exact h
def zrb (K:Frag):Sp:=fun vs H Q _=>∃(st:Addr) (ps:List Nat) (rows:List (List Int)) (t rs:Addr) (as:List Addr) (j:Nat),vs=[.ref st,.int j]∧zaO H st ps rows t rs as∧j < ps.length+1∧
 ∀(D:Addr) (us:List V) (H':Hp),H D=none→Same H H'→H' D=some (.lst us)→zao K H' (ownE rows j) us→Q (.ref D) H'
theorem zru (T:Txt K mg)(qaM:DF K mg "own_entries" zcp zcg):FC P w K mg base 1 "own_entries" zcg (zrb K):=by
 refine qaM.ok qbT (fun vs H Q E h=>?_) (fun f cdv A outer s H vs Q E hr h=>?_)
 ·obtain ⟨st,ps,rows,t,rs,as,k,rfl,_⟩:=h;rfl
 obtain ⟨st,ps,rows,t,rs,as,j,rfl,S4,hjn,q⟩:=h;refine ⟨_,(zag (zas (zbd (N:=["key","knot"]) (own:=1) (cap:=[1]) rfl (zg7 (zaq zaF (zaq zaF (pv 0) zae (fun _ _=>rfl)) (pv 1) (fun _ _=>rfl))) ⟨rfl,rfl,rfl,rfl,rfl,rfl⟩ (fun _ _ _ _ _=>(zan (i:=0) (show List.Nodup (["key","knot"]:List Str) by decide +kernel) rfl (Or.inl rfl))) (fun _ _ _ _ _=>zbj) (fun _ _ _ _ _=>(zbv (zaa (pv 0) (zaa (pv 1) zad))))))),?_⟩;obtain ⟨a,ha1,ha4⟩:=S4.at_.get (k:=j) (by rw[S4.len];exact hjn);have hkeys:=S4.keys;refine ⟨_,rfl,_,_,_,_,rfl,rfl,SqT.of S4.st,rfl,_,rfl,_,_,_,_,rfl,rfl,SqT.of S4.rs,zhl ha1,a,rfl,⟨_,SqT.of ha4⟩,fun D3 hD3=>?_⟩;refine zf7 (xs:=(zbF rows j).map V.int) (fun m σ H5=>∃(us:List V) (x0:Option V),σ=[x0,some (.int j)]∧H5 D3=some (.lst us)∧zao K H5 ((ownE rows j).take m) us∧But D3 H H5) ?_ ?_ ?_ ?_
 ·exact ⟨[],_,rfl,zac,.nil,fun b o n e=>by rw[zaf n];exact e⟩
 ·rintro m σ H5 _ ⟨us,x0,rfl,_,_,k5⟩;exact SqT.of (k5 _ _ (zab ha4 hD3) ha4)
 ·rintro m r x σ H5 hx hm ⟨us,x0,rfl,h5,hw5,k5⟩;rw[yal]at hx;obtain ⟨y,hy,rfl⟩:=ya8.mp hx;have hlow:=(yah.mp hy).1;have htk3:(ownE rows j).take (m+1)=(ownE rows j).take m++[(y,(j:Int))]:=by
   unfold ownE;rw[← ybr,← ybr,yaA hlow,yan];rw[(yah.mp hy).2];rfl
  have hul:=hw5.length;rw[yao]at hul;rw[yaa]at hm;have hrl:(zbF rows j).length≤ze1 rows:=by
   have:=zpc S4.len (k:=j) (ps:=ps);have e2:wtR ps rows j=(zbF rows j).length+_:=zlL S4.T _ hjn;omega
  refine zcU ?_;refine ⟨_,rfl,_,rfl,(by show 2≤sizeLine;decide),fun u hu=>?_⟩;have su:=zai hu (.tup [.int y,.int (j:Int)]);have h6:=su _ _ h5;have hut:upd H5 u (.tup [.int y,.int (j:Int)]) u=some (.tup [.int y,.int (j:Int)]):=zac;have k6:=k5.new' hu (.tup [.int y,.int (j:Int)]);have hw6:=hw5.mono su.ext;generalize upd H5 u (.tup [.int y,.int (j:Int)])=H6 at su h6 hut k6 hw6 ⊢;refine ⟨_,h6,zam (by omega),r - 1,by omega,by rw[yaa];omega,us++[.ref u],_,rfl,zac,?_,fun b o n e=>by rw[zaf n];exact k6 b o n e⟩;rw[htk3];exact (zd4 h6 hw6).append (zd4 h6 (.cons ⟨u,.int y,.int (j:Int),rfl,hut,rfl,rfl⟩ .nil))
 ·rintro σ H5 ⟨us,x0,rfl,h5,hw5,k5⟩;rw[yaa,yar (by unfold ownE;rw[yaa];exact yab _)]at hw5;exact q D3 us H5 hD3 (fun x o e=>k5 x o (zab e hD3) e) h5 hw5
def zrd (K:Frag):Sp:=fun vs H Q _=>∃(st:Addr) (ps:List Nat) (rows:List (List Int)) (t rs:Addr) (as:List Addr) (k:Nat),vs=[.ref st,.int k]∧zaO H st ps rows t rs as∧k < ps.length+1∧
 ∀(D:Addr) (qs:List Addr) (H':Hp),H D=none→Same H H'→H' D=some (.dK (zdD (benL ps k (ps.length+1)).reverse qs))→qs.Nodup→(∀ q∈qs,H q=none)→zaB K H' ps rows (benL ps k (ps.length+1)).reverse qs→Q (.ref D) H'
theorem zry (T:Txt K mg)(qak:DF K mg "full_rows_beneath" zbh za7)(qcQ:FC P w K mg base 1 "beneath" zd3 (zim K))(qbq:FC P w K mg base 1 "children" zcD (zc0 K))(qc3:FC P w K mg base 6 "handed" zeT (zkc K))(qb9:FC P w K mg base 1 "own_entries" zcg (zrb K))(qct:FC P w K mg base 1 "joined_up" zcS (zpn K)):FC P w K mg base 7 "full_rows_beneath" za7 (zrd K):=by
 refine qak.ok qab (fun vs H Q E h=>?_) (fun f cdv A outer s H vs Q E hr h=>?_)
 ·obtain ⟨st,ps,rows,t,rs,as,k,rfl,_⟩:=h;rfl
 obtain ⟨st,ps,rows,t,rs,as,k,rfl,S,hk,q⟩:=h;refine ⟨_,(zaj (zat (i:=2) qab.nd rfl (Or.inl rfl) (zaq zaF (pv 0) zae (fun _ _=>rfl)))
   (zaj (zat (i:=3) qab.nd rfl (Or.inr rfl) zko)
   (zaj (zbb PassesOwn.never rfl (zjg rfl T.qcI (zaa (zav qcQ hr (zaa (pv 2) (zaa (pv 1) zad))) zad)) (zan (i:=4) qab.nd rfl (Or.inl rfl)) (zaj (zgd (i:=5) (N:=["child","told"]) (own:=1) (cap:=[3]) qab.nd rfl rfl rfl (za1 (zav qbq hr (zaa (pv 2) (zaa (pv 4) zad)))) ⟨rfl,rfl,rfl,rfl,rfl,rfl⟩ (fun _ _ _ _ _=>(zan (i:=0) (show List.Nodup (["child","told"]:List Str) by decide +kernel) rfl (Or.inl rfl))) (fun _ _ _ _ _=>zbj) (fun _ _ _ _ _=>(zav qc3 hr (zaa (zde (zdr hr) (pv 1) (pv 0) (fun _ _=>rfl)) zad))))
   (zaj (zaW (zdz F.plainAttrs_list F.slot_list_append F.type_list_append zaN (pv 5) (zaa (zav qb9 hr (zaa (pv 0) (zaa (pv 4) zad))) zad)))
   (zag (zel (zdr hr) (pv 3) (pv 4) (zav qct hr (zaa (pv 5) zad)) rfl)))))
   (zag (zas (pv 3)))))),?_⟩
 refine ⟨_,rfl,_,_,_,_,rfl,rfl,SqT.of S.st,rfl,fun D hD=>?_⟩;have s0:=zai hD (.dK []);have hD0:upd H D (.dK []) D=some (.dK []):=zac;generalize upd H D (.dK [])=H0 at s0 hD0 ⊢;refine ⟨_,rfl,_,rfl,t,ps,k,rfl,s0 _ _ S.tr,S.T,hk,by have:=S.few;omega,fun b H1 hb s1 h1=>?_⟩;refine ⟨b,_,rfl,SqL.of h1,?_⟩;have hup:=zjN ps k (ps.length+1);have hmem:=fun j=>zcj (ps:=ps) (k:=k) (n:=ps.length+1) (j:=j);have hbl:=zhZ ps k (ps.length+1);generalize benL ps k (ps.length+1)=bs at h1 q hup hmem hbl ⊢;have hdn:bs.reverse.Pairwise (· > ·):=by
  rw[List.pairwise_reverse];exact hup
 have hnd:bs.reverse.Nodup:=List.Pairwise.imp (fun {a b} (q:a > b)=>ybh q) hdn;refine zqC (xs:=bs.map nV) (fun i σ H2=>∃(qs:List Addr) (x5 x6:Option V),σ=[some (.ref st),some (.int k),some (.ref t),some (.ref D),x5,x6]∧H2 D=some (.dK (zdD (bs.reverse.take i) qs))∧qs.Nodup∧(∀ q∈qs,H q=none)∧zaB K H2 ps rows (bs.reverse.take i) qs∧H2 b=some (.lst (bs.map nV))∧But D H H2) ?_ ?_ ?_ ?_
 ·exact ⟨[],_,_,rfl,s1 _ _ hD0,ybA,(fun q hq=>nomatch hq),.nil,h1,fun x o _ e=>s1 _ _ (s0 _ _ e)⟩
 ·rintro i σ H2 _ ⟨qs,x5,x6,rfl,_,_,_,_,h2b,_⟩;exact SqL.of h2b
 ·rintro i x σ H2 hx ⟨qs,x5,x6,rfl,h2,hqn,hqf,hF,h2b,k2⟩;rw[← List.map_reverse]at hx;obtain ⟨hi,hxe⟩:=zhd hx;have hji:bs.reverse[i]?=some (bs.reverse.getD i 0):=by
   rw[yad,yac hi];rfl
  subst hxe;have htk:bs.reverse.take (i+1)=bs.reverse.take i++[bs.reverse.getD i 0]:=by
   rw[yaA hi,yad,yac hi];rfl
  rw[htk];generalize bs.reverse.getD i 0=j at hji htk ⊢;have hjm:j∈bs:=ybU.mp (yaP hji);obtain ⟨hjn,hjB⟩:=(hmem j).mp hjm;have hjnot:j∉bs.reverse.take i:=fun z=>by
   have hnd':=hnd;rw[← ybf (i+1) bs.reverse,htk]at hnd';have:=(ybq.mp hnd').1;exact (ybq.mp this).2.2 j z j (yap.mpr rfl) rfl
  have noD:∀{p:Addr} {o:HO},H p=some o→p≠D:=fun {p o} e=>zab e hD;have S2:zaO H2 st ps rows t rs as:=⟨k2 _ _ (noD S.st) S.st,k2 _ _ (noD S.tr) S.tr,k2 _ _ (noD S.rs) S.rs,zaU.keep (p:=D) (d:=D) (fun a row e=>noD e) k2 S.at_,S.len,S.T,S.R,S.few,S.keys⟩;have hkeys:=S.keys;have hfew:=S.few;refine ⟨_,rfl,_,rfl,t,ps,j,rfl,S2.tr,by omega,fun c H3 hc s3 h3=>?_⟩;refine ⟨c,rfl,⟨_,SqL.of h3⟩,fun D2 hD2=>?_⟩;have hcmem:=fun m=>zaD (ps:=ps) (k:=j) (n:=ps.length+1) (j:=m);have hcl:=zcy ps j (ps.length+1);have hparts:zec ps rows j=((zaH ps j (ps.length+1)).map fun c=>zcl (zak ps rows c))++[ownE rows j]:=rfl;generalize zaH ps j (ps.length+1)=cs at h3 hcmem hcl hparts ⊢;have h3D:=s3 _ _ h2;have nDD2:D≠D2:=zab h3D hD2;have F3:zaB K H3 ps rows (bs.reverse.take i) qs:=hF.same s3;refine zaT (xs:=cs.map nV) (fun m σ H4=>∃(gs:List Addr) (x0:Option V),σ=[x0,some (.ref D)]∧H4 D2=some (.lst (gs.map V.ref))∧Own K H4 gs ((cs.take m).map fun c=>zcl (zak ps rows c))∧D2∉gs∧But D2 H3 H4) ?_ ?_ ?_ ?_
  ·exact ⟨[],_,rfl,zac,.nil,(fun z=>nomatch z),fun b o n e=>by rw[zaf n];exact e⟩
  ·rintro m σ H4 _ ⟨gs,x0,rfl,_,_,_,k4⟩;exact k4.sq (SqL.of h3) hD2
  ·rintro m r x σ H4 hx hm ⟨gs,x0,rfl,h4,hO,hg,k4⟩;obtain ⟨hmi,rfl⟩:=zhd hx;have hcm:cs[m]?=some (cs.getD m 0):=by
    rw[yad,yac hmi];rfl
   have htk2:cs.take (m+1)=cs.take m++[cs.getD m 0]:=by
    rw[yaA hmi,yad,yac hmi];rfl
   rw[htk2];generalize cs.getD m 0=ch at hcm ⊢;obtain ⟨hchn,hchp⟩:=(hcmem ch).mp (yaP hcm);have hlt:=(zaR S.T hchp).1;have hin:ch∈bs.reverse.take i:=zpa hdn hji (ybU.mpr ((hmem ch).mpr ⟨hchn,zkJ S.T hjB hchp⟩)) hlt;obtain ⟨u,hu,hue⟩:=ya4 hin;have hu2:(bs.reverse.take i)[u]?=some ch:=by rw[yac hu,hue]
   obtain ⟨qq,hq1,ws,hq2,hq3⟩:=F3.get hu2;have hnd2:(bs.reverse.take i).Nodup:=hnd.sublist (List.take_sublist _ _);have hv:=zjv hnd2 hu2 hq1;have k4D:=k4 _ _ nDD2 h3D;have hq4:=k4 _ _ (zab hq2 hD2) hq2;have hq5:zao K H4 (zak ps rows ch) ws:=by
    have key:∀{es:List (Int×Int)} {vs:List V},zao K H3 es vs→zao K H4 es vs:=by
     intro es vs hh
     induction hh with
     | nil=>exact .nil
     | cons a _ ih=>
      obtain ⟨b,x1,x2,rfl,q,e1,e2⟩:=(show hasP K H3 _ _ from a);exact .cons ⟨b,x1,x2,rfl,k4 _ _ (zab q hD2) q,e1,e2⟩ ih
    exact key hq3
   have hlen:=zdG S.T S.len (rows:=rows) hchn;refine zcU ?_;have hdg:DGet H4 D (.int (ch:Int)) (some (.ref qq)):=by
    rw[← hv];exact DGet.k (k:=kN ch) k4D
   refine ⟨_,rfl,_,rfl,D,_,rfl,hdg,?_⟩;refine ⟨qq,ws,zak ps rows ch,rfl,hq4,hq5,by omega,zgw S.T S.R hfew hchn,zaY S.T S.R hchn,fun g H5 hg5 s5 h5=>?_⟩;have hgl:=hO.length;rw[yaa,yao]at hgl;have h5D2:=s5 _ _ h4;have ngD2:D2≠g:=zab h4 hg5;rw[yaa]at hm;refine ⟨_,h5D2,zam (by rw[yaa];omega),r - 1,by omega,by rw[yaa];omega,gs++[g],_,rfl,?_,?_,?_,fun x o n e=>by rw[zaf n];exact s5 _ _ (k4 x o n e)⟩
   ·rw[zac,yan];rfl
   ·rw[yan];refine Own.other h5D2 (Own.append (hO.ext s5.ext) (.cons ⟨_,h5,?_⟩ .nil)) ?_
    ·exact zkM (hq5.mono s5.ext)
    ·intro z;rcases yaH.mp z with z | z
     ·exact hg z
     ·exact ngD2 (yap.mp z)
   ·intro z;rcases yaH.mp z with z | z
    ·exact hg z
    ·exact ngD2 (yap.mp z)
  ·rintro σ H4 ⟨gs,x0,rfl,h4,hO,hg,k4⟩;rw[yaa,yar (yab _)]at hO;have hgl:=hO.length;rw[yaa]at hgl;have s34:Same H3 H4:=fun x o e=>k4 x o (zab e hD2) e;have s24:Same H2 H4:=s3.trans s34;have S4:=S2.same s24;refine ⟨_,rfl,.inl ⟨rfl,_,SqL.of h4⟩,_,rfl,_,rfl,st,ps,rows,t,rs,as,j,rfl,S4,hjn,fun D3 us H5 hD3 s45 h5 hw5=>?_⟩;have h5D2:=s45 _ _ h4;have n23:D2≠D3:=zab h4 hD3;refine ⟨_,_,_,rfl,rfl,h5D2,zam (by rw[yaa];omega),?_⟩;have O5:Own K H5 (gs++[D3]) (zec ps rows j):=by
    rw[hparts];exact Own.append (hO.ext s45.ext) (.cons ⟨us,h5,hw5⟩ .nil)
   have nin:D2∉gs++[D3]:=fun z=>by
    rcases yaH.mp z with z | z
    ·exact hg z
    ·exact n23 (yap.mp z)
   have O6:=O5.other (o:=.lst (gs.map V.ref++[.ref D3])) h5D2 nin;have h6:upd H5 D2 (.lst (gs.map V.ref++[.ref D3])) D2=some (.lst ((gs++[D3]).map V.ref)):=by
    rw[zac,yan];rfl
   have k26:∀ x o,H2 x=some o→upd H5 D2 (.lst (gs.map V.ref++[.ref D3])) x=some o:=fun x o e=>by
    rw[zaf (zab (s3 _ _ e) hD2)];exact s45 _ _ (s24 _ _ e)
   generalize upd H5 D2 (.lst (gs.map V.ref++[.ref D3]))=H6 at O6 h6 k26 ⊢;have hfl:(zec ps rows j).flatten.length≤63:=by
    have:=zdG S.T S.len (rows:=rows) hjn;rw[zcV S.T hjn,zdu]at this;omega
   refine ⟨_,rfl,D2,gs++[D3],zec ps rows j,rfl,h6,O6,hfl,fun p ws H7 hp s7 h7 hw7=>?_⟩;rw[← zcV S.T hjn]at hw7;have s27:Same H2 H7:=fun x o e=>s7 _ _ (k26 x o e);have h7D:=s27 _ _ h2;have hql:=hF.length;have hpD:p≠D:=Ne.symm (zab (k26 _ _ h2) hp);refine ⟨_,rfl,_,rfl,D,_,rfl,DPut.k (k:=kN j) h7D (zam (by rw[zm3 hql,yao,ybX];omega)),?_⟩;rw[zqo hql hjnot];have e78:Ext H7 (upd H7 D (.dK (zdD (bs.reverse.take i++[j]) (qs++[p])))):=fun x o e n=>by
    rw[zaf (fun z=>by
     rw[z,h7D]at e;cases e
     exact n _ rfl)]
    exact e
   have F8:zaB K (upd H7 D (.dK (zdD (bs.reverse.take i++[j]) (qs++[p])))) ps rows (bs.reverse.take i++[j]) (qs++[p]):=by
    exact zaB.ext e78 (zaB.snoc (hF.same s27) ⟨ws,h7,hw7⟩)
   refine ⟨qs++[p],_,_,rfl,zac,?_,?_,F8,?_,fun x o n e=>?_⟩
   ·rw[ybq];refine ⟨hqn,yaK.mpr ⟨(fun z=>nomatch z),ybA⟩,fun a ha b hb z=>?_⟩;rw[yap.mp hb]at z;subst z;obtain ⟨ws',hws⟩:=hF.alloc a ha;have:=k26 _ _ hws;rw[hp]at this;cases this
   ·intro x hx;rcases yaH.mp hx with z | z
    ·exact hqf x z
    ·rw[yap.mp z];cases e:H p with
     | none=>rfl
     | some o=>
      have:=k26 _ _ (k2 p o hpD e);rw[hp]at this;cases this
   ·rw[zaf (fun z=>by rw[z,h2]at h2b;cases h2b)]
    exact s27 _ _ h2b
   ·rw[zaf n];exact s27 _ _ (k2 x o n e)
 ·rintro σ H2 ⟨qs,x5,x6,rfl,h2,hqn,hqf,hF,h2b,k2⟩;refine ⟨_,rfl,?_⟩;rw[yaa,yar (by rw[ybX];exact yab _)]at h2 hF;exact q D qs H2 hD (fun x o e=>k2 x o (zab e hD) e) h2 hqn hqf hF
def zfb (K:Frag):Sp:=fun vs H Q _=>∃(st:Addr) (ps:List Nat) (rows:List (List Int)) (t rs:Addr) (as:List Addr),vs=[.ref st]∧zaO H st ps rows t rs as∧
 ∀(p:Addr) (qs:List Addr) (H':Hp),H p=none→Same H H'→H' p=some (.lst (qs.map V.ref))→qs.Nodup→(∀ q∈qs,H q=none)→p∉qs→zaB K H' ps rows (List.range (ps.length+1)) qs→Q (.ref p) H'
theorem zhD {n i:Nat}(h:i < n):(List.range n).reverse[n - 1 - i]?=some i:=by
 rw[yck (by rw[yaR];omega),yaR,ya9 (by omega)];congr 1;omega
theorem zoA (T:Txt K mg)(qa8:DF K mg "full_rows" zdb zbf)(qa9:FC P w K mg base 7 "full_rows_beneath" za7 (zrd K)):FC P w K mg base 8 "full_rows" zbf (zfb K):=by
 refine qa8.ok qbx (fun vs H Q E h=>?_) (fun f cdv A outer s H vs Q E hr h=>?_)
 ·obtain ⟨st,ps,rows,t,rs,as,rfl,_⟩:=h;rfl
 obtain ⟨st,ps,rows,t,rs,as,rfl,S,q⟩:=h;refine ⟨_,(zaj (zat (i:=1) qbx.nd rfl (Or.inr rfl) (zav qa9 hr (zaa (pv 0) (zaa zae zad))))
   (zag (zas (zbd (N:=["knot","told"]) (own:=1) (cap:=[1]) rfl (zb4 rfl T.qao (zaa (zau zar rfl T.qat boot_len (zaa (zaq zaF (pv 0) zae (fun _ _=>rfl)) zad)) zad)) ⟨rfl,rfl,rfl,rfl,rfl,rfl⟩ (fun _ _ _ _ _=>(zan (i:=0) (show List.Nodup (["knot","told"]:List Str) by decide +kernel) rfl (Or.inl rfl))) (fun _ _ _ _ _=>zbj) (fun _ _ _ _ _=>(zde (zdr hr) (pv 1) (pv 0) (fun _ _=>rfl))))))),?_⟩
 refine ⟨_,rfl,st,ps,rows,t,rs,as,0,rfl,S,by omega,fun D qs H1 hD s1 h1 hqn hqf hF=>?_⟩;rw[znL S.T]at h1 hF;have S1:=S.same s1;have hfew:=S.few;have hql:=hF.length;rw[ybX,yaR]at hql;refine ⟨_,rfl,_,_,_,_,rfl,rfl,SqT.of S1.st,rfl,_,_,rfl,.inr (SqT.of S1.tr),_,rfl,by omega,by rw[zaK];omega,fun p hp=>?_⟩;have el:((((zc7 ps).length:Nat):Int)).toNat=ps.length+1:=by rw[zaK,ya7]
 rw[el];refine zfi (n:=ps.length+1) (fun i σ H2=>∃ x0:Option V,σ=[x0,some (.ref D)]∧H2 p=some (.lst ((qs.reverse.take i).map V.ref))∧But p H1 H2) ?_ ?_ ?_
 ·exact ⟨_,rfl,zac,fun b o n e=>by rw[zaf n];exact e⟩
 ·rintro i m σ H2 hm hi ⟨x0,rfl,h2,k2⟩;rw[ybW];have hi2:i < qs.reverse.length:=by rw[ybX];omega
  have hq1:qs[ps.length+1 - 1 - i]?=some qs.reverse[i]:=by
   have:=yck (l:=qs) (i:=i) (by omega);rw[yac hi2]at this;rw[this];congr 1;omega
  have hv:=zjv (ziA ycd) (zhD hi) hq1;have h2D:=k2 _ _ (zab h1 hp) h1;have hdg:DGet H2 D (.int (i:Int)) (some (.ref qs.reverse[i])):=by
   rw[← hv];exact DGet.k (k:=kN i) h2D
  refine zcU ?_;refine ⟨_,rfl,_,rfl,D,_,rfl,hdg,?_⟩;refine ⟨_,h2,zam (by rw[yaa,yao];omega),m - 1,by omega,by omega,_,rfl,?_,fun b o n e=>by rw[zaf n];exact k2 b o n e⟩;rw[zac,yaA hi2,yan];rfl
 ·rintro σ H2 ⟨x0,rfl,h2,k2⟩;rw[yar (by rw[ybX];omega)]at h2;have s2:Same H1 H2:=fun b o e=>k2 b o (zab e hp) e;have F2:=(hF.same s2).rev;rw[List.reverse_reverse]at F2;refine q p qs.reverse H2 ?_ (s1.trans s2) h2 (ziA hqn) (fun x hx=>hqf x (ybU.mp hx)) (fun z=>?_) F2
  ·cases e:H p with
   | none=>rfl
   | some o=>
    have:=s1 _ _ e;rw[hp]at this;cases this
  ·obtain ⟨ws,hws⟩:=hF.alloc p (ybU.mp z);rw[hp]at hws;cases hws
def zhp (x:Key):Prop:=∃ a:Int,x=.inl a∧-(10 ^ 60) < a∧a < 10 ^ 60
def toI:Key→Int
 | .inl a=>a
 | _=>0
theorem zp0 {kvs:List (Key×V)}{x:Key}{v:V}(h1:(kvs.map (·.1)).Nodup)(h2:∀ y∈kvs.map (·.1),zhp y)(hx:zhp x):((putK kvs x v).map (·.1)).Nodup∧∀ y∈(putK kvs x v).map (·.1),zhp y:=by
 rw[zml];split
 ·exact ⟨h1,h2⟩
 ·rename_i c;refine ⟨?_,fun y hy=>?_⟩
  ·rw[ybq];refine ⟨h1,yaK.mpr ⟨(fun z=>nomatch z),ybA⟩,fun a ha b hb z=>?_⟩;rw[yap.mp hb]at z;subst z;obtain ⟨p,hp,e⟩:=yaF.mp ha;exact c (List.any_eq_true.mpr ⟨p,hp,yag e⟩)
  ·rcases yaH.mp hy with z | z
   ·exact h2 y z
   ·rw[yap.mp z];exact hx
theorem zfv:∀{l:List Key},(∀ y∈l,zhp y)→l.map kV=(l.map toI).map V.int
 | [],_=>rfl
 | x::l,h=>by
  obtain ⟨a,rfl,_⟩:=h x yav;show V.int a::l.map kV=V.int a::(l.map toI).map V.int;rw[zfv fun y hy=>h y (yau _ hy)]
theorem zie:∀{l:List Key},l.Nodup→(∀ y∈l,zhp y)→(l.map toI).Nodup
 | [],_,_=>ybA
 | x::l,hn,h=>by
  rw[yaw,yaK];have hc:=yaK.mp hn;refine ⟨fun z=>?_,zie hc.2 fun y hy=>h y (yau _ hy)⟩;obtain ⟨y,hy,e⟩:=yaF.mp z;obtain ⟨a,rfl,_⟩:=h x yav;obtain ⟨b,rfl,_⟩:=h y (yau _ hy);have:b=a:=e;subst this;exact hc.1 hy
def zra (K:Frag):Sp:=fun vs H Q _=>∃(d L:Addr) (m:Int),vs=[.ref d,.int m]∧(0≤m∧m≤40)∧LS K L d H∧
 ∀(a:Addr) (row:List Int) (H':Hp),H a=none→row.Pairwise (· < ·)→(∀ x∈row,-(10 ^ 60) < x∧x < 10 ^ 60)→(row.length:Int)≤m→H' a=some (.tup (row.map V.int))→Keep d H H'→LS K L d H'→Q (.ref a) H'
theorem zqc (T:Txt K mg)(qcu:DF K mg "_law_row" zhz zfU)(qaa:FC P w K mg base 2 "_law_take" zbo (zea K))(qcv:FC P w K mg base 3 "_law_key" zeR (zn6 K)):FC P w K mg base 4 "_law_row" zfU (zra K):=by
 refine qcu.ok qb0 (fun vs H Q E h=>?_) (fun f cdv A outer s H vs Q E hr h=>?_)
 ·obtain ⟨d,L,m,rfl,_⟩:=h;rfl
 obtain ⟨d,L,m,rfl,⟨hm0,hm1⟩,hs,q⟩:=h;refine ⟨_,(zaj (zat (i:=2) qb0.nd rfl (Or.inl rfl) zko)
   (zaj (zbb PassesOwn.never rfl (zb4 rfl T.qao (zaa (zav qaa hr (zaa (pv 0) (zaa (zaz za4 (pv 1) zae) zad))) zad)) (zan (i:=3) qb0.nd rfl (Or.inl rfl)) (zag (zel (zdr hr) (pv 2) (zav qcv hr (zaa (pv 0) zad)) zcf rfl)))
   (zag (zas (zbI zdm rfl T.qb3 boot_tuple (zaa (zau (zfy Int) rfl T.qcC boot_sorted (zaa (zbI (zlH rfl) rfl T.qby boot_list (zaa (pv 2) zad)) zad)) zad)))))),?_⟩
 intro g hg;have ngd:g≠d:=fun z=>by
  obtain ⟨_,_,_,e,_⟩:=hs.ex;rw[← z,hg]at e;cases e
 refine ⟨_,rfl,_,rfl,_,_,rfl,rfl,d,L,m+1,rfl,⟨by omega,by omega⟩,hs.of_new hg _,fun n H1 n0 n1 k1 s1=>⟨_,rfl,by omega,by omega,?_⟩⟩;refine zby (n:=n.toNat) (fun i σ H2=>∃(kvs:List (Key×V)) (x3:Option V),σ=[some (.ref d),some (.int m),some (.ref g),x3]∧H2 g=some (.dK kvs)∧kvs.length≤i∧(kvs.map (·.1)).Nodup∧(∀ y∈kvs.map (·.1),zhp y)∧(∀ b o,b≠d→b≠g→H b=some o→H2 b=some o)∧LS K L d H2) ?_ ?_ ?_
 ·exact ⟨[],_,rfl,k1 g _ ngd zac,yab _,ybA,fun y hy=>(by simp at hy),fun b o b1 b2 e=>k1 b o b1 (by rw[zaf b2];exact e),s1⟩
 ·rintro i σ H2 hi ⟨kvs,x3,rfl,h2,hl,hn,hy,kk,s2⟩;refine ⟨_,rfl,_,rfl,d,L,rfl,s2,fun v H3 v0 v1 k3 s3=>?_⟩;have h3:H3 g=some (.dK kvs):=k3 g _ ngd h2;obtain ⟨p1,p2⟩:=zp0 (v:=.bl true) hn hy (x:=.inl v) ⟨v,rfl,v0,v1⟩;refine ⟨g,_,rfl,DPut.k (k:=.inl v) (kvs:=kvs) h3 (zam (by omega)),?_⟩;refine ⟨putK kvs (.inl v) (.bl true),_,rfl,zac,?_,p1,p2,?_,?_⟩
  ·have:=zdh kvs (Sum.inl v:Key) (.bl true);omega
  ·intro b o b1 b2 e;rw[zaf b2];exact k3 b o b1 (kk b o b1 b2 e)
  ·exact LS.put hs hg (fun b o b1 b2 e=>k3 b o b1 (kk b o b1 b2 e)) s3
 ·rintro σ H2 ⟨kvs,x3,rfl,h2,hl,hn,hy,kk,s2⟩;refine ⟨_,rfl,g,kvs,rfl,h2,fun l hl1=>?_⟩;have ei:kvs.map (fun kv=>kV kv.1)=((kvs.map (·.1)).map toI).map V.int:=by
   rw[← zfv hy,yaZ];rfl
  rw[ei];have e1:=zai hl1 (.lst (((kvs.map (·.1)).map toI).map V.int));refine ⟨l,_,_,rfl,SqL.of zac,zao.ints,by rw[yaa,yaa];omega,fun l2 ws hl2 hw=>?_⟩;rw[hw.toInts];have e2:=zai hl2 (.lst ((zez ((kvs.map (·.1)).map toI)).map V.int));refine ⟨l2,_,rfl,.inl ⟨SqL.of zac,fun a ha=>?_⟩⟩;have e3:=zai ha (.tup ((zez ((kvs.map (·.1)).map toI)).map V.int));have e13:=e1.trans (e2.trans e3);have free:H a=none:=by
   have z2:H2 a=none:=e1.free (e2.free ha);cases z:H a with
   | none=>rfl
   | some o=>
    by_cases c1:a=d
    ·obtain ⟨_,_,_,e,_⟩:=s2.ex;rw[← c1,z2]at e;cases e
    ·by_cases c2:a=g
     ·rw[c2,h2]at z2;cases z2
     ·rw[kk a o c1 c2 z]at z2;cases z2
  refine q a _ _ free ?_ (fun x hx=>?_) ?_ zac (fun b o b1 e=>e13 _ _ (kk b o b1 (zab e hg) e)) (s2.same e13)
  ·exact List.Pairwise.imp (fun {a b} (h:Srt.blt a b=true)=>yaB h) (zg2 (zie hn hy))
  ·rw[zga]at hx;obtain ⟨y,hy2,rfl⟩:=yaF.mp hx;obtain ⟨a,rfl,h1,h2⟩:=hy y hy2;exact ⟨h1,h2⟩
  ·rw[zdu,yaa,yaa];omega
def zpi (K:Frag):Sp:=fun vs H Q _=>∃(d L:Addr) (n m:Nat),vs=[.ref d,.int n,.int m]∧n≤40∧m≤40∧LS K L d H∧
 ∀(r:Addr) (as:List Addr) (rows:List (List Int)) (H':Hp),H r=none→zaU H' as rows→rows.length=n→za5 rows→(∀ row∈rows,row.length≤m)→H' r=some (.tup (as.map V.ref))→Keep d H H'→LS K L d H'→Q (.ref r) H'
theorem za5.snoc {rows:List (List Int)}{row:List Int}(R:za5 rows)(h1:row.Pairwise (· < ·))(h2:∀ x∈row,-(10 ^ 60) < x∧x < 10 ^ 60):za5 (rows++[row]):=by
 refine ⟨fun r hr=>?_,fun r hr=>?_⟩
 ·rcases yaH.mp hr with z | z
  ·exact R.up r z
  ·rw[yap.mp z];exact h1
 ·rcases yaH.mp hr with z | z
  ·exact R.key r z
  ·rw[yap.mp z];exact h2
theorem zoy (T:Txt K mg)(qca:DF K mg "_law_rows" zfM zeQ)(qaa:FC P w K mg base 2 "_law_take" zbo (zea K))(qdd:FC P w K mg base 4 "_law_row" zfU (zra K)):FC P w K mg base 5 "_law_rows" zeQ (zpi K):=by
 refine qca.ok qaK (fun vs H Q E h=>?_) (fun f cdv A outer s H vs Q E hr h=>?_)
 ·obtain ⟨d,L,n,m,rfl,_⟩:=h;rfl
 obtain ⟨d,L,n,m,rfl,hn,hm,hs,q⟩:=h;refine ⟨_,(zaj (zat (i:=3) qaK.nd rfl (Or.inl rfl) (zbg zad))
   (zaj (zbb PassesOwn.never rfl (zb4 rfl T.qao (zaa (pv 1) zad)) (zan (i:=4) qaK.nd rfl (Or.inl rfl)) (zaj (zat (i:=5) qaK.nd rfl (Or.inl rfl) (zav qdd hr (zaa (pv 0) (zaa (pv 2) zad))))
   (zbk (zbu (zay zeo (zav qaa hr (zaa (pv 0) (zaa zae zad))) zae (zaA _)) (zag (zat (i:=5) qaK.nd rfl (Or.inl rfl) (zbv zad))) zaI)
   (zbk (zbu (PW.pt (zg5 (zay zjj (pv 4) zae (zaA _)) (zfe (zay zeo (zav qaa hr (zaa (pv 0) (zaa zae zad))) zae (zaA _))))) (zag (zat (i:=5) qaK.nd rfl (Or.inl rfl) (zaq zax (pv 3) (zaz zck (pv 4) zae) (fun _ _=>rfl)))) zaI)
   (zag (zaW (zdz F.plainAttrs_list F.slot_list_append F.type_list_append zaN (pv 3) (zaa (pv 5) zad))))))))
   (zag (zas (zbI zdm rfl T.qb3 boot_tuple (zaa (pv 3) zad)))))),?_⟩
 refine ⟨(by show 0≤sizeLine;decide),fun p hp=>?_⟩;have g0:=zai hp (.lst []);have ndT:∀{H':Hp} {a:Addr} {o:List V},LS K L d H'→H' a=some (.tup o)→a≠d:=fun {H' a o} s e z=>by
  obtain ⟨_,_,_,e2,_⟩:=s.ex;rw[← z,e]at e2;cases e2
 have nd:∀{H':Hp} {a:Addr},LS K L d H'→H' a=none→a≠d:=fun {H' a} s e z=>by
  obtain ⟨_,_,_,e2,_⟩:=s.ex;rw[← z,e]at e2;cases e2
 have hpd:p≠d:=nd hs hp;refine ⟨_,rfl,_,rfl,by omega,by omega,?_⟩;rw[ya7];refine zby (n:=n) (fun i σ H2=>∃(as:List Addr) (rows:List (List Int)) (x4 x5:Option V),σ=[some (.ref d),some (.int n),some (.int m),some (.ref p),x4,x5]∧H2 p=some (.lst (as.map V.ref))∧zaU H2 as rows∧rows.length=i∧za5 rows∧(∀ row∈rows,row.length≤m)∧(∀ b o,b≠d→b≠p→H b=some o→H2 b=some o)∧LS K L d H2) ?_ ?_ ?_
 ·exact ⟨[],[],_,_,rfl,zac,.nil,rfl,⟨(fun r hr=>nomatch hr),(fun r hr=>nomatch hr)⟩,(fun r hr=>nomatch hr),fun b o _ n e=>g0 b o e,hs.same g0⟩
 ·rintro i σ H2 hi ⟨as,rows,x4,x5,rfl,h2,hA,hl,hR,hlen,k2,s2⟩;rw[ybW];have hal:=hA.length;have old:∀{H3:Hp} {b:Addr} {o:HO},(∀ b o,b≠d→H2 b=some o→H3 b=some o)→b≠d→b≠p→H b=some o→H3 b=some o:=fun k n1 n2 e=>k _ _ n1 (k2 _ _ n1 n2 e);refine ⟨_,rfl,_,rfl,d,L,m,rfl,⟨by omega,by omega⟩,s2,fun a row H3 ha hup hky hlr h3 k3 s3=>?_⟩;refine ⟨fun σ' H'=>∃(a:Addr) (row:List Int),σ'=[some (.ref d),some (.int n),some (.int m),some (.ref p),some (.int i),some (.ref a)]∧H' a=some (.tup (row.map V.int))∧row.Pairwise (· < ·)∧(∀ x∈row,-(10 ^ 60) < x∧x < 10 ^ 60)∧row.length≤m∧(∀ b o,b≠d→H2 b=some o→H' b=some o)∧LS K L d H',?_,?_⟩
  ·refine ⟨_,rfl,d,L,4,rfl,by decide,s3,fun v H4 _ _ k4 s4=>⟨rfl,_,rfl,?_⟩⟩;have h4:=k4 _ _ (ndT s3 h3) h3;refine ite2 (fun _=>?_) (fun _=>?_)
   ·refine ⟨(by show 0≤sizeLine;decide),fun u hu=>?_⟩;have su:=zai hu (.tup []);exact ⟨u,[],rfl,zac,.nil,(fun x hx=>nomatch hx),yaC _,fun b o n1 e=>su _ _ (k4 _ _ n1 (k3 _ _ n1 e)),s4.same su⟩
   ·exact ⟨a,row,rfl,h4,hup,hky,by omega,fun b o n1 e=>k4 _ _ n1 (k3 _ _ n1 e),s4⟩
  rintro σ' H4 ⟨a,row,rfl,h4,hup,hky,hlr,k4,s4⟩;refine ⟨fun σ' H'=>∃(a:Addr) (row:List Int),σ'=[some (.ref d),some (.int n),some (.int m),some (.ref p),some (.int i),some (.ref a)]∧H' a=some (.tup (row.map V.int))∧row.Pairwise (· < ·)∧(∀ x∈row,-(10 ^ 60) < x∧x < 10 ^ 60)∧row.length≤m∧(∀ b o,b≠d→H2 b=some o→H' b=some o)∧LS K L d H',?_,?_⟩
  ·refine ⟨_,rfl,_,_,rfl,rfl,_,rfl,?_⟩;refine ite2 (fun c=>?_) (fun c=>?_)
   ·have c':(0:Int) < (i:Int):=yaB c;refine ⟨_,rfl,d,L,4,rfl,by decide,s4,fun v H5 _ _ k5 s5=>⟨rfl,_,rfl,?_⟩⟩;have h5:=k5 _ _ (ndT s4 h4) h4;refine ite2 (fun _=>?_) (fun _=>?_)
    ·have h5p:H5 p=some (.lst (as.map V.ref)):=k5 _ _ hpd (k4 _ _ hpd h2);obtain ⟨b,hb1,hb2⟩:=hA.get (k:=i - 1) (by omega);have hb5:=k5 _ _ (ndT s4 (k4 _ _ (ndT s2 hb2) hb2)) (k4 _ _ (ndT s2 hb2) hb2);have hat:atI (as.map V.ref) ((i:Int) - 1)=some (.ref b):=by
      rw[show (i:Int) - 1=((i - 1:Nat):Int) by omega];exact zhl hb1
     refine ⟨_,rfl,_,rfl,_,_,rfl,rfl,_,_,_,_,rfl,rfl,SqL.of h5p,hat,?_⟩;have hmem:zbF rows (i - 1)∈rows:=by
      unfold zbF;rw[yad,yac (show i - 1 < rows.length by omega)];exact yaG _
     exact ⟨b,zbF rows (i - 1),rfl,hb5,hR.up _ hmem,hR.key _ hmem,hlen _ hmem,fun b o n1 e=>k5 _ _ n1 (k4 _ _ n1 e),s5⟩
    ·exact ⟨a,row,rfl,h5,hup,hky,hlr,fun b o n1 e=>k5 _ _ n1 (k4 _ _ n1 e),s5⟩
   ·refine iteF ?_;exact ⟨a,row,rfl,h4,hup,hky,hlr,k4,s4⟩
  rintro σ' H5 ⟨a,row,rfl,h5,hup,hky,hlr,k5,s5⟩;have h5p:H5 p=some (.lst (as.map V.ref)):=k5 _ _ hpd h2;have keep:∀ b o,b≠p→H5 b=some o→upd H5 p (.lst (as.map V.ref++[.ref a])) b=some o:=fun b o n e=>by rw[zaf n];exact e
  have ntp:∀{b:Addr} {o:List V},H5 b=some (.tup o)→b≠p:=fun {b o} e z=>by
   rw[z,h5p]at e;cases e
  refine ⟨_,rfl,.inl ⟨rfl,_,SqL.of h5p⟩,_,rfl,_,_,_,rfl,rfl,h5p,zam (by rw[yaa];omega),?_⟩;refine ⟨as++[a],rows++[row],_,_,rfl,?_,?_,by rw[yak,yaE,hl],hR.snoc hup hky,fun r hr=>?_,fun b o n1 n2 e=>keep _ _ n2 (k5 _ _ n1 (k2 _ _ n1 n2 e)),?_⟩
  ·rw[zac,yan];rfl
  ·refine zaU.snoc ?_ (keep _ _ (ntp h5) h5);have hA5:zaU H5 as rows:=zaU.keep (p:=d) (fun a row e=>ndT s2 e) k5 hA;exact zaU.keep (p:=p) (d:=p) (fun a row e=>ntp e) keep hA5
  ·rcases yaH.mp hr with z | z
   ·exact hlen r z
   ·rw[yap.mp z];exact hlr
  ·exact LS.put hs hp (fun b o n1 n2 e=>k5 _ _ n1 (k2 _ _ n1 n2 e)) s5
 ·rintro σ H2 ⟨as,rows,x4,x5,rfl,h2,hA,hl,hR,hlen,k2,s2⟩;refine ⟨_,rfl,p,_,rfl,.inl ⟨SqL.of h2,fun t ht=>?_⟩⟩;have sn:=zai ht (.tup (as.map V.ref));have ht0:H t=none:=by
   cases e:H t with
   | none=>rfl
   | some o=>
    have:=k2 t o (nd s2 ht) (Ne.symm (zab h2 ht)) e;rw[ht]at this;cases this
  exact q t as rows _ ht0 (hA.ext sn) hl hR hlen zac (fun b o n e=>sn _ _ (k2 b o n (zab e hp) e)) (s2.same sn)
abbrev En:=Int×Int
def zen (k:Nat)(es:List En):Nat:=(es.filter fun e=>decide (e.2=(k:Int))).length
def zon (k:Nat)(es:List En):List Nat:=(List.range (es.length+1)).map fun p=>zen k (es.take p)
def zq9 (cs:List En)(s:Nat)(e:En):Nat:=if e∈cs then cs.idxOf e+1 else s
def stN (cs es:List En):Nat:=es.foldl (zq9 cs) 0
def zfa (es cs:List En):List Nat:=(List.range (es.length+1)).map fun p=>stN cs (es.take p)
def inN (cs es:List En):Nat:=(es.filter fun e=>decide (e∈cs)).length
theorem zg3 {l:List En}(h:Rise l):l.Nodup:=List.Pairwise.imp (fun {a b} (q:pLt a b=true) z=>by
 subst z;have:=zcY.mp q;omega) h
theorem zmj {l m:List En}(h1:Rise l)(h2:Rise m)(h:∀ e,e∈l↔e∈m):l=m:=by
 refine List.Perm.eq_of_pairwise (le:=fun a b=>pLt a b=true) (fun a b _ _ q1 q2=>?_) h1 h2 ((List.perm_ext_iff_of_nodup (zg3 h1) (zg3 h2)).mpr h);have:=zcY.mp q1;have:=zcY.mp q2;omega
theorem zf1 {ps:List Nat}(T:zaE ps){rows:List (List Int)}{k:Nat}(hk:k < ps.length+1){e:En}:e∈zak ps rows k↔e∈ownE rows k∨∃ c,par ps c=some k∧e∈zcl (zak ps rows c):=by
 rw[zcV T hk,zga,yca];unfold zec;constructor
 ·rintro ⟨l,hl,he⟩;rcases yaH.mp hl with q | q
  ·obtain ⟨c,hc,rfl⟩:=yaF.mp q;exact .inr ⟨c,(zaD.mp hc).2,he⟩
  ·rw[yap.mp q]at he;exact .inl he
 ·rintro (h | ⟨c,hc,h⟩)
  ·exact ⟨_,yaH.mpr (.inr (yap.mpr rfl)),h⟩
  ·exact ⟨_,yaH.mpr (.inl (yaF.mpr ⟨c,zaD.mpr ⟨(zaR T hc).2,hc⟩,rfl⟩)),h⟩
theorem zo2 {ps:List Nat}(T:zaE ps){rows:List (List Int)}(R:za5 rows){k c:Nat}(hk:k < ps.length+1)(hc:par ps c=some k){e:En}:(e∈zak ps rows k∧e∈zak ps rows c)↔e∈zcl (zak ps rows c):=by
 have hcn:=(zaR T hc).2;constructor
 ·rintro ⟨h1,h2⟩;obtain ⟨j,g1,g2,g3,_⟩:=zf3 T R hcn e h2;rcases (zf1 T hk).mp h1 with h | ⟨d,hd,h⟩
  ·have h4:=(zkt hk h).2;have:j=k:=by omega
   subst this;rw[zdE T (zaR T hc).1]at g2;cases g2
  ·by_cases z:d=c
   ·rw[z]at h;exact h
   ·obtain ⟨i,_,f2,f3,_⟩:=zf3 T R (zaR T hd).2 e ((zbx _).mem h);have:i=j:=by omega
    subst this;exact (ze3 T hd hc z i i (yab _) f2 g2).elim
 ·intro h;exact ⟨(zf1 T hk).mpr (.inr ⟨c,hc,h⟩),(zbx _).mem h⟩
theorem znC {ps:List Nat}(T:zaE ps){rows:List (List Int)}(R:za5 rows){k c:Nat}(hk:k < ps.length+1)(hc:par ps c=some k):((zak ps rows k).filter fun e=>decide (e∈zak ps rows c))=zcl (zak ps rows c):=by
 refine zmj (List.Pairwise.filter _ (zaY T R hk)) ((zaY T R (zaR T hc).2).sublist (zbx _)) fun e=>?_;rw[yaV,decide_eq_true_eq];exact zo2 T R hk hc
theorem zk0 {l:List En}{p:Nat}(h:p < l.length):l.take (p+1)=l.take p++[l[p]]:=yaA h
theorem zk8 (k:Nat)(es:List En)(e:En):zen k (es++[e])=zen k es+if e.2=(k:Int) then 1 else 0:=by
 unfold zen;rw[yaT,yak];congr 1;by_cases h:e.2=(k:Int)
 ·rw[if_pos h,yaL (by exact yag h)];rfl
 ·rw[if_neg h,yaS (by rw[yai h];decide)];rfl
theorem zoS (cs es:List En)(e:En):inN cs (es++[e])=inN cs es+if e∈cs then 1 else 0:=by
 unfold inN;rw[yaT,yak];congr 1;by_cases h:e∈cs
 ·rw[if_pos h,yaL (by exact yag h)];rfl
 ·rw[if_neg h,yaS (by rw[yai h];decide)];rfl
theorem zj0 (cs es:List En)(e:En):stN cs (es++[e])=if e∈cs then cs.idxOf e+1 else stN cs es:=by
 unfold stN;rw[List.foldl_append];rfl
def spL (es:List En):List Nat:=(List.range es.length).filter fun j=>(zcF es).getD j false
theorem zj7 (es:List En):zdJ (zcF es) (spL es):=by
 have:=zn5 (zcF es);rw[zbE]at this;exact this
theorem zhb {es:List En}{ms:List Bool}(hl:es.length=ms.length):∀ i,i≤ms.length→zdj (es.take i) (ms.take i)=((List.range i).filter fun j=>ms.getD j false).map fun j=>es.getD j (0,0)
 | 0,_=>rfl
 | i+1,h=>by
  have ft:((List.range (i+1)).filter fun j=>ms.getD j false)=((List.range i).filter fun j=>ms.getD j false)++(if ms.getD i false=true then [i] else []):=by
   rw[ybt,yaT];congr 1;by_cases h:ms.getD i false=true
   ·rw[if_pos h,yaL (p:=fun j=>ms.getD j false) (a:=i) h];rfl
   ·rw[if_neg h,yaS (p:=fun j=>ms.getD j false) (a:=i) h];rfl
  rw[zex (show i < es.length by omega),zex (show i < ms.length by omega),ziQ (by rw[yao,yao];omega),zhb hl i (by omega),ft,yan];congr 1;have e:ms.getD i false=ms[i]'(by omega):=by
   rw[yad,yac (show i < ms.length by omega)];rfl
  rw[e];split
  ·rw[List.map_singleton,yad,yac (show i < es.length by omega)];rfl
  ·rfl
theorem zhc (es:List En):zcl es=(spL es).map fun j=>es.getD j (0,0):=by
 have hl:=zbE es;have:=zhb (es:=es) (ms:=zcF es) hl.symm (zcF es).length (yab _);rw[yar (yab _),yar (by omega),hl]at this;exact this
def stAt (sp:List Nat)(t:Nat):Nat:=if t=0 then 0 else sp.getD (t - 1) 0+1
theorem znj {l:List En}(h:l.Nodup){j:Nat}(hj:j < l.length):l.idxOf (l.getD j (0,0))=j:=by
 rw[yad,yac hj];exact List.Nodup.idxOf_getElem h j hj
theorem zjE {P:En→Bool}:∀(l:List En) (p:Nat),(l.take p).filter P=(l.filter P).take ((l.take p).filter P).length:=by
 intro l p;have e:l.filter P=(l.take p).filter P++(l.drop p).filter P:=by rw[← yaT,ybf]
 rw[e,List.take_append_of_le_length (yab _),yar (yab _)]
theorem zq8 {ps:List Nat}(T:zaE ps){rows:List (List Int)}(R:za5 rows){k c:Nat}(hk:k < ps.length+1)(hc:par ps c=some k):∀ p,p≤(zak ps rows k).length→stN (zak ps rows c) ((zak ps rows k).take p)=stAt (spL (zak ps rows c)) (inN (zak ps rows c) ((zak ps rows k).take p))
 | 0,_=>rfl
 | p+1,h=>by
  have ih:=zq8 T R hk hc p (by omega);have hp:p < (zak ps rows k).length:=by omega
  have hft:=zjE (P:=fun e=>decide (e∈zak ps rows c)) (zak ps rows k) (p+1);rw[znC T R hk hc]at hft;rw[zk0 hp]at hft ⊢;rw[zj0,zoS];by_cases z:(zak ps rows k)[p]∈zak ps rows c
  ·rw[if_pos z,if_pos z];unfold stAt;rw[if_neg (by omega),ybG];congr 1;rw[yaT,yaL (by exact yag z),List.filter_nil,yak,yaE]at hft;have hin:((zak ps rows k).take p |>.filter fun e=>decide (e∈zak ps rows c)).length=inN (zak ps rows c) ((zak ps rows k).take p):=rfl;generalize inN (zak ps rows c) ((zak ps rows k).take p)=t at hin ⊢;have hg:(zcl (zak ps rows c))[t]?=some (zak ps rows k)[p]:=by
    have h2:(((zak ps rows k).take p |>.filter fun e=>decide (e∈zak ps rows c))++[(zak ps rows k)[p]])[t]?=some (zak ps rows k)[p]:=by
     rw[ya0 (by omega),hin,ybK];rfl
    rw[hft,ybI]at h2;split at h2
    ·exact h2
    ·cases h2
   rw[zhc,yal]at hg;obtain ⟨j,hj,he⟩:=ya8.mp hg;have hjl:j < (zak ps rows c).length:=by
    have:=(zj7 (zak ps rows c)).lt (yaP hj);rw[zbE]at this;exact this
   rw[← he,znj (zgv T R (zaR T hc).2) hjl,yad,hj];rfl
  ·rw[if_neg z,if_neg z,ybF];exact ih
theorem zpU {es:List En}(he:∀ e∈es,zet 64 e)(hri:Rise es){t:Nat}(ht:t < (spL es).length):stAt (spL es) (t+1)=stAt (spL es) t+2∨stAt (spL es) (t+1)=stAt (spL es) t+3:=by
 have M:=ziC he hri;have S:=zj7 es;have g:∀ i (h:i < (spL es).length),(spL es).getD i 0=(spL es)[i]:=fun i h=>by
  rw[yad,yac h];rfl
 unfold stAt;rw[if_neg (by omega),ybG];by_cases z:t=0
 ·subst z;rw[if_pos rfl,g 0 ht];have hlen:2≤(zcF es).length:=by
   refine ybo fun y=>?_;have:=S.none M (by omega);rw[this]at ht;simp at ht
  obtain ⟨_,h1,h2⟩:=S.first M hlen;omega
 ·rw[if_neg z,g t ht,g (t - 1) (by omega)];have:=S.step M (t:=t - 1) (by omega);have e:t - 1+1=t:=by omega
  have e2:(spL es)[t - 1+1]'(by omega)=(spL es)[t]:=by congr 1
  rw[e2]at this;omega
theorem zpT {es:List En}(he:∀ e∈es,zet 64 e)(hri:Rise es):stAt (spL es) (spL es).length≤es.length∧es.length≤stAt (spL es) (spL es).length+1:=by
 have M:=ziC he hri;have S:=zj7 es;have hl:=zbE es;unfold stAt;by_cases z:(spL es).length=0
 ·rw[if_pos z];refine ⟨yaC _,?_⟩;refine ybo fun y=>?_;obtain ⟨h,_⟩:=S.first M (by omega);omega
 ·have g:(spL es).getD ((spL es).length - 1) 0=(spL es)[(spL es).length - 1]'(by omega):=by
   rw[yad,yac (by omega)];rfl
  rw[if_neg z,g];have h1:=S.lt (yaG (show (spL es).length - 1 < (spL es).length by omega));refine ⟨by omega,?_⟩;have hlen:2≤(zcF es).length:=ybo fun y=>z (by rw[S.none M y];rfl);have h2:=S.last M hlen (by omega);omega
theorem zd7 {f:Nat→Nat}{i:Nat}:((List.range (i+1)).map f).map nV=(((List.range i).map f)++[f i]).map nV:=by
 rw[ybt,yan];rfl
theorem zjO {us:List Nat}{c:Nat}:atI ((us++[c]).map nV) (-1)=some (nV c):=by
 unfold atI ixN;rw[yan];simp;rw[if_pos (by omega)];show (List.map nV us++[nV c])[(-1+((us.length:Int)+1)).toNat]?=_;rw[show (-1+((us.length:Int)+1)).toNat=us.length by omega,ya0 (by rw[yaa];exact yab _),yaa,ybK];rfl
def zpj (K:Frag):Sp:=fun vs H Q _=>∃(a:Addr) (ws:List V) (es:List En) (k:Nat),vs=[.ref a,.int k]∧H a=some (.lst ws)∧zao K H es ws∧es.length≤900∧
 ∀(p:Addr) (H':Hp),H p=none→Same H H'→H' p=some (.lst ((zon k es).map nV))→Q (.ref p) H'
theorem zp8 (T:Txt K mg)(qbK:DF K mg "owns_of" zeB zdT):FC P w K mg base 1 "owns_of" zdT (zpj K):=by
 refine qbK.ok qbk (fun vs H Q E h=>?_) (fun f cdv A outer s H vs Q E hr h=>?_)
 ·obtain ⟨a,ws,es,k,rfl,_⟩:=h;rfl
 obtain ⟨a,ws,es,k,rfl,ha,hw,hz,q⟩:=h;have hwl:=hw.length;refine ⟨_,(zaj (zat (i:=2) qbk.nd rfl (Or.inl rfl) (zbg (zaa zae zad)))
   (zaj (zbb PassesOwn.never rfl (za1 (pv 0)) (zan (i:=3) qbk.nd rfl (Or.inl rfl)) (zag (zaW (zdz F.plainAttrs_list F.slot_list_append F.type_list_append zaN (pv 2) (zaa (zkn (zay zeo (zaq zaF (pv 3) zae (fun _ _=>rfl)) (pv 1) (zaA _)) (zaz za4 (zaq zax (pv 2) (zgh zdt zae) (fun _ _=>rfl)) zae) (zaq zax (pv 2) (zgh zdt zae) (fun _ _=>rfl))) zad)))))
   (zag (zas (pv 2))))),?_⟩
 refine ⟨(by show 1≤sizeLine;decide),fun p hp=>?_⟩;have k0:But p H (upd H p (.lst [V.int 0])):=fun b o n e=>by rw[zaf n];exact e
 have nap:a≠p:=zab ha hp;refine ⟨_,rfl,a,rfl,⟨_,SqL.of (k0 _ _ nap ha)⟩,?_⟩;refine zdk (xs:=ws) (fun i σ H2=>∃ x3:Option V,σ=[some (.ref a),some (.int k),some (.ref p),x3]∧H2 p=some (.lst (((List.range (i+1)).map fun p=>zen k (es.take p)).map nV))∧But p H H2) ?_ ?_ ?_ ?_
 ·exact ⟨_,rfl,zac,k0⟩
 ·rintro i σ H2 _ ⟨x3,rfl,_,k2⟩;exact SqL.of (k2 _ _ nap ha)
 ·rintro i x σ H2 hx ⟨x3,rfl,h2,k2⟩;obtain ⟨e,he,hhas⟩:=hw.get hx;obtain ⟨b,y1,y2,rfl,hb,hy1,hy2⟩:=(show hasP K H e x from hhas);have hy1:y1=.int e.1:=hy1;have hy2:y2=.int e.2:=hy2;subst hy1 hy2;have h2b:=k2 _ _ (zab hb hp) hb;have hi:=(yah.mp he).1;have htk:es.take (i+1)=es.take i++[e]:=by
   rw[yaA hi,(yah.mp he).2]
  have hon:=zk8 k (es.take i) e;rw[← htk]at hon;rw[zd7]at h2;have hlen:((((List.range i).map fun p=>zen k (es.take p))++[zen k (es.take i)]).map nV).length < sizeLine:=zam (by
   rw[yaa,yak,yaa,yaR,yaE];omega)
  have fin:∀ v:Nat,v=zen k (es.take (i+1))→upd H2 p (.lst ((((List.range i).map fun p=>zen k (es.take p))++[zen k (es.take i)]).map nV++[nV v])) p=some (.lst (((List.range (i+1+1)).map fun p=>zen k (es.take p)).map nV)):=fun v hv=>by
   rw[zac,zd7,yan (l₂:=[zen k (es.take (i+1))]),zd7,hv];rfl
  refine ⟨_,rfl,.inl ⟨rfl,_,SqL.of h2⟩,?_⟩;refine ⟨_,rfl,_,_,_,_,rfl,rfl,SqT.of h2b,rfl,_,rfl,rfl,_,rfl,?_⟩;refine ite2 (fun c=>?_) (fun c=>?_)
  ·have c':e.2=(k:Int):=V.int.inj (yaB c);rw[if_pos c']at hon;refine ⟨_,rfl,_,rfl,_,_,_,_,rfl,rfl,SqL.of h2,zjO,_,_,rfl,rfl,_,_,_,rfl,rfl,h2,hlen,?_⟩;refine ⟨_,rfl,?_,fun b o n e=>by rw[zaf n];exact k2 b o n e⟩;have:=fin (zen k (es.take i)+1) hon.symm;rw[← this];rfl
  ·have c':¬ e.2=(k:Int):=fun z=>c (by rw[z];exact yag rfl);rw[if_neg c',ybF]at hon;refine ⟨_,rfl,_,rfl,_,_,_,_,rfl,rfl,SqL.of h2,zjO,_,_,_,rfl,rfl,h2,hlen,?_⟩;exact ⟨_,rfl,fin _ hon.symm,fun b o n e=>by rw[zaf n];exact k2 b o n e⟩
 ·rintro σ H2 ⟨x3,rfl,h2,k2⟩;refine ⟨_,rfl,?_⟩;rw[← hwl]at h2;exact q p H2 hp (fun b o e=>k2 b o (zab e hp) e) h2
def kvT:Nat→List En→List (List Key×V)
 | _,[]=>[]
 | o,e::es=>([.inl e.1,.inl e.2],nV (o+1))::kvT (o+1) es
abbrev kE (e:En):List Key:=[.inl e.1,.inl e.2]
theorem zrN {e f:En}(h:kE e=kE f):e=f:=by
 obtain ⟨a,b⟩:=e;obtain ⟨c,d⟩:=f;injection h with h1 h2;injection h2 with h2 _;have h1:a=c:=Sum.inl.inj h1;have h2:b=d:=Sum.inl.inj h2;rw[h1,h2]
theorem zjw (e:En):∀(o:Nat) (es:List En),valV (kvT o es) (kE e)=if e∈es then some (nV (o+es.idxOf e+1)) else none
 | _,[]=>rfl
 | o,f::es=>by
  show valV ((kE f,nV (o+1))::kvT (o+1) es) (kE e)=_;by_cases z:f=e
  ·subst z;rw[za6 rfl,if_pos yav,List.idxOf_cons_self]
  ·rw[zaQ (fun y=>z (zrN y)),zjw e (o+1) es];have hm:(e∈f::es)=(e∈es):=propext ⟨fun h=>(yaj.mp h).resolve_left fun y=>z y.symm,fun h=>yau _ h⟩;by_cases y:e∈es
   ·have ei:(f::es).idxOf e=es.idxOf e+1:=by
     rw[List.idxOf_cons,beq_false_of_ne z];rfl
    rw[if_pos y,if_pos (by rw[hm];exact y),ei];congr 2;have:o+1+es.idxOf e+1=o+(es.idxOf e+1)+1:=by omega
    rw[this]
   ·rw[if_neg y,if_neg (by rw[hm];exact y)]
theorem zkF (e:En):∀(o:Nat) (es:List En),kvT o (es++[e])=kvT o es++[(kE e,nV (o+es.length+1))]
 | _,[]=>rfl
 | o,f::es=>by
  show (kE f,nV (o+1))::kvT (o+1) (es++[e])=(kE f,nV (o+1))::(kvT (o+1) es++_);rw[zkF e (o+1) es,yaI,show o+1+es.length+1=o+(es.length+1)+1 by omega]
theorem zm5:∀(o:Nat) (es:List En),(kvT o es).length=es.length
 | _,[]=>rfl
 | o,e::es=>by
  show (kvT (o+1) es).length+1=es.length+1;rw[zm5 (o+1) es]
def zj2 (K:Frag):Sp:=fun vs H Q _=>∃(a c:Addr) (ws vs':List V) (es cs:List En),vs=[.ref a,.ref c]∧H a=some (.lst ws)∧zao K H es ws∧es.length≤900∧H c=some (.lst vs')∧zao K H cs vs'∧cs.length≤900∧cs.Nodup∧
 ∀(p:Addr) (H':Hp),H p=none→Same H H'→H' p=some (.lst ((zfa es cs).map nV))→Q (.ref p) H'
theorem zmy (T:Txt K mg)(qba:DF K mg "starts_of" zc8 zcQ):FC P w K mg base 1 "starts_of" zcQ (zj2 K):=by
 refine qba.ok qal (fun vs H Q E h=>?_) (fun f cdv A outer s H vs Q E hr h=>?_)
 ·obtain ⟨a,c,ws,us,es,cs,rfl,_⟩:=h;rfl
 obtain ⟨a,c,ws,us,es,cs,rfl,ha,hw,hz,hc,hu,hzc,hnd,q⟩:=h;have hwl:=hw.length;have hul:=hu.length;refine ⟨_,(zaj (zat (i:=2) qal.nd rfl (Or.inl rfl) zoh)
   (zaj (zbb PassesOwn.never rfl (zdx rfl T.qa6 (zaa (pv 1) zad)) (zfn rfl (zaG (zan (i:=3) qal.nd rfl (Or.inl rfl)) (zaG (zan (i:=4) qal.nd rfl (Or.inl rfl)) zce))) (zag (zel (zdr hr) (pv 2) (pv 4) (zaz za4 (pv 3) zae) rfl)))
   (zaj (zat (i:=5) qal.nd rfl (Or.inl rfl) (zbg (zaa zae zad)))
   (zaj (zbb PassesOwn.never rfl (za1 (pv 0)) (zan (i:=4) qal.nd rfl (Or.inl rfl)) (zag (zaW (zdz F.plainAttrs_list F.slot_list_append F.type_list_append zaN (pv 5) (zaa (zoi (zdr hr) (pv 2) (pv 4) (zaq zax (pv 5) (zgh zdt zae) (fun _ _=>rfl)) ⟨rfl,rfl,rfl,rfl⟩) zad)))))
   (zag (zas (pv 5))))))),?_⟩
 intro D hD;have k0:But D H (upd H D (.dT [])):=fun b o n e=>by rw[zaf n];exact e
 have naD:a≠D:=zab ha hD;have ncD:c≠D:=zab hc hD;refine ⟨_,rfl,c,rfl,⟨_,SqL.of (k0 _ _ ncD hc)⟩,?_⟩;refine zhT (xs:=us) (fun i σ H2=>∃ x3 x4:Option V,σ=[some (.ref a),some (.ref c),some (.ref D),x3,x4,none]∧H2 D=some (.dT (kvT 0 (cs.take i)))∧But D H H2) ?_ ?_ ?_ ?_
 ·exact ⟨_,_,rfl,zac,k0⟩
 ·rintro i σ H2 _ ⟨x3,x4,rfl,_,k2⟩;exact SqL.of (k2 _ _ ncD hc)
 ·rintro i x σ H2 r hx ⟨x3,x4,rfl,h2,k2⟩ hr;obtain ⟨e,he,hhas⟩:=hu.get hx;obtain ⟨b,y1,y2,rfl,hb,hy1,hy2⟩:=(show hasP K H e x from hhas);have hy1:y1=.int e.1:=hy1;have hy2:y2=.int e.2:=hy2;subst hy1 hy2;have hi:=(yah.mp he).1;have htk:cs.take (i+1)=cs.take i++[e]:=by
   rw[yaA hi,(yah.mp he).2]
  refine ⟨r,_,rfl,SqT.of zac,rfl,_,_,rfl,_,_,rfl,rfl,?_⟩;have sr:=zai hr (.tup [.int (i:Int),.ref b]);have h3:=sr _ _ h2;have k3:But D H (upd H2 r (.tup [.int (i:Int),.ref b])):=fun b o n e=>sr b o (k2 b o n e);clear sr;generalize upd H2 r (.tup [.int (i:Int),.ref b])=H3 at h3 k3 ⊢;have h3b:=k3 _ _ (zab hb hD) hb;have hnot:e∉cs.take i:=fun z=>by
   have hn2:=hnd;rw[← ybf (i+1) cs,htk]at hn2;have:=(ybq.mp (ybq.mp hn2).1).2.2 e z e (yap.mpr rfl);exact this rfl
  refine ⟨_,rfl,_,_,rfl,rfl,_,rfl,_,rfl,D,_,rfl,DPut.t (k:=kE e) h3 h3b (zam (by rw[zm5,yao];omega)),?_⟩;refine ⟨_,_,rfl,?_,fun b o n e=>by rw[zaf n];exact k3 b o n e⟩;rw[zac,zdc _ (by rw[zjw,if_neg hnot]),htk,zkF,yao,ybs (by omega),ybM];rfl
 ·rintro σ H2 ⟨x3,x4,rfl,h2,k2⟩;rw[yar (by omega)]at h2;refine ⟨(by show 1≤sizeLine;decide),fun p hp=>?_⟩;have nDp:D≠p:=zab h2 hp;have s2:Same H H2:=fun b o e=>k2 b o (zab e hD) e;have k3:But p H2 (upd H2 p (.lst [V.int 0])):=fun b o n e=>by rw[zaf n];exact e
  have h2a:=s2 _ _ ha;refine ⟨_,rfl,a,rfl,⟨_,SqL.of (k3 _ _ (zab h2a hp) h2a)⟩,?_⟩;refine zdk (xs:=ws) (fun i σ H4=>∃ x4:Option V,σ=[some (.ref a),some (.ref c),some (.ref D),x3,x4,some (.ref p)]∧H4 p=some (.lst (((List.range (i+1)).map fun p=>stN cs (es.take p)).map nV))∧But p H2 H4) ?_ ?_ ?_ ?_
  ·exact ⟨_,rfl,zac,k3⟩
  ·rintro i σ H4 _ ⟨x4,rfl,_,k4⟩;exact SqL.of (k4 _ _ (zab h2a hp) h2a)
  ·rintro i x σ H4 hx ⟨x4,rfl,h4,k4⟩;obtain ⟨e,he,hhas⟩:=hw.get hx;obtain ⟨b,y1,y2,rfl,hb,hy1,hy2⟩:=(show hasP K H e x from hhas);have hy1:y1=.int e.1:=hy1;have hy2:y2=.int e.2:=hy2;subst hy1 hy2;have h2b:=s2 _ _ hb;have h4b:=k4 _ _ (zab h2b hp) h2b;have h4D:=k4 _ _ nDp h2;have hi:=(yah.mp he).1;have htk:es.take (i+1)=es.take i++[e]:=by
    rw[yaA hi,(yah.mp he).2]
   have hon:=zj0 cs (es.take i) e;rw[← htk]at hon;rw[zd7]at h4;have hlen:((((List.range i).map fun p=>stN cs (es.take p))++[stN cs (es.take i)]).map nV).length < sizeLine:=zam (by
    rw[yaa,yak,yaa,yaR,yaE];omega)
   refine ⟨_,rfl,.inl ⟨rfl,_,SqL.of h4⟩,?_⟩;refine ⟨_,rfl,D,rfl,.inr ⟨_,.inl h4D⟩,_,rfl,_,rfl,_,rfl,_,_,_,_,rfl,rfl,SqL.of h4,zjO,_,DGet.t (k:=kE e) h4D h4b,?_⟩;have ev:(valV (kvT 0 cs) (kE e)).getD (nV (stN cs (es.take i)))=nV (stN cs (es.take (i+1))):=by
    rw[zjw,hon];by_cases z:e∈cs
    ·rw[if_pos z,if_pos z,ybM];rfl
    ·rw[if_neg z,if_neg z];rfl
   rw[ev];refine ⟨_,_,_,rfl,rfl,h4,hlen,?_⟩;refine ⟨_,rfl,?_,fun b o n e=>by rw[zaf n];exact k4 b o n e⟩;rw[zac,zd7,yan (l₂:=[stN cs (es.take (i+1))]),zd7];rfl
  ·rintro σ H4 ⟨x4,rfl,h4,k4⟩;refine ⟨_,rfl,?_⟩;rw[← hwl]at h4;refine q p H4 (s2.free hp) (s2.trans fun b o e=>k4 b o (zab e hp) e) h4
theorem zaJ {α β:Type}{F G:α→β→Prop}(h:∀ a b,F a b→G a b):∀{l:List α} {m:List β},Paired F l m→Paired G l m
 | _,_,.nil=>.nil
 | _,_,.cons a t=>.cons (h _ _ a) (zaJ h t)
theorem zbl {α β:Type}{F:α→β→Prop}{a:α}{b:β}:∀{l:List α} {m:List β},Paired F l m→F a b→Paired F (l++[a]) (m++[b])
 | _,_,.nil,h=>.cons h .nil
 | _,_,.cons a t,h=>.cons a (zbl t h)
theorem zaS {α β:Type}{F:α→β→Prop}:∀{l:List α} {m:List β} {i:Nat} {a:α},Paired F l m→l[i]?=some a→∃ b,m[i]?=some b∧F a b
 | _,_,i,a,.nil,h=>by simp at h
 | _::_,b::_,0,a,.cons h t,e=>by
  have:=yae (show some _=some a from e);subst this;exact ⟨b,rfl,h⟩
 | _::_,_::_,i+1,a,.cons h t,e=>by
  obtain ⟨q,h1,h2⟩:=zaS (i:=i) t (by simpa using e);exact ⟨q,by simpa using h1,h2⟩
theorem zem {α β:Type}{F:α→β→Prop}:∀{l:List α} {m:List β} {i:Nat} {b:β},Paired F l m→m[i]?=some b→∃ a,l[i]?=some a∧F a b
 | _,_,i,a,.nil,h=>by simp at h
 | a::_,_::_,0,b,.cons h t,e=>by
  have:=yae (show some _=some b from e);subst this;exact ⟨a,rfl,h⟩
 | _::_,_::_,i+1,a,.cons h t,e=>by
  obtain ⟨q,h1,h2⟩:=zem (i:=i) t (by simpa using e);exact ⟨q,by simpa using h1,h2⟩
def zbL (Av:List Addr)(H:Hp)(es:List En)(ps:List Nat)(rows:List (List Int))(c:Nat)(x:V):Prop:=∃ j s,x=.ref j∧s∉Av∧H j=some (.tup [.int (c:Int),.ref s])∧H s=some (.lst ((zfa es (zak ps rows c)).map nV))
def BrAt (Av:List Addr)(H:Hp)(ps:List Nat)(rows:List (List Int))(k:Nat)(x:V):Prop:=∃ b o j xs,x=.ref b∧o∉Av∧j∉Av∧H b=some (.tup [.int ((zak ps rows k).length:Nat),.ref o,.ref j])∧H o=some (.lst ((zon k (zak ps rows k)).map nV))∧H j=some (.lst xs)∧Paired (zbL Av H (zak ps rows k) ps rows) (zaH ps k (ps.length+1)) xs
theorem zbL.same {Av:List Addr}{H H':Hp}{es:List En}{ps:List Nat}{rows:List (List Int)}{c:Nat}{x:V}(e:Same H H')(h:zbL Av H es ps rows c x):zbL Av H' es ps rows c x:=by
 obtain ⟨j,s,h1,h2,h3,h4⟩:=h;exact ⟨j,s,h1,h2,e _ _ h3,e _ _ h4⟩
theorem zbL.but {p:Addr}{Av:List Addr}{H H':Hp}{es:List En}{ps:List Nat}{rows:List (List Int)}{c:Nat}{x:V}{zs:List V}(k:But p H H')(hp:p∈Av)(hz:H p=some (.lst zs))(h:zbL Av H es ps rows c x):zbL Av H' es ps rows c x:=by
 obtain ⟨j,s,h1,h2,h3,h4⟩:=h;exact ⟨j,s,h1,h2,k _ _ (fun z=>by rw[z,hz]at h3;cases h3) h3,k _ _ (fun z=>h2 (z ▸ hp)) h4⟩
theorem zbL.less {Av Av':List Addr}{H:Hp}{es:List En}{ps:List Nat}{rows:List (List Int)}{c:Nat}{x:V}(s:∀ a∈Av',a∈Av)(h:zbL Av H es ps rows c x):zbL Av' H es ps rows c x:=by
 obtain ⟨j,q,h1,h2,h3,h4⟩:=h;exact ⟨j,q,h1,fun z=>h2 (s _ z),h3,h4⟩
theorem BrAt.same {Av:List Addr}{H H':Hp}{ps:List Nat}{rows:List (List Int)}{k:Nat}{x:V}(e:Same H H')(h:BrAt Av H ps rows k x):BrAt Av H' ps rows k x:=by
 obtain ⟨b,o,j,xs,h1,h2,h3,h4,h5,h6,h7⟩:=h;exact ⟨b,o,j,xs,h1,h2,h3,e _ _ h4,e _ _ h5,e _ _ h6,zaJ (fun a b=>zbL.same e) h7⟩
theorem BrAt.but {p:Addr}{Av:List Addr}{H H':Hp}{ps:List Nat}{rows:List (List Int)}{k:Nat}{x:V}{zs:List V}(kk:But p H H')(hp:p∈Av)(hz:H p=some (.lst zs))(h:BrAt Av H ps rows k x):BrAt Av H' ps rows k x:=by
 obtain ⟨b,o,j,xs,h1,h2,h3,h4,h5,h6,h7⟩:=h;exact ⟨b,o,j,xs,h1,h2,h3,kk _ _ (fun z=>by rw[z,hz]at h4;cases h4) h4,kk _ _ (fun z=>h2 (z ▸ hp)) h5,kk _ _ (fun z=>h3 (z ▸ hp)) h6,zaJ (fun a b=>zbL.but kk hp hz) h7⟩
theorem BrAt.less {Av:List Addr}{H:Hp}{ps:List Nat}{rows:List (List Int)}{k:Nat}{x:V}(h:BrAt Av H ps rows k x):BrAt [] H ps rows k x:=by
 obtain ⟨b,o,j,xs,h1,h2,h3,h4,h5,h6,h7⟩:=h;exact ⟨b,o,j,xs,h1,(fun z=>nomatch z),(fun z=>nomatch z),h4,h5,h6,zaJ (fun a b=>zbL.less (fun a z=>absurd z yax)) h7⟩
def spBr (K:Frag):Sp:=fun vs H Q _=>∃(st:Addr) (ps:List Nat) (rows:List (List Int)) (t rs:Addr) (as:List Addr),vs=[.ref st]∧zaO H st ps rows t rs as∧
 ∀(p:Addr) (xs:List V) (H':Hp),H p=none→Same H H'→H' p=some (.lst xs)→Paired (BrAt [] H' ps rows) (List.range (ps.length+1)) xs→Q (.ref p) H'
def zkd (K:Frag):Sp:=fun vs H Q _=>∃(st:Addr) (ps:List Nat) (rows:List (List Int)) (t rs:Addr) (as:List Addr) (pf:Addr) (qs:List Addr),vs=[.ref t,.ref pf]∧zaO H st ps rows t rs as∧H pf=some (.lst (qs.map V.ref))∧zaB K H ps rows (List.range (ps.length+1)) qs∧
 ∀(p:Addr) (xs:List V) (H':Hp),H p=none→Same H H'→H' p=some (.lst xs)→Paired (BrAt [] H' ps rows) (List.range (ps.length+1)) xs→Q (.ref p) H'
theorem zqh (T:Txt K mg)(qaX:DF K mg "bridges_of" zcO zbD)(qbq:FC P w K mg base 1 "children" zcD (zc0 K))(qcw:FC P w K mg base 1 "starts_of" zcQ (zj2 K))(qcR:FC P w K mg base 1 "owns_of" zdT (zpj K)):FC P w K mg base 2 "bridges_of" zbD (zkd K):=by
 refine qaX.ok qam (fun vs H Q E h=>?_) (fun f cdv A outer s H vs Q E hr h=>?_)
 ·obtain ⟨st,ps,rows,t,rs,as,pf,qs,rfl,_⟩:=h;rfl
 obtain ⟨st,ps,rows,t,rs,as,pf,qs,rfl,S,h1,hF,q⟩:=h;refine ⟨_,(zaj (zat (i:=2) qam.nd rfl (Or.inl rfl) (zbg zad))
   (zaj (zbb PassesOwn.never rfl (zdx rfl T.qa6 (zaa (pv 1) zad)) (zfn rfl (zaG (zan (i:=3) qam.nd rfl (Or.inl rfl)) (zaG (zan (i:=4) qam.nd rfl (Or.inr rfl)) zce))) (zaj (zgd (i:=5) (N:=["child","full","fulls"]) (own:=1) (cap:=[4,1]) qam.nd rfl rfl rfl (za1 (zav qbq hr (zaa (pv 0) (zaa (pv 3) zad)))) ⟨rfl,rfl,rfl,rfl,rfl,rfl⟩ (fun _ _ _ _ _=>(zan (i:=0) (show List.Nodup (["child","full","fulls"]:List Str) by decide +kernel) rfl (Or.inl rfl))) (fun _ _ _ _ _=>zbj) (fun _ _ _ _ _=>(zbv (zaa (pv 0) (zaa (zav qcw hr (zaa (pv 1) (zaa (zaq (zcu (K:=K)) (pv 2) (pv 0) (fun _ _=>rfl)) zad))) zad)))))
   (zag (zaW (zdz F.plainAttrs_list F.slot_list_append F.type_list_append zaN (pv 2) (zaa (zbv (zaa (zau zar rfl T.qat boot_len (zaa (pv 4) zad)) (zaa (zav qcR hr (zaa (pv 4) (zaa (pv 3) zad))) (zaa (pv 5) zad)))) zad))))))
   (zag (zas (pv 2))))),?_⟩
 have hfew:=S.few;have hkeys:=S.keys;have hql:=hF.length;rw[yaR]at hql;refine ⟨(by show 0≤sizeLine;decide),fun p hp=>?_⟩;have k0:But p H (upd H p (.lst [])):=fun b o n e=>by rw[zaf n];exact e
 have npf:pf≠p:=zab h1 hp;refine ⟨_,rfl,pf,rfl,⟨_,SqL.of (k0 _ _ npf h1)⟩,?_⟩;refine zhT (xs:=qs.map V.ref) (fun i σ H2=>∃(xs:List V) (x4 x5 x6:Option V),σ=[some (.ref t),some (.ref pf),some (.ref p),x4,x5,x6]∧H2 p=some (.lst xs)∧Paired (BrAt [p] H2 ps rows) (List.range i) xs∧But p H H2) ?_ ?_ ?_ ?_
 ·exact ⟨[],_,_,_,rfl,zac,.nil,k0⟩
 ·rintro i σ H2 _ ⟨xs,x4,x5,x6,rfl,_,_,k2⟩;exact SqL.of (k2 _ _ npf h1)
 ·rintro i x σ H2 r hx ⟨xs,x4,x5,x6,rfl,h2,hB,k2⟩ hr;rw[yal]at hx;obtain ⟨qq,hqi,rfl⟩:=ya8.mp hx;have hi:i < ps.length+1:=by
   have:=(yah.mp hqi).1;omega
  have hxl:xs.length=i:=by
   have:=Paired.length hB;rw[yaR]at this;exact this.symm
  have noP:∀{b:Addr} {o:HO},H b=some o→b≠p:=fun e=>zab e hp;have s12:Same H H2:=fun b o e=>k2 b o (noP e) e;have S2:=S.same s12;have F2:=hF.same s12;have h2f:=s12 _ _ h1;obtain ⟨q2,hq2,ws,hq3,hw3⟩:=F2.get (i:=i) (j:=i) (ya9 hi);rw[hqi]at hq2;have:=yae hq2;subst this;refine ⟨r,_,rfl,SqT.of zac,rfl,_,_,rfl,_,_,rfl,rfl,?_⟩;have sr:=zai hr (.tup [.int (i:Int),.ref qq]);generalize upd H2 r (.tup [.int (i:Int),.ref qq])=H3 at sr ⊢;refine ⟨_,rfl,_,rfl,t,ps,i,rfl,sr _ _ S2.tr,by omega,fun c H4 hc s4 h4=>?_⟩;have s24:Same H2 H4:=sr.trans s4;refine ⟨c,rfl,⟨_,SqL.of h4⟩,fun D hD=>?_⟩;have hpD:p≠D:=zab (s24 _ _ h2) hD;have F4:=F2.same s24;have h4q:=s24 _ _ hq3;have h4w:=hw3.mono s24.ext;have hfl:=zdG S.T S.len (rows:=rows) hi;refine zaT (xs:=(zaH ps i (ps.length+1)).map nV) (fun m σ H5=>∃(ys:List V) (x0:Option V),σ=[x0,some (.ref qq),some (.ref pf)]∧H5 D=some (.lst ys)∧Paired (zbL [p,D] H5 (zak ps rows i) ps rows) ((zaH ps i (ps.length+1)).take m) ys∧But D H4 H5) ?_ ?_ ?_ ?_
  ·exact ⟨[],_,rfl,zac,.nil,fun b o n e=>by rw[zaf n];exact e⟩
  ·rintro m σ H5 _ ⟨ys,x0,rfl,_,_,k5⟩;exact k5.sq (SqL.of h4) hD
  ·rintro m u x σ H5 hx hm ⟨ys,x0,rfl,h5,hJ,k5⟩;obtain ⟨hmi,rfl⟩:=zhd hx;have hcl:=zcy ps i (ps.length+1);have hyl:=Paired.length hJ;rw[yao]at hyl;rw[yaa]at hm;have hcm:(zaH ps i (ps.length+1))[m]?=some ((zaH ps i (ps.length+1)).getD m 0):=by
    rw[yad,yac hmi];rfl
   have htk2:(zaH ps i (ps.length+1)).take (m+1)=(zaH ps i (ps.length+1)).take m++[(zaH ps i (ps.length+1)).getD m 0]:=by
    rw[yaA hmi,yad,yac hmi];rfl
   rw[htk2];generalize (zaH ps i (ps.length+1)).getD m 0=ch at hcm ⊢;obtain ⟨hchn,hchp⟩:=zaD.mp (yaP hcm);have s45:Same H4 H5:=fun b o e=>k5 b o (zab e hD) e;have F5:=F4.same s45;obtain ⟨qc,hqc,wc,hqc3,hwc⟩:=F5.get (i:=ch) (j:=ch) (ya9 hchn);have hfc:=zdG S.T S.len (rows:=rows) hchn;refine zcU ?_;refine ⟨_,rfl,_,rfl,_,rfl,_,rfl,_,_,_,_,rfl,rfl,SqL.of (s45 _ _ (s24 _ _ h2f)),zhl hqc,?_⟩;refine ⟨qq,qc,ws,wc,zak ps rows i,zak ps rows ch,rfl,s45 _ _ h4q,h4w.mono s45.ext,by omega,hqc3,hwc,by omega,zgv S.T S.R hchn,fun sa H6 hsa s6 h6=>?_⟩;refine ⟨(by show 2≤sizeLine;decide),fun j hj=>?_⟩;have sj:=zai hj (.tup [.int (ch:Int),.ref sa]);have hjj:upd H6 j (.tup [.int (ch:Int),.ref sa]) j=some (.tup [.int (ch:Int),.ref sa]):=zac;generalize upd H6 j (.tup [.int (ch:Int),.ref sa])=H7 at sj hjj ⊢;have s57:=s6.trans sj;have h7D:=s57 _ _ h5;have nsaD:sa≠D:=Ne.symm (zab h5 hsa);have nsap:sa≠p:=Ne.symm (zab (s45 _ _ (s24 _ _ h2)) hsa);have kD:But D H7 (upd H7 D (.lst (ys++[.ref j]))):=fun b o n e=>by rw[zaf n];exact e
   refine ⟨_,h7D,zam (by omega),u - 1,by omega,by rw[yaa];omega,ys++[.ref j],_,rfl,zac,?_,fun b o n e=>by rw[zaf n];exact s57 _ _ (k5 b o n e)⟩;refine zbl (zaJ (fun a b h=>zbL.but kD (yau _ yav) h7D (zbL.same s57 h)) hJ) ?_;refine zbL.but kD (yau _ yav) h7D ⟨j,sa,rfl,?_,hjj,sj _ _ h6⟩;intro z;rcases yaj.mp z with z | z
   ·exact nsap z
   ·exact nsaD (yap.mp z)
  ·rintro σ H5 ⟨ys,x0,rfl,h5,hJ,k5⟩;rw[yaa,yar (yab _)]at hJ;have s45:Same H4 H5:=fun b o e=>k5 b o (zab e hD) e;have s25:=s24.trans s45;refine ⟨_,rfl,.inl ⟨rfl,_,SqL.of (s25 _ _ h2)⟩,_,rfl,_,_,rfl,.inl (SqL.of (s45 _ _ h4q)),?_⟩;have hwl:=h4w.length;refine ⟨_,rfl,_,rfl,qq,ws,zak ps rows i,i,rfl,s45 _ _ h4q,h4w.mono s45.ext,by omega,fun o H6 ho s6 h6=>?_⟩;refine ⟨_,rfl,(by show 3≤sizeLine;decide),fun b hb=>?_⟩;have sb:=zai hb (.tup [.int ((ws.length:Nat):Int),.ref o,.ref D]);have hbb:upd H6 b (.tup [.int ((ws.length:Nat):Int),.ref o,.ref D]) b=some (.tup [.int ((ws.length:Nat):Int),.ref o,.ref D]):=zac;generalize upd H6 b (.tup [.int ((ws.length:Nat):Int),.ref o,.ref D])=H7 at sb hbb ⊢;have s57:=s6.trans sb;have s27:=s25.trans s57;have h7p:=s27 _ _ h2;have kp:But p H7 (upd H7 p (.lst (xs++[.ref b]))):=fun b o n e=>by rw[zaf n];exact e
   have nop:o≠p:=Ne.symm (zab (s25 _ _ h2) ho);refine ⟨_,_,_,rfl,rfl,h7p,zam (by omega),?_⟩;refine ⟨xs++[.ref b],_,_,_,rfl,zac,?_,fun b o n e=>by rw[zaf n];exact s27 _ _ (k2 b o n e)⟩;rw[ybt];refine zbl (zaJ (fun a b h=>BrAt.but kp yav h7p (BrAt.same s27 h)) hB) ?_;refine BrAt.but kp yav h7p ⟨b,o,D,ys,rfl,fun z=>nop (yap.mp z),fun z=>hpD (yap.mp z).symm,?_,sb _ _ h6,s57 _ _ h5,?_⟩
   ·rw[hbb,hwl]
   ·exact zaJ (fun a b h=>zbL.same s57 (zbL.less (fun a z=>by rw[yap.mp z];exact yav) h)) hJ
 ·rintro σ H2 ⟨xs,x4,x5,x6,rfl,h2,hB,k2⟩;refine ⟨_,rfl,?_⟩;rw[yaa,← hql]at hB;refine q p xs H2 hp (fun b o e=>k2 b o (zab e hp) e) h2 (zaJ (fun a b=>BrAt.less) hB)
theorem zlf (T:Txt K mg)(qbL:DF K mg "bridges" zeK zd2)(qaf:FC P w K mg base 8 "full_rows" zbf (zfb K))(qau:FC P w K mg base 2 "bridges_of" zbD (zkd K)):FC P w K mg base 9 "bridges" zd2 (spBr K):=by
 refine qbL.ok qcD (fun vs H Q E h=>?_) (fun f cdv A outer s H vs Q E hr h=>?_)
 ·obtain ⟨st,ps,rows,t,rs,as,rfl,_⟩:=h;rfl
 obtain ⟨st,ps,rows,t,rs,as,rfl,S,q⟩:=h;refine ⟨_,(zag (zas (zav qau hr (zaa (zaq zaF (pv 0) zae (fun _ _=>rfl)) (zaa (zav qaf hr (zaa (pv 0) zad)) zad))))),?_⟩;refine ⟨_,rfl,_,_,_,_,rfl,rfl,SqT.of S.st,rfl,?_⟩;refine ⟨_,rfl,st,ps,rows,t,rs,as,rfl,S,fun pf qs H1 hpf s1 h1 hqn hqf hpq hF=>?_⟩;exact ⟨st,ps,rows,t,rs,as,pf,qs,rfl,S.same s1,h1,hF,fun p xs H2 hp s2 h2 hB=>q p xs H2 (s1.free hp) (s1.trans s2) h2 hB⟩
theorem zm9 {m:Nat}:∀{rows:List (List Int)},(∀ row∈rows,row.length≤m)→ze1 rows≤rows.length * m
 | [],_=>yaC _
 | r::rows,h=>by
  have h1:=h r yav;have h2:=zm9 (m:=m) (rows:=rows) fun x hx=>h x (yau _ hx);unfold ze1 at h2 ⊢;rw[yaw,yaU,yaI,Nat.succ_mul];omega
def zal (es:List (Int×Int))(key:Int):Nat:=(es.filter fun e=>decide (e.1 < key)).length
theorem znN {es:List (Int×Int)}{key:Int}{m:Nat}(hm:m≤es.length)(h1:∀ i,i < m→decide ((es.getD i (0,0)).1 < key)=true)(h2:∀ i,m≤i→i < es.length→decide ((es.getD i (0,0)).1 < key)=false):zal es key=m:=by
 unfold zal
 conv=>lhs;rw[← ybf m es]
 rw[yaT,yak];have e1:(es.take m).filter (fun e=>decide (e.1 < key))=es.take m:=by
  rw[yb9];intro x hx;obtain ⟨i,hi,rfl⟩:=ya4 hx;rw[yao]at hi;have:=h1 i (by omega);rw[yad,yac (by omega)]at this;rw[List.getElem_take];exact this
 have e2:(es.drop m).filter (fun e=>decide (e.1 < key))=[]:=by
  rw[ybu];intro x hx;obtain ⟨i,hi,rfl⟩:=ya4 hx;rw[yaY]at hi;have:=h2 (m+i) (by omega) (by omega);rw[yad,yac (by omega)]at this;rw[List.getElem_drop];intro z;rw[show decide (es[m+i].1 < key)=false from this]at z;cases z
 rw[e1,e2,yao,ybn];omega
theorem zdR {es:List (Int×Int)}(h:Rise es):es.Pairwise (fun a b=>a.1≤b.1):=h.imp fun {a b} h=>by
 have:=zcY.mp h;omega
theorem zb7 (es:List (Int×Int))(key:Int):zal es key≤es.length:=ybb _ _
theorem zcI {key:Int}:∀{es:List (Int×Int)},es.Pairwise (fun a b=>a.1≤b.1)→(∀ e∈es.take (zal es key),e.1 < key)∧∀ e∈es.drop (zal es key),¬ e.1 < key
 | [],_=>⟨fun e he=>(by simp at he),fun e he=>(by simp at he)⟩
 | a::es,h=>by
  rw[List.pairwise_cons]at h;obtain ⟨h1,h2⟩:=zcI (key:=key) h.2;by_cases c:a.1 < key
  ·have e:zal (a::es) key=zal es key+1:=by
    unfold zal;rw[yaL (by simpa using c),yaI]
   rw[e,List.take_succ_cons,List.drop_succ_cons];refine ⟨fun x hx=>?_,h2⟩;rcases yaj.mp hx with z | z
   ·rw[z];exact c
   ·exact h1 x z
  ·have all:∀ x∈a::es,¬ x.1 < key:=fun x hx=>by
    rcases yaj.mp hx with z | z
    ·rw[z];exact c
    ·have:=h.1 x z;omega
   have e:zal (a::es) key=0:=by
    unfold zal;rw[ybu.mpr fun x hx=>by simpa using all x hx];rfl
   rw[e];exact ⟨fun x hx=>(by simp at hx),fun x hx=>all x (by simpa using hx)⟩
theorem zfz {es:List (Int×Int)}{key:Int}(h:es.Pairwise (fun a b=>a.1≤b.1)):es.take (zal es key)=es.filter fun e=>decide (e.1 < key):=by
 obtain ⟨h1,h2⟩:=zcI (key:=key) h
 conv=>rhs;rw[← ybf (zal es key) es]
 rw[yaT,yb9.mpr fun e he=>yag (h1 e he),ybu.mpr fun e he z=>h2 e he (yaB z),yaN]
theorem zh0 {es:List (Int×Int)}{key:Int}(h:es.Pairwise (fun a b=>a.1≤b.1)){i:Nat}(hi:i < es.length):(i < zal es key→es[i].1 < key)∧(zal es key≤i→¬ es[i].1 < key):=by
 obtain ⟨h1,h2⟩:=zcI (key:=key) h;refine ⟨fun z=>h1 _ ?_,fun z=>h2 _ ?_⟩
 ·exact ycl.mpr ⟨i,by omega,rfl⟩
 ·refine List.mem_drop_iff_getElem.mpr ⟨i - zal es key,by omega,?_⟩;congr 1;omega
structure zr3 (C F hd:List (Int×Int))(key:Int)(st:Nat):Prop where
 lo:st≤zal C key
 hi:zal C key≤st+2
 none:st=0→∀ e∈hd,¬ e.1 < key
 some:st≠0→∃ h:st - 1 < C.length,C[st - 1]∈hd∧C[st - 1].1 < key∧C[st - 1]∈F
theorem zjm {ps:List Nat}(T:zaE ps){rows:List (List Int)}(R:za5 rows)(few:ps.length≤40){k c:Nat}(hk:k < ps.length+1)(hc:par ps c=some k)(key:Int) :
  zr3 (zak ps rows c) (zak ps rows k) (zcl (zak ps rows c)) key (stN (zak ps rows c) ((zak ps rows k).take (zal (zak ps rows k) key))):=by
 have hcn:=(zaR T hc).2;have hst:=zq8 T R hk hc (rows:=rows) (zal (zak ps rows k) key) (zb7 _ _);have hF:=zdR (zaY T R hk);have hC:=zdR (zaY T R hcn);have hcome:=znC T R hk hc (rows:=rows);have hgr:=fun t=>zpU (zgw T R few hcn) (zaY T R hcn) (t:=t);have hla:=zpT (zgw T R few hcn) (zaY T R hcn);have hsub:=zbx (zak ps rows c);have hpick:=zhc (zak ps rows c);have hspl:∀ j∈spL (zak ps rows c),j < (zak ps rows c).length:=fun j hj=>by
  have:=(zj7 (zak ps rows c)).lt hj;rw[zbE]at this;exact this
 have ht:inN (zak ps rows c) ((zak ps rows k).take (zal (zak ps rows k) key))=zal (zcl (zak ps rows c)) key:=by
  unfold inN;rw[zfz hF,← hcome];unfold zal;rw[yce,yce];congr 2
  funext e
  rw[Bool.and_comm]
 rw[hst,ht];have hmem:∀ e∈zcl (zak ps rows c),e∈zak ps rows k:=fun e he=>by
  rw[← hcome]at he;exact (yaV.mp he).1
 clear hst ht hcome hF;generalize zak ps rows k=F at hmem ⊢;generalize zak ps rows c=C at *;have hhd:(zcl C).Pairwise (fun a b=>a.1≤b.1):=hC.sublist hsub;have hlen:(zcl C).length=(spL C).length:=by rw[hpick,yaa]
 have hti:=zb7 (zcl C) key;have hat:∀ i (h:i < (spL C).length),∃(h1:(spL C)[i] < C.length) (h2:i < (zcl C).length),(zcl C)[i]=C[(spL C)[i]]:=fun i h=>by
  have h1:=hspl _ (yaG h);refine ⟨h1,by omega,?_⟩;have e:(zcl C)[i]?=some C[(spL C)[i]]:=by
   rw[hpick,yal,yac h];show some (C.getD (spL C)[i] (0,0))=_;rw[yad,yac h1];rfl
  exact (yah.mp e).2
 have bat:=fun i h=>zh0 (key:=key) hhd (i:=i) h;have cat:=fun i h=>zh0 (key:=key) hC (i:=i) h;have hall:=zcI (key:=key) hhd;generalize zal (zcl C) key=t at *;have hsp:∀ i (h:i < (spL C).length),stAt (spL C) (i+1)=(spL C)[i]+1:=fun i h=>by
  unfold stAt;rw[if_neg (by omega),ybG,yad,yac h];rfl
 have before:∀ t',t=t'+1→∃(h:t' < (spL C).length) (h1:(spL C)[t'] < C.length),stAt (spL C) t=(spL C)[t']+1∧C[(spL C)[t']]∈zcl C∧C[(spL C)[t']].1 < key:=fun t' e=>by
  have h:t' < (spL C).length:=by omega
  obtain ⟨h1,h2,h3⟩:=hat t' h;refine ⟨h,h1,by rw[e];exact hsp t' h,?_,?_⟩
  ·rw[← h3];exact yaG h2
  ·rw[← h3];exact (bat t' h2).1 (by omega)
 refine ⟨?_,?_,?_,?_⟩
 ·cases t with
  | zero=>exact yaC _
  | succ t'=>
   obtain ⟨h,h1,e,_,hlt⟩:=before t' rfl;rw[e];refine Nat.succ_le_of_lt (ycc fun z=>(cat _ h1).2 z hlt)
 ·rcases Nat.lt_or_ge t (spL C).length with z | z
  ·obtain ⟨h1,h2,h3⟩:=hat t z;have hge:¬ C[(spL C)[t]].1 < key:=by
    rw[← h3];exact (bat t h2).2 (yab _)
   have hle:zal C key≤(spL C)[t]:=ybo fun y=>hge ((cat _ h1).1 y);have:=hgr t z;rw[hsp t z]at this;omega
  ·have e:t=(spL C).length:=by omega
   rw[e];have:=zb7 C key;omega
 ·intro z;cases t with
  | zero=>exact fun e he=>hall.2 e (by simpa using he)
  | succ t'=>
   obtain ⟨_,_,e,_⟩:=before t' rfl;omega
 ·intro z;cases t with
  | zero=>exact absurd rfl z
  | succ t'=>
   obtain ⟨h,h1,e,hm,hlt⟩:=before t' rfl;have e2:stAt (spL C) (t'+1) - 1=(spL C)[t']:=by omega
   refine ⟨by omega,?_⟩;have e3:C[stAt (spL C) (t'+1) - 1]'(by omega)=C[(spL C)[t']]:=by
    congr 1
   rw[e3];exact ⟨hm,hlt,hmem _ hm⟩
theorem za8 {β:Type}{F:Nat→β→Prop}{n:Nat}{l:List β}{k:Nat}(h:Paired F (List.range n) l)(hk:k < n):∃ b,l[k]?=some b∧F k b:=zaS h (ya9 hk)
theorem zkG {Av:List Addr}{H:Hp}{es:List En}{ps:List Nat}{rows:List (List Int)}:∀{cs:List Nat} {xs:List V},Paired (zbL Av H es ps rows) cs xs→∃ kvs:List (Key×V),Paired (fun (z:V) (kv:Key×V)=>∃ b,z=.ref b∧H b=some (.tup [kV kv.1,kv.2])) xs kvs∧kvs.map (·.1)=cs.map (fun c:Nat=>(Sum.inl (c:Int):Key))∧
  ∀ c∈cs,cs.Nodup→∃ s,valV kvs (.inl (c:Int))=some (.ref s)∧H s=some (.lst ((zfa es (zak ps rows c)).map nV))
 | _,_,.nil=>⟨[],.nil,rfl,fun c hc=>nomatch hc⟩
 | c0::cs,_,.cons ⟨j,s,e1,_,e3,e4⟩ t=>by
  obtain ⟨kvs,h1,h2,h3⟩:=zkG t;refine ⟨(.inl (c0:Int),.ref s)::kvs,.cons ⟨j,e1,e3⟩ h1,by rw[yaw,h2];rfl,fun c hc hn=>?_⟩;rw[yaK]at hn;unfold valV;by_cases z:c=c0
  ·subst z;exact ⟨s,by rw[List.find?_cons_of_pos (by simp)];rfl,e4⟩
  ·rw[List.find?_cons_of_neg (by simp;omega)];rcases yaj.mp hc with y | y
   ·exact absurd y z
   ·exact h3 c y hn.2
theorem zes (ps:List Nat)(k n:Nat):(zaH ps k n).Nodup:=by
 unfold zaH;exact List.Pairwise.filter _ ycd
def figN (n:Nat):Nat:=if h:n=0 then 0 else figN (n / 2)+1
termination_by n
decreasing_by exact Nat.div_lt_self (yco h) (by decide)
theorem zgx:figN 0=0:=by
 unfold figN;rfl
theorem zf4 {n:Nat}(h:n≠0):figN n=figN (n / 2)+1:=by
 rw[figN,dif_neg h]
theorem ziU:∀(n a b:Nat),b≤n→a≤b→figN a≤figN b
 | 0,a,b,hb,ha=>by
  have e1:a=0:=by omega
  have e2:b=0:=by omega
  rw[e1,e2];exact yab _
 | n+1,a,b,hb,ha=>by
  by_cases z:a=0
  ·rw[z,zgx];exact yaC _
  ·rw[zf4 z,zf4 (show b≠0 by omega)];exact Nat.succ_le_succ (ziU n _ _ (by omega) (by omega))
theorem zhW:∀(n m:Nat),m≤n→figN m≤m
 | 0,m,h=>by
  rw[show m=0 by omega,zgx];exact yab _
 | n+1,m,h=>by
  by_cases z:m=0
  ·rw[z,zgx];exact yab _
  ·rw[zf4 z];have:=zhW n (m / 2) (by omega);omega
def zma (P:Program)(w:World)(K:Frag)(mg:Str→Option Value)(base:Heap):Sp:=fun vs H Q _=>∃(n:Nat) (f:Addr) (ps:List Str) (sp:Sp) (b:Nat→Bool) (R:List Nat→Hp→Prop),vs=[.int n,.ref f]∧FV P w K mg base 3 f ps sp∧R [] H∧
 (∀(i:Nat) (L:List Nat) (H1:Hp) (Q1:VK),i < n→L.length≤figN n→R L H1→(∀ H2,R (L++[i]) H2→Q1 (.bl (b i)) H2)→sp [.int i] H1 Q1 E0)∧(∀ i j,i≤j→j < n→b j=true→b i=true)∧
 ∀(m:Nat) (L:List Nat) (H':Hp),m≤n→(∀ i,i < m→b i=true)→(∀ i,m≤i→i < n→b i=false)→L.length≤figN n→R L H'→Q (.int m) H'
def zqV:L2.St→Hp→Nat:=fun σ _=>match σ with
 | [_,_,some (.int lo),some (.int hi),_]=>(hi - lo).toNat
 | _=>0
theorem zpw (T:Txt K mg)(qai:DF K mg "how_many_below" zbN zba):FC P w K mg base 4 "how_many_below" zba (zma P w K mg base):=by
 refine qai.ok qac (fun vs H Q E h=>?_) (fun f cdv A outer s H vs Q E hr h=>?_)
 ·obtain ⟨n,f,ps,sp,b,R,rfl,_⟩:=h;rfl
 obtain ⟨n,f,ps,sp,b,R,rfl,hF,hR,hask,hmono,q⟩:=h;refine ⟨_,(zaj (zat (i:=2) qac.nd rfl (Or.inl rfl) zae)
   (zaj (zat (i:=3) qac.nd rfl (Or.inl rfl) (pv 0))
   (zaj (zhE PassesOwn.never (zay zgm (pv 2) (pv 3) (zaA _)) (zaj (zat (i:=4) qac.nd rfl (Or.inl rfl) (zaz zjk (zaz za4 (pv 2) (pv 3)) zae))
   (zag (zbu (zdo (zhG (kr:=3) hr (pv 1) (zaa (pv 4) zad))) (zag (zat (i:=2) qac.nd rfl (Or.inl rfl) (zaz za4 (pv 4) zae))) (zag (zat (i:=3) qac.nd rfl (Or.inl rfl) (pv 4)))))))
   (zag (zas (pv 2)))))),?_⟩
 refine ⟨_,rfl,?_⟩;refine zh6 (fun σ H2=>∃(lo hi:Nat) (x4:Option V) (L:List Nat),σ=[some (.int n),some (.ref f),some (.int lo),some (.int hi),x4]∧lo≤hi∧hi≤n∧(∀ i,i < lo→b i=true)∧(∀ i,hi≤i→i < n→b i=false)∧L.length+figN (hi - lo)≤figN n∧R L H2) (fun σ H2=>∃(lo:Nat) (x4:Option V) (L:List Nat),σ=[some (.int n),some (.ref f),some (.int lo),some (.int lo),x4]∧lo≤n∧(∀ i,i < lo→b i=true)∧(∀ i,lo≤i→i < n→b i=false)∧L.length≤figN n∧R L H2) zqV ?_ ?_ ?_ ?_
 ·exact ⟨0,n,_,[],rfl,yaC _,yab _,fun i h=>absurd h (ybD _),fun i h1 h2=>absurd h2 (ybp.mpr h1),by rw[ybn,Nat.sub_zero,ybM];exact yab _,hR⟩
 ·rintro σ H2 ⟨lo,hi,x4,L,rfl,h1,h2,hb1,hb2,hL,hR2⟩;refine ⟨_,rfl,_,rfl,_,_,rfl,rfl,_,rfl,?_⟩;refine ite2 (fun c=>?_) (fun c=>?_)
  ·have c1:(lo:Int) < (hi:Int):=yaB c;have em:((lo:Int)+(hi:Int)) / 2=(((lo+hi) / 2:Nat):Int):=by omega
   have m1:lo≤(lo+hi) / 2:=by omega
   have m2:(lo+hi) / 2 < hi:=by omega
   have fst:figN (hi - lo)=figN ((hi - lo) / 2)+1:=zf4 (by omega);have fle:∀ d,d≤(hi - lo) / 2→(L++[(lo+hi) / 2]).length+figN d≤figN n:=fun d hd=>by
    have:=ziU _ d _ (yab _) hd;rw[yak,yaE];omega
   refine ⟨_,rfl,_,rfl,_,_,rfl,rfl,_,_,rfl,rfl,⟨by decide,by decide⟩,?_⟩;refine ⟨_,rfl,f,3,ps,sp,rfl,hF,yab _,_,rfl,?_⟩;show sp [V.int (((lo:Int)+(hi:Int)) / 2)] H2 _ E0;rw[em];refine hask ((lo+hi) / 2) L H2 _ (by omega) (by omega) hR2 fun H3 hR3=>⟨_,rfl,?_⟩;cases hbm:b ((lo+hi) / 2) with
   | true=>
    refine iteT ?_;refine ⟨_,rfl,_,_,rfl,rfl,⟨(lo+hi) / 2+1,hi,some (V.int (((lo:Int)+(hi:Int)) / 2)),_,?_,by omega,h2,fun i hi'=>hmono i ((lo+hi) / 2) (by omega) (by omega) hbm,hb2,fle _ (by omega),hR3⟩,?_⟩
    ·show [some (V.int n),some (V.ref f),some (V.int (((lo:Int)+(hi:Int)) / 2+1)),some (V.int hi),some (V.int (((lo:Int)+(hi:Int)) / 2))]=_;rw[em,Int.natCast_add];rfl
    ·show ((hi:Int) - (((lo:Int)+(hi:Int)) / 2+1)).toNat < ((hi:Int) - (lo:Int)).toNat;omega
   | false=>
    refine iteF ?_;refine ⟨_,rfl,⟨lo,(lo+hi) / 2,some (V.int (((lo:Int)+(hi:Int)) / 2)),_,?_,m1,by omega,hb1,fun i hi' hin=>?_,fle _ (by omega),hR3⟩,?_⟩
    ·show [some (V.int n),some (V.ref f),some (V.int lo),some (V.int (((lo:Int)+(hi:Int)) / 2)),some (V.int (((lo:Int)+(hi:Int)) / 2))]=_;rw[em]
    ·cases hbi:b i with
     | false=>rfl
     | true=>
      have:=hmono ((lo+hi) / 2) i hi' hin hbi;rw[hbm]at this;cases this
    ·show ((((lo:Int)+(hi:Int)) / 2) - (lo:Int)).toNat < ((hi:Int) - (lo:Int)).toNat;omega
  ·have c1:¬ (lo:Int) < (hi:Int):=ycq (ybH.mpr c);have e:hi=lo:=by omega
   subst e;exact ⟨hi,_,L,rfl,h2,hb1,hb2,by omega,hR2⟩
 ·intro σ H Q Q' m h;obtain ⟨y1,e3,y2,e4,i2,j2,f2,g2,b2,e5,q⟩:=h;exact ⟨y1,e3,y2,e4,i2,j2,f2,g2,b2,e5,m _ _ q⟩
 rintro σ H2 ⟨lo,x4,L,rfl,h2,hb1,hb2,hL,hR2⟩;refine ⟨_,rfl,?_⟩;exact q lo L H2 h2 hb1 hb2 hL hR2
abbrev ziK:Str:=(envOfC ("first_place" : Str) (zah zbB) 0 0 .none).qual ++ "<lambda>"
abbrev zdC:Pos:=⟨143,44,143,73⟩
structure zbp (H:Hp)(wa:Addr)(ps w:List Nat):Prop where
 at_:H wa=some (.lst (w.map nV))
 len:w.length≤900
 ne:w≠[]
 ch:zgV ps w
 kn:∀ x∈w,x < ps.length+1
def zl5 (K:Frag):Sp:=fun vs H Q _=>∃(m x:Int),vs=[.int m,.int x]∧0≤x∧x < m∧Q (.bl true) H
theorem zou (T:Txt K mg)(qap:DF K mg "is_one_of_first" zbA zbt)(qbr:FC P w K mg base 1 "is_whole" zcC (zjc K)):FC P w K mg base 2 "is_one_of_first" zbt (zl5 K):=by
 refine qap.ok qbf (fun vs H Q E h=>?_) (fun f cdv A outer s H vs Q E hr h=>?_)
 ·obtain ⟨m,x,rfl,_⟩:=h;rfl
 obtain ⟨m,x,rfl,h0,h1,q⟩:=h;refine ⟨_,(zag (zas (zms (zav qbr hr (zaa (pv 1) zad)) (zkm (zkp zmv zgm zae (pv 1) (pv 0)))))),?_⟩;refine ⟨_,rfl,_,true,rfl,.int x,_,rfl,?_⟩;refine iteT ?_;refine ⟨_,rfl,_,_,rfl,rfl,_,rfl,?_⟩;refine zrO h0 ?_;refine ⟨_,rfl,_,_,rfl,rfl,?_⟩;show Q (.bl (decide (x < m))) H;rw[yag h1];exact q
theorem znO {α:Type}{f:α→V}{us:List α}{c:α}:atI ((us++[c]).map f) (-1)=some (f c):=by
 unfold atI ixN;rw[yan];simp;rw[if_pos (by omega)];show (List.map f us++[f c])[(-1+((us.length:Int)+1)).toNat]?=_;rw[show (-1+((us.length:Int)+1)).toNat=us.length by omega,ya0 (by rw[yaa];exact yab _),yaa,ybK];rfl
def zl9 (K:Frag):Sp:=fun vs H Q _=>∃(t a:Addr) (ps w:List Nat),vs=[.ref t,.ref a]∧H t=some (.tup (zc7 ps))∧ps.length≤900∧H a=some (.lst (w.map nV))∧w.length≤1000∧w≠[]∧zgV ps w∧(∀ x∈w,x < ps.length+1)∧Q (.bl true) H
theorem zoz (T:Txt K mg)(qcb:DF K mg "is_way" zfN zeS)(qbs:FC P w K mg base 2 "is_one_of_first" zbt (zl5 K)):FC P w K mg base 3 "is_way" zeS (zl9 K):=by
 refine qcb.ok qbD (fun vs H Q E h=>?_) (fun f cdv A outer s H vs Q E hr h=>?_)
 ·obtain ⟨t,a,ps,w,rfl,_⟩:=h;rfl
 obtain ⟨t,a,ps,w,rfl,ht,hz,ha,hwl,hne,hC,hlt,q⟩:=h;have hpos:0 < w.length:=ybg.mpr hne;refine ⟨_,(zbk (zbu (PW.pt (ziq (zeb (zdo (zau ze6 rfl T.qas boot_isinstance (zaa (pv 1) (zaa (zgj (v:=.ty "list") rfl T.qby boot_list rfl) zad))))) (zfm (zay zeo (zau zar rfl T.qat boot_len (zaa (pv 1) zad)) zae (zaA _))))) (zag (zas zcf)) zaI)
   (zaj (zbb PassesOwn.never rfl (za1 (pv 1)) (zan (i:=2) qbD.nd rfl (Or.inl rfl)) (zag (zbu (zeb (zdo (zav qbs hr (zaa (zau zar rfl T.qat boot_len (zaa (pv 0) zad)) (zaa (pv 2) zad))))) (zag (zas zcf)) zaI)))
   (zaj (zbb PassesOwn.never rfl (zdw rfl T.qao (zaa zae (zaa (zau zar rfl T.qat boot_len (zaa (pv 1) zad)) zad))) (zan (i:=3) qbD.nd rfl (Or.inl rfl)) (zag (zbu (zay zop (zaq zaF (pv 0) (zaq zax (pv 1) (pv 3) (fun _ _=>rfl)) (fun _ _=>rfl)) (zaq zax (pv 1) (zaz zck (pv 3) zae) (fun _ _=>rfl)) (zaA _)) (zag (zas zcf)) zaI)))
   (zag (zas zcf))))),?_⟩
 refine ⟨fun σ' H'=>σ'=[some (.ref t),some (.ref a),none,none]∧H=H',?_,?_⟩
 ·refine ⟨_,rfl,_,_,_,_,rfl,.lst ha,zpA,_,rfl,?_⟩;refine iteF ?_;refine ⟨_,rfl,_,_,rfl,.inl (SqL.of ha),rfl,_,rfl,?_⟩;refine zqr (fun z=>?_) ?_
  ·have:=V.int.inj z;rw[yaa]at this;omega
  exact ⟨rfl,rfl⟩
 rintro σ' H' ⟨rfl,rfl⟩;refine ⟨_,rfl,a,rfl,⟨_,SqL.of ha⟩,?_⟩;refine zdk (xs:=w.map nV) (fun i σ H2=>∃ x2:Option V,σ=[some (.ref t),some (.ref a),x2,none]∧H2=H) ?_ ?_ ?_ ?_
 ·exact ⟨_,rfl,rfl⟩
 ·rintro i σ H2 _ ⟨x2,rfl,rfl⟩;exact SqL.of ha
 ·rintro i x σ H2 hx ⟨x2,rfl,rfl⟩;obtain ⟨hi,rfl⟩:=zhd hx;have hm:=hlt (w.getD i 0) (by rw[yad,yac hi];exact yaG hi);refine ⟨_,rfl,_,_,rfl,.inr (SqT.of ht),_,rfl,_,_,rfl,by omega,by rw[zaK];omega,_,rfl,?_⟩;refine iteF ?_;exact ⟨_,rfl,rfl⟩
 ·rintro σ H2 ⟨x2,rfl,rfl⟩;refine ⟨_,rfl,_,_,rfl,.inl (SqL.of ha),1,_,rfl,⟨by omega,by omega,by rw[yaa];omega,by rw[yaa];omega⟩,?_⟩;have en:((((w.map nV).length:Nat):Int) - 1).toNat=w.length - 1:=by rw[yaa];omega
  rw[en];refine zby (n:=w.length - 1) (fun i σ H3=>∃ x2 x3:Option V,σ=[some (.ref t),some (.ref a),x2,x3]∧H3=H2) ?_ ?_ ?_
  ·exact ⟨_,_,rfl,rfl⟩
  ·rintro i σ H3 hi ⟨x2,x3,rfl,rfl⟩;have ek:(1:Int)+(i:Int)=((i+1:Nat):Int):=by omega
   rw[ek];have h1:=hC i (by omega);have hm:=hlt (w.getD (i+1) 0) (by rw[yad,yac (show i+1 < w.length by omega)];exact yaG _);have hat1:atI (w.map nV) ((i+1:Nat):Int)=some (nV (w.getD (i+1) 0)):=zhm (by omega);have hat0:atI (w.map nV) (((i+1:Nat):Int) - 1)=some (nV (w.getD i 0)):=by
    rw[show ((i+1:Nat):Int) - 1=((i:Nat):Int) by omega];exact zhm (by omega)
   have hatT:=zh1 hm;rw[zeV h1]at hatT;refine ⟨_,rfl,_,rfl,_,rfl,_,_,_,_,rfl,rfl,SqL.of ha,hat1,_,_,_,_,rfl,rfl,SqT.of ht,hatT,_,rfl,_,rfl,_,_,rfl,rfl,_,_,_,_,rfl,rfl,SqL.of ha,hat0,rfl,_,rfl,?_⟩;refine zgQ rfl ?_;exact ⟨_,_,rfl,rfl⟩
  ·rintro σ H3 ⟨x2,x3,rfl,rfl⟩;exact q
theorem zbp.same {H H':Hp}{wa:Addr}{ps w:List Nat}(h:zbp H wa ps w)(e:Same H H'):zbp H' wa ps w:=⟨e _ _ h.at_,h.len,h.ne,h.ch,h.kn⟩
def zii (K:Frag):Sp:=fun vs H Q _=>∃(t a:Addr) (ps w:List Nat),vs=[.ref t,.ref a]∧H t=some (.tup (zc7 ps))∧ps.length≤900∧zbp H a ps w∧Q .non H
theorem zp9 (T:Txt K mg)(qbt:DF K mg "need_way" zdN zbT)(qc4:FC P w K mg base 3 "is_way" zeS (zl9 K)):FC P w K mg base 4 "need_way" zbT (zii K):=by
 refine qbt.ok qco (fun vs H Q E h=>?_) (fun f cdv A outer s H vs Q E hr h=>?_)
 ·obtain ⟨t,a,ps,w,rfl,_⟩:=h;rfl
 obtain ⟨t,a,ps,w,rfl,ht,hl,W,q⟩:=h;refine ⟨_,(zag (zbu (zeb (zdo (zav qc4 hr (zaa (pv 0) (zaa (pv 1) zad))))) (zag zoe) zaI)),?_⟩;refine ⟨_,rfl,_,rfl,t,a,ps,w,rfl,ht,hl,W.at_,by have:=W.len;omega,W.ne,W.ch,W.kn,_,rfl,?_⟩;refine iteF ?_;exact q
theorem zfD {w:List Nat}{i:Nat}(h:i < w.length):w.take (i+1)=w.take i++[w.getD i 0]:=by
 rw[yaA h,yad,yac h];rfl
theorem zhq {w:List Nat}{i:Nat}(h:i < w.length):w.getD i 0∈w:=by
 rw[yad,yac h];exact yaG h
theorem zhY (xs:List V)(a:Nat):cutV xs none (some (a:Int))=xs.take a:=by
 unfold cutV;rw[zgc,show HT.sIx xs.length 0 none=0 from rfl,List.drop_zero,Nat.sub_zero];by_cases h:a≤xs.length
 ·rw[ybs h]
 ·rw[ycb (by omega),yar (yab _),yar (by omega)]
theorem zgB (xs:List V)(a:Nat):cutV xs (some (a:Int)) none=xs.drop a:=by
 unfold cutV;rw[zgc,show HT.sIx xs.length xs.length none=xs.length from rfl];by_cases h:a≤xs.length
 ·rw[ybs h,yar (by rw[yaY];exact yab _)]
 ·rw[ycb (by omega),yba (yab _),yba (show xs.length≤a by omega),List.take_nil]
def ownB (rows:List (List Int))(k:Nat)(key:Int):Nat:=((zbF rows k).filter fun x=>decide (x < key)).length
theorem zk9 {ps:List Nat}(T:zaE ps){rows:List (List Int)}(R:za5 rows){k:Nat}(hk:k < ps.length+1):((zak ps rows k).filter fun e=>decide (e.2=(k:Int)))=ownE rows k:=by
 have hup:=R.at_up k;refine zmj ((zaY T R hk).filter _) ?_ fun e=>?_
 ·unfold ownE;refine List.Pairwise.map _ (R:=fun a b:Int=>a < b) (fun a b (h:a < b)=>zcY.mpr (.inl h)) hup
 ·rw[yaV];refine ⟨fun zq0=>?_,fun h=>⟨(zf1 T hk).mpr (.inl h),yag (zkt hk h).2⟩⟩;obtain ⟨h1,h2⟩:=zq0;rcases (zf1 T hk).mp h1 with h | ⟨c,hc,h⟩
  ·exact h
  ·exfalso;have h2:=yaB h2;have hcn:=(zaR T hc);obtain ⟨j,hj,hb,e2,_⟩:=zf3 T R hcn.2 e ((zbx _).subset h);have ej:j=k:=by omega
   subst ej;have:=zdE T hcn.1;rw[hb]at this;cases this
theorem zrp {ps:List Nat}(T:zaE ps){rows:List (List Int)}(R:za5 rows){k:Nat}(hk:k < ps.length+1)(key:Int):zen k ((zak ps rows k).take (zal (zak ps rows k) key))=ownB rows k key:=by
 rw[zfz (zdR (zaY T R hk))];unfold zen;have e:((zak ps rows k).filter fun e=>decide (e.1 < key)).filter (fun e=>decide (e.2=(k:Int)))=(ownE rows k).filter fun e=>decide (e.1 < key):=by
  rw[← zk9 T R hk,yce,yce];congr 1
  funext e
  rw[Bool.and_comm]
 rw[e];unfold ownE ownB;rw[List.filter_map,yaa];rfl
def KpV (Av:List Addr)(H H':Hp):Prop:=∀ b o,b∉Av→H b=some o→H' b=some o
def KpA (Av:List Addr)(mp:Addr)(H H':Hp):Prop:=∀ b o,b∉Av→b≠mp→H b=some o→H' b=some o
theorem KpA.trans {Av:List Addr}{mp:Addr}{H H1 H2:Hp}(a:KpA Av mp H H1)(b:KpA Av mp H1 H2):KpA Av mp H H2:=fun c o n1 n2 h=>b c o n1 n2 (a c o n1 n2 h)
theorem KpV.a {Av:List Addr}{mp:Addr}{H H1:Hp}(a:KpV Av H H1):KpA Av mp H H1:=fun c o n1 _ h=>a c o n1 h
theorem KpA.of {Av:List Addr}{mp:Addr}{H H1:Hp}(a:Same H H1):KpA Av mp H H1:=fun c o _ _ h=>a c o h
theorem KpA.gro {Av:List Addr}{mp:Addr}{H H1:Hp}(a:Gro mp H H1):KpA Av mp H H1:=fun c o _ n h=>a c o n h
theorem FV.mono {P:Program}{w:World}{K:Frag}{mg:Str→Option Value}{base:Heap}{j k:Nat}{f:Addr}{ps:List Str}{sp:Sp}(F:FV P w K mg base j f ps sp)(h:j≤k):FV P w K mg base k f ps sp:=by
 obtain ⟨fd,ok,r⟩:=F.ex;exact ⟨fd,ok.mono h,r⟩
structure AskF (P:Program)(w:World)(K:Frag)(mg:Str→Option Value)(base:Heap)(f:Addr)(Av:List Addr)(mp:Addr)(fp:Addr→Prop)(R:List (Nat×Nat)→Hp→Prop)(ps:List Nat)(rows:List (List Int))(key:Int):Prop where
 keep:∀ L H H',R L H→(∀ b o,fp b→H b=some o→H' b=some o)→R L H'
 alloc:∀ L H b,R L H→fp b→H b≠none
 avl:∀ L H,R L H→∀ a∈Av,∃ zs,H a=some (.lst zs)
 nmp:¬ fp mp
 ask:∃(pn:List Str) (sp:Sp),FV P w K mg base 2 f pn sp∧∀(kn i:Nat) (L:List (Nat×Nat)) (H:Hp) (Q:VK),kn < ps.length+1→i < (zak ps rows kn).length→L.length≤9000→R L H→
  (∀ H',R (L++[(kn,i)]) H'→KpV Av H H'→Q (.bl (decide (((zak ps rows kn).getD i (0,0)).1 < key))) H')→sp [.int kn,.int i] H Q E0
theorem AskF.lift {P:Program}{w:World}{K:Frag}{mg:Str→Option Value}{b1 b2:Heap}{f:Addr}{Av:List Addr}{mp:Addr}{fp:Addr→Prop}{R:List (Nat×Nat)→Hp→Prop}{ps:List Nat}{rows:List (List Int)}{key:Int}(A:AskF P w K mg b1 f Av mp fp R ps rows key)(S:Sub K mg b1 b2):AskF P w K mg b2 f Av mp fp R ps rows key:=by
 obtain ⟨a,b,c,d,pn,sp,hF,r⟩:=A;exact ⟨a,b,c,d,pn,sp,hF.lift S,r⟩
structure zbe (Av:List Addr)(mp:Addr)(R:List (Nat×Nat)→Hp→Prop)(ps:List Nat)(rows:List (List Int))(br:Addr)(xs:List V)(L:List (Nat×Nat))(H:Hp):Prop where
 r:R L H
 avs:∀ a∈Av,∃ zs,H a=some (.lst zs)
 at_:H br=some (.lst xs)
 nb:br∉Av
 ba:Paired (BrAt Av H ps rows) (List.range (ps.length+1)) xs
 tb:zaC H mp zdC ziK
section
variable {Av:List Addr}{mp:Addr}{R:List (Nat×Nat)→Hp→Prop}{ps:List Nat}{rows:List (List Int)}{br:Addr}{xs:List V}{L L':List (Nat×Nat)}{H H':Hp}
theorem zbe.nm (S:zbe Av mp R ps rows br xs L H){b:Addr}{o:HO}(h:H b=some o)(n:∀ tab,o≠.tbl tab):b≠mp:=fun z=>by
 obtain ⟨tab,e,_⟩:=S.tb.ex;rw[← z,h]at e;exact n _ (yae e)
theorem zbe.na (S:zbe Av mp R ps rows br xs L H){b:Addr}{o:HO}(h:H b=some o)(n:∀ zs,o≠.lst zs):b∉Av:=fun z=>by
 obtain ⟨zs,e⟩:=S.avs b z;rw[h]at e;exact n _ (yae e)
theorem zbe.tup (S:zbe Av mp R ps rows br xs L H)(k:KpA Av mp H H'){b:Addr}{us:List V}(h:H b=some (.tup us)):H' b=some (.tup us):=k _ _ (S.na h (fun _ z=>nomatch z)) (S.nm h (fun _ z=>nomatch z)) h
theorem zbe.lst (S:zbe Av mp R ps rows br xs L H)(k:KpA Av mp H H'){b:Addr}{us:List V}(h:H b=some (.lst us))(n:b∉Av):H' b=some (.lst us):=k _ _ n (S.nm h (fun _ z=>nomatch z)) h
theorem zbe.kp (S:zbe Av mp R ps rows br xs L H)(k:KpA Av mp H H')(hT:zaC H' mp zdC ziK)(hR:R L' H')(ha:∀ a∈Av,∃ zs,H' a=some (.lst zs)):zbe Av mp R ps rows br xs L' H':=
 ⟨hR,ha,S.lst k S.at_ S.nb,S.nb,zaJ (fun j x ⟨b,o,j',ys,h1,h2,h3,h4,h5,h6,h7⟩=>⟨b,o,j',ys,h1,h2,h3,S.tup k h4,S.lst k h5 h2,S.lst k h6 h3,zaJ (fun c y ⟨a,s,g1,g2,g3,g4⟩=>⟨a,s,g1,g2,S.tup k g3,S.lst k g4 g2⟩) h7⟩) S.ba,hT⟩
theorem zbe.tbv (S:zbe Av mp R ps rows br xs L H)(k:KpV Av H H'):zaC H' mp zdC ziK:=by
 obtain ⟨tab,h1,h2,h3⟩:=S.tb.ex;refine ⟨tab,k _ _ (S.na h1 (fun _ z=>nomatch z)) h1,h2,?_⟩;rcases h3 with h3 | ⟨c,h3,h4⟩
 ·exact .inl h3
 ·exact .inr ⟨c,h3,k _ _ (S.na h4 (fun _ z=>nomatch z)) h4⟩
end
theorem ziv {K:Frag}{H H':Hp}(k:∀ b us,H b=some (.tup us)→H' b=some (.tup us)):∀{es:List (Int×Int)} {ws:List V},zao K H es ws→zao K H' es ws
 | _,_,.nil=>.nil
 | _,_,.cons h t=>by
  refine .cons ?_ (ziv k t);obtain ⟨a,x1,x2,rfl,hT,e1,e2⟩:=(show hasP K H _ _ from h);exact ⟨a,x1,x2,rfl,k _ _ hT,e1,e2⟩
theorem zlV {H:Hp}{Pt D:Addr}{pos:Pos}{q:Str}{xs:List V}{o:HO}(x:zaC H Pt pos q)(hD:H D=some (.lst xs)):zaC (upd H D o) Pt pos q:=by
 obtain ⟨tab,h1,h2,h3⟩:=x.ex;have n1:Pt≠D:=fun z=>by
  rw[z,hD]at h1;cases h1
 refine ⟨tab,by rw[zaf n1];exact h1,h2,?_⟩;rcases h3 with h3 | ⟨c,h3,h4⟩
 ·exact .inl h3
 ·refine .inr ⟨c,h3,?_⟩;have n2:c≠D:=fun z=>by
   rw[z]at h4;rw[show H D=_ from h4]at hD;cases hD
  show upd H D o c=_;rw[zaf n2];exact h4
theorem zbe.free {Av:List Addr}{mp:Addr}{R:List (Nat×Nat)→Hp→Prop}{ps:List Nat}{rows:List (List Int)}{br:Addr}{xs:List V}{L:List (Nat×Nat)}{H H1:Hp}(S:zbe Av mp R ps rows br xs L H1)(k:KpA Av mp H H1){D:Addr}(h:H1 D=none):H D=none∧D∉Av∧D≠mp:=by
 have n1:D∉Av:=fun z=>by
  obtain ⟨zs,e⟩:=S.avs D z;rw[h]at e;cases e
 have n2:D≠mp:=fun z=>by
  obtain ⟨tab,e,_⟩:=S.tb.ex;rw[← z,h]at e;cases e
 refine ⟨?_,n1,n2⟩;cases e:H D with
 | none=>rfl
 | some o=>
  have:=k _ _ n1 n2 e;rw[h]at this;cases this
theorem zfZ {ps:List Nat}(T:zaE ps){rows:List (List Int)}(R:za5 rows){k:Nat}(hk:k < ps.length+1)(key:Int):atI ((zon k (zak ps rows k)).map nV) ((zal (zak ps rows k) key:Nat):Int)=some (.int ((ownB rows k key:Nat):Int)):=by
 have hle:=zb7 (zak ps rows k) key;refine zaP ?_;rw[yal];unfold zon;rw[yal,ya9 (by omega),← zrp T R hk key];rfl
theorem zfk {wy:List Nat}{i:Nat}(h:i < wy.length):(wy.map nV)[i]?=some (nV (wy.getD i 0)):=by
 rw[yal,yad,yac h];rfl
theorem zgW {wy:List Nat}{i:Nat}(h:i < wy.length):wy.getD i 0∈wy:=by
 rw[yad,yac h];exact yaG h
theorem zlN {α:Type}(f:Nat→α){wy:List Nat}{i:Nat}(h:i < wy.length):(wy.take (i+1)).map f=(wy.take i).map f++[f (wy.getD i 0)]:=by
 rw[yaA h,yan,yad,yac h];rfl
theorem zqI (l:List Nat):cutV (l.map nV) (some 1) none=(l.drop 1).map nV:=by
 rw[show (1:Int)=((1:Nat):Int) from rfl,zgB,← List.map_drop]
def zjf (P:Program)(w:World)(K:Frag)(mg:Str→Option Value)(base:Heap)(mp:Addr):Sp:=fun vs H Q _=>∃(br f:Addr) (xs:List V) (ps:List Nat) (rows:List (List Int)) (k:Nat) (key:Int) (Av:List Addr) (fp:Addr→Prop) (R:List (Nat×Nat)→Hp→Prop) (L:List (Nat×Nat)),vs=[.ref br,.int k,.ref f]∧
 AskF P w K mg base f Av mp fp R ps rows key∧zbe Av mp R ps rows br xs L H∧zaE ps∧za5 rows∧k < ps.length+1∧L.length≤3000∧(zak ps rows k).length≤1000∧
 ∀(H':Hp) (L':List (Nat×Nat)),zbe Av mp R ps rows br xs (L++L') H'→KpA Av mp H H'→L'.length≤figN (zak ps rows k).length→Q (.int (zal (zak ps rows k) key:Nat)) H'
theorem zoB (T:Txt K mg){mc mp:Addr}(qaA:DFT K mg "first_place" zbB zbH mc mp)(hBM:BMAt mg base)(qav:∀ b,Sub K mg base b→FC P w K mg b 4 "how_many_below" zba (zma P w K mg b)):FC P w K mg base 5 "first_place" zbH (zjf P w K mg base mp):=by
 refine qaA.ok qbU (fun vs H Q E h=>?_) (fun f A outer s H vs Q E hr h=>?_)
 ·obtain ⟨br,f,xs,ps,rows,k,key,Av,fp,R,L,rfl,_⟩:=h;rfl
 obtain ⟨br,f,xs,ps,rows,k,key,Av,fp,R,L,rfl,AF,S,hT,hR,hk,hLn,hFn,q⟩:=h;refine ⟨_,(zag (zas (zjh (kf:=2) qav hr (zaq zaF (zaq zax (pv 0) (pv 1) (fun _ _=>rfl)) zae (fun _ _=>rfl)) (ziJ (osc:=zah zbB) (N:=["bridges","knot","is_below"]) (ps:=["at"]) (caps:=["is_below","knot"]) (cap:=[2,1]) ⟨rfl,rfl,rfl,by decide +kernel,by decide +kernel,by decide +kernel,by decide +kernel⟩ (by decide +kernel) (by decide +kernel) rfl rfl rfl rfl (fun _ _ _ _ us hl=>match us,hl with | [_],_=>rfl) (fun _=>rfl)) rfl qaA.hd hBM (fun b _ _ _ _ _ _ _ S hr=>(zok P w K mg b (kr:=2) hr (pv 1) (zaa (pv 2) (zaa (pv 0) zad))))))),?_⟩
 obtain ⟨x,hx,b,o,j,ys,rfl,_,_,hb,ho,hj,hJ⟩:=za8 S.ba hk;have hF:=zdR (zaY hT hR hk (rows:=rows));refine ⟨_,rfl,_,rfl,_,_,_,_,rfl,rfl,SqL.of S.at_,zaP hx,_,_,_,_,rfl,rfl,SqT.of hb,rfl,S.tb,[.ref f,.int k],rfl,?_,fun bs g c' H2 hg hT2 hC SB hV=>?_⟩
 ·intro j i v h1 h2;rcases j with _ | _ | j
  ·cases h1;cases h2;rfl
  ·cases h1;cases h2;rfl
  ·cases h1
 obtain ⟨pn,sp,hFV,hask⟩:=(AF.lift SB).ask;have hR2:R L H2:=AF.keep _ _ _ S.r fun b o hb e=>hg _ _ (fun z=>AF.nmp (z ▸ hb)) e;have S2:zbe Av mp R ps rows br xs L H2:=S.kp (.gro hg) hT2 hR2 (AF.avl _ _ hR2);refine ⟨(zak ps rows k).length,g,_,_,fun i=>decide (((zak ps rows k).getD i (0,0)).1 < key),fun L1 H1=>R (L++L1.map fun i=>(k,i)) H1∧KpV Av H2 H1,rfl,hV,⟨by rw[ybz,yaN];exact hR2,fun _ _ _ h=>h⟩,fun i L1 H1 Q1 hi hLi hR1 hQ=>?_,fun i j hij hj hb=>?_,fun m L1 H' hm hb1 hb2 hL hR1=>?_⟩
 ·refine ⟨rfl,hR1.2 _ _ (S2.na hC (fun _ z=>nomatch z)) hC,?_⟩;refine ⟨_,rfl,f,2,pn,sp,rfl,hFV,yab _,_,rfl,_,rfl,?_⟩;refine hask k i _ H1 _ hk hi (by have:=zhW _ _ (yab (zak ps rows k).length);rw[yak,yaa];omega) hR1.1 fun H3 hR3 k3=>hQ _ ⟨?_,fun b o n h=>k3 _ _ n (hR1.2 _ _ n h)⟩;rw[yan,← ybY];exact hR3
 ·refine yag ?_;have hb:=yaB hb;by_cases e:i=j
  ·subst e;exact hb
  ·have:=ya6.mp hF i j (by omega) hj (by omega);rw[yad,yac (by omega)]at hb ⊢;exact Int.lt_of_le_of_lt this hb
 ·have e:=znN hm hb1 hb2;have q2:=q H' _ (S2.kp hR1.2.a (S2.tbv hR1.2) hR1.1 (AF.avl _ _ hR1.1)) (KpA.trans (.gro hg) hR1.2.a) (by rw[yaa];exact hL);rw[e]at q2;exact q2
def zjd (K:Frag):Sp:=fun vs H Q _=>∃(Av:List Addr) (br:Addr) (ps:List Nat) (rows:List (List Int)) (xs:List V) (k c m:Nat),vs=[.ref br,.int k,.int m,.int c]∧H br=some (.lst xs)∧Paired (BrAt Av H ps rows) (List.range (ps.length+1)) xs∧zaE ps∧k < ps.length+1∧par ps c=some k∧m≤(zak ps rows k).length∧
 ∀ H',Same H H'→Q (.int (stN (zak ps rows c) ((zak ps rows k).take m):Nat)) H'
theorem zkv (T:Txt K mg)(qa5:DF K mg "start_in" zdL zcB):FC P w K mg base 1 "start_in" zcB (zjd K):=by
 refine qa5.ok qcp (fun vs H Q E h=>?_) (fun f cdv A outer s H vs Q E hr h=>?_)
 ·obtain ⟨Av,br,ps,rows,xs,k,c,m,rfl,_⟩:=h;rfl
 obtain ⟨Av,br,ps,rows,xs,k,c,m,rfl,hbr,hB,hT,hk,hc,hm,q⟩:=h;obtain ⟨x,hx,b,o,j,ys,rfl,_,_,hb,ho,hj,hJ⟩:=za8 hB hk;obtain ⟨kvs,h1,h2,h3⟩:=zkG hJ;have hcm:c∈zaH ps k (ps.length+1):=zaD.mpr ⟨(zaR hT hc).2,hc⟩;obtain ⟨sa,hv,hsa⟩:=h3 c hcm (zes _ _ _);refine ⟨_,(zag (zas (zaq zax (zde (zdr hr) (zbI (zlI rfl) rfl T.qdo boot_dict (zaa (zaq zaF (zaq zax (pv 0) (pv 1) (fun _ _=>rfl)) zae (fun _ _=>rfl)) zad)) (pv 3) (fun _ _=>rfl)) (pv 2) (fun _ _=>rfl)))),?_⟩;refine ⟨_,rfl,_,rfl,_,_,_,_,rfl,rfl,SqL.of hbr,zaP hx,_,_,_,_,rfl,rfl,SqT.of hb,rfl,?_⟩;refine ⟨j,ys,kvs,rfl,SqL.of hj,h1,?_,fun d hd=>?_⟩
 ·rw[h2];exact List.Pairwise.map (R:=fun a b:Nat=>a≠b) _ (fun a b (n:a≠b) z=>n (by have:=Sum.inl.inj z;omega)) (zes ps k _)
 have sd:=zai hd (.dK kvs);refine ⟨_,rfl,d,.ref sa,rfl,?_,?_⟩
 ·have:=DGet.k (k:=(.inl (c:Int))) (zac (H:=H) (a:=d) (o:=.dK kvs));rw[hv]at this;exact this
 refine ⟨_,rfl,_,_,_,_,rfl,rfl,SqL.of (sd _ _ hsa),zaP (v:=nV (stN (zak ps rows c) ((zak ps rows k).take m))) ?_,q _ sd⟩;rw[yal];unfold zfa;rw[yal,ya9 (by omega)];rfl
def zl6 (P:Program)(w:World)(K:Frag)(mg:Str→Option Value)(base:Heap)(mp:Addr):Sp:=fun vs H Q _=>∃(br f:Addr) (xs:List V) (ps:List Nat) (rows:List (List Int)) (k st:Nat) (key:Int) (Av:List Addr) (fp:Addr→Prop) (R:List (Nat×Nat)→Hp→Prop) (L:List (Nat×Nat)),vs=[.ref br,.int k,.int st,.ref f]∧
 AskF P w K mg base f Av mp fp R ps rows key∧zbe Av mp R ps rows br xs L H∧zaE ps∧za5 rows∧k < ps.length+1∧L.length≤8000∧st≤zal (zak ps rows k) key∧zal (zak ps rows k) key≤st+2∧
 ∀(H':Hp) (L':List (Nat×Nat)),zbe Av mp R ps rows br xs (L++L') H'→KpA Av mp H H'→L'.length≤2→Q (.int (zal (zak ps rows k) key:Nat)) H'
theorem zmD (T:Txt K mg){mp:Addr}(qaF:DF K mg "next_place" zcK zb0):FC P w K mg base 3 "next_place" zb0 (zl6 P w K mg base mp):=by
 refine qaF.ok qaz (fun vs H Q E h=>?_) (fun f cdv A outer s H vs Q E hr h=>?_)
 ·obtain ⟨br,f,xs,ps,rows,k,st,key,Av,fp,R,L,rfl,_⟩:=h;rfl
 obtain ⟨br,f,xs,ps,rows,k,st,key,Av,fp,R,L,rfl,AF,S,hT,hR,hk,hLn,hlo,hhi,q⟩:=h;refine ⟨_,(zaj (zat (i:=4) qaz.nd rfl (Or.inl rfl) (zau (zgH rfl) rfl T.qc0 boot_min (zaa (zaz za4 (pv 2) (zfW rfl T.qaB)) (zaa (zaq zaF (zaq zax (pv 0) (pv 1) (fun _ _=>rfl)) zae (fun _ _=>rfl)) zad))))
   (zaj (zat (i:=5) qaz.nd rfl (Or.inl rfl) (pv 2))
   (zaj (zhE PassesOwn.never (PW.pt (zg5 (zay zgm (pv 5) (pv 4) (zaA _)) (zfe (zdo (zhG (kr:=2) hr (pv 3) (zaa (pv 1) (zaa (pv 5) zad))))))) (zag (zat (i:=5) qaz.nd rfl (Or.inl rfl) (zaz za4 (pv 5) zae))))
   (zag (zas (pv 5)))))),?_⟩
 obtain ⟨x,hx,b,o,j,ys,rfl,_,_,hb,ho,hj,hJ⟩:=za8 S.ba hk;have hF:=zdR (zaY hT hR hk (rows:=rows));have hle:=zb7 (zak ps rows k) key;have hat:=fun i h=>zh0 (key:=key) hF (i:=i) h;obtain ⟨pn,sp,hFV,hask⟩:=AF.ask;refine ⟨_,rfl,_,_,rfl,rfl,_,rfl,_,rfl,_,_,_,_,rfl,rfl,SqL.of S.at_,zaP hx,_,_,_,_,rfl,rfl,SqT.of hb,rfl,_,_,rfl,?_⟩;have eb:∃ m:Nat,(if (((zak ps rows k).length:Nat):Int) < (st:Int)+2 then (((zak ps rows k).length:Nat):Int) else (st:Int)+2)=(m:Int)∧m≤(zak ps rows k).length∧m≤st+2∧zal (zak ps rows k) key≤m:=by
  by_cases c:(((zak ps rows k).length:Nat):Int) < (st:Int)+2
  ·exact ⟨_,if_pos c,yab _,by omega,hle⟩
  ·exact ⟨st+2,by rw[if_neg c];rfl,by omega,yab _,hhi⟩
 obtain ⟨m,em,hm1,hm2,hm3⟩:=eb;rw[em];refine ⟨_,rfl,?_⟩;refine ⟨fun n σ H1=>∃(at_:Nat) (L1:List (Nat×Nat)),σ=[some (.ref br),some (.int k),some (.int st),some (.ref f),some (.int m),some (.int at_)]∧st≤at_∧at_≤zal (zak ps rows k) key∧at_+n=m∧L1.length+st=at_∧zbe Av mp R ps rows br xs (L++L1) H1∧KpA Av mp H H1,⟨m - st,st,[],rfl,yab _,hlo,by omega,by rw[ybn,ybM],by rw[yaN];exact S,fun _ _ _ _ h=>h⟩,?_⟩;rintro n σ H1 ⟨at_,L1,rfl,h1,h2,h3,h4,S1,k1⟩;refine ⟨_,rfl,_,rfl,_,_,rfl,rfl,_,rfl,?_⟩;refine ite2 (fun c=>?_) (fun c=>?_)
 ·have c1:(at_:Int) < (m:Int):=yaB c;refine ⟨_,rfl,f,2,pn,sp,rfl,hFV,yab _,_,rfl,_,rfl,?_⟩;refine hask k at_ _ H1 _ hk (by omega) (by rw[yak];omega) S1.r fun H2 hR2 k2=>?_;have S2:=S1.kp k2.a (S1.tbv k2) hR2 (AF.avl _ _ hR2);rw[ybY]at S2;have k02:KpA Av mp H H2:=k1.trans k2.a;have hL2:(L1++[(k,at_)]).length=L1.length+1:=by rw[yak,yaE]
  have hge:(zak ps rows k).getD at_ (0,0)=(zak ps rows k)[at_]'(by omega):=by
   rw[yad,yac (by omega)];rfl
  refine ⟨_,rfl,?_⟩;refine ite2 (fun c2=>?_) (fun c2=>?_)
  ·have c3:=yaB c2;rw[hge]at c3;have hlt:at_ < zal (zak ps rows k) key:=ycc fun z=>(hat at_ (by omega)).2 z c3;refine ⟨fun σ' H'=>σ'=[some (.ref br),some (.int k),some (.int st),some (.ref f),some (.int m),some (.int ((at_:Int)+1))]∧H'=H2,?_,?_⟩
   ·rintro σ' H' ⟨rfl,rfl⟩;exact ⟨n - 1,by omega,at_+1,_,rfl,by omega,by omega,by omega,by omega,S2,k02⟩
   ·exact ⟨_,rfl,_,_,rfl,rfl,rfl,rfl⟩
  ·have hge2:zal (zak ps rows k) key≤at_:=ybo fun z=>c2 (yag (by rw[hge];exact (hat at_ (by omega)).1 z));have e:at_=zal (zak ps rows k) key:=by omega
   refine ⟨_,rfl,?_⟩;rw[e];exact q _ _ S2 k02 (by omega)
 ·have c1:¬ (at_:Int) < (m:Int):=ycq (ybH.mpr c);have e:at_=zal (zak ps rows k) key:=by omega
  refine iteF ?_;refine ⟨_,rfl,?_⟩;rw[e];exact q _ _ S1 k1 (by omega)
def zhs (P:Program)(w:World)(K:Frag)(mg:Str→Option Value)(base:Heap)(mp:Addr):Sp:=fun vs H Q _=>∃(br wa f:Addr) (xs:List V) (ps:List Nat) (rows:List (List Int)) (wy:List Nat) (key:Int) (Av:List Addr) (fp:Addr→Prop) (R:List (Nat×Nat)→Hp→Prop) (L:List (Nat×Nat)),vs=[.ref br,.ref wa,.ref f]∧
 AskF P w K mg base f Av mp fp R ps rows key∧zbe Av mp R ps rows br xs L H∧zaE ps∧za5 rows∧ps.length≤40∧zbp H wa ps wy∧wa∉Av∧L.length≤1000∧(∀ k,k < ps.length+1→(zak ps rows k).length≤1000)∧
 ∀(D:Addr) (zs:List V) (H':Hp) (L':List (Nat×Nat)),zbe Av mp R ps rows br xs (L++L') H'→KpA Av mp H H'→H D=none→H' D=some (.lst zs)→zao K H' (wy.map fun k=>(((zal (zak ps rows k) key:Nat):Int),((ownB rows k key:Nat):Int))) zs→L'.length≤figN (zak ps rows (wy.getD 0 0)).length+2 * (wy.length - 1)→Q (.ref D) H'
theorem zmz (T:Txt K mg){mp:Addr}(qcc:DF K mg "search" zfH zdv)(qaN:FC P w K mg base 5 "first_place" zbH (zjf P w K mg base mp))(qbu:FC P w K mg base 1 "start_in" zcB (zjd K))(qaY:FC P w K mg base 3 "next_place" zb0 (zl6 P w K mg base mp)):FC P w K mg base 6 "search" zdv (zhs P w K mg base mp):=by
 refine qcc.ok qaI (fun vs H Q E h=>?_) (fun f cdv A outer s H vs Q E hr h=>?_)
 ·obtain ⟨br,wa,f,xs,ps,rows,wy,key,Av,fp,R,L,rfl,_⟩:=h;rfl
 obtain ⟨br,wa,f,xs,ps,rows,wy,key,Av,fp,R,L,rfl,AF,S,hT,hR,few,W,nwa,hLn,hFn,q⟩:=h;have hwl:=W.len;have hpos:0 < wy.length:=ybg.mpr W.ne;refine ⟨_,(zaj (zat (i:=3) qaI.nd rfl (Or.inl rfl) (zav qaN hr (zaa (pv 0) (zaa (zaq zax (pv 1) zae (fun _ _=>rfl)) (zaa (pv 2) zad)))))
   (zaj (zat (i:=4) qaI.nd rfl (Or.inl rfl) (zbg (zaa (zbv (zaa (pv 3) (zaa (zaq zax (zaq zaF (zaq zax (pv 0) (zaq zax (pv 1) zae (fun _ _=>rfl)) (fun _ _=>rfl)) zae (fun _ _=>rfl)) (pv 3) (fun _ _=>rfl)) zad))) zad)))
   (zaj (zbb PassesOwn.never rfl (zgg rfl T.qcq (zaa (pv 1) (zaa (zbR zco (pv 1) (zb3 zae) zcX) zad))) (zfn rfl (zaG (zan (i:=5) qaI.nd rfl (Or.inl rfl)) (zaG (zan (i:=6) qaI.nd rfl (Or.inl rfl)) zce))) (zaj (zat (i:=3) qaI.nd rfl (Or.inl rfl) (zav qaY hr (zaa (pv 0) (zaa (pv 6) (zaa (zav qbu hr (zaa (pv 0) (zaa (pv 5) (zaa (pv 3) (zaa (pv 6) zad))))) (zaa (pv 2) zad))))))
   (zag (zaW (zdz F.plainAttrs_list F.slot_list_append F.type_list_append zaN (pv 4) (zaa (zbv (zaa (pv 3) (zaa (zaq zax (zaq zaF (zaq zax (pv 0) (pv 6) (fun _ _=>rfl)) zae (fun _ _=>rfl)) (pv 3) (fun _ _=>rfl)) zad))) zad))))))
   (zag (zas (pv 4)))))),?_⟩
 have hk0:wy.getD 0 0 < ps.length+1:=W.kn _ (zgW hpos);have hw0:atI (wy.map nV) 0=some (nV (wy.getD 0 0)):=zaP (j:=0) (zfk hpos);refine ⟨_,rfl,_,rfl,_,_,_,_,rfl,rfl,SqL.of W.at_,hw0,_,rfl,br,f,xs,ps,rows,wy.getD 0 0,key,Av,fp,R,L,rfl,AF,S,hT,hR,hk0,by omega,hFn _ hk0,fun H1 L1 S1 k1 hL1=>?_⟩;have W1:=S.lst k1 W.at_ nwa;obtain ⟨x0,hx0,b0,o0,j0,ys0,rfl,_,_,hb0,ho0,_,_⟩:=za8 S1.ba hk0;refine ⟨_,rfl,_,rfl,_,rfl,_,_,_,_,rfl,rfl,SqL.of W1,hw0,_,_,_,_,rfl,rfl,SqL.of S1.at_,zaP hx0,_,_,_,_,rfl,rfl,SqT.of hb0,rfl,_,rfl,_,_,_,_,rfl,rfl,SqL.of ho0,zfZ hT hR hk0 key,(by show 2≤sizeLine;decide),fun t ht=>⟨(by show 1≤sizeLine;decide),fun D hD=>?_⟩⟩;have st:=zai ht (.tup [.int ((zal (zak ps rows (wy.getD 0 0)) key:Nat):Int),.int ((ownB rows (wy.getD 0 0) key:Nat):Int)]);have sD:=zai hD (.lst [.ref t]);have hD1:H1 D=none:=st.free hD;obtain ⟨hDn,nDA,nDm⟩:=S1.free k1 hD1;have nfD:¬ fp D:=fun z=>AF.alloc _ _ _ S1.r z hD1;have s13:=st.trans sD;have tb3:=S1.tb.ext s13.ext;have hR3:=AF.keep _ _ _ S1.r fun b o _ e=>s13 b o e;have S3:=S1.kp (.of s13) tb3 hR3 (AF.avl _ _ hR3);have k03:KpA Av mp H _:=k1.trans (.of s13);have h3D:upd (upd H1 t (.tup [.int ((zal (zak ps rows (wy.getD 0 0)) key:Nat):Int),.int ((ownB rows (wy.getD 0 0) key:Nat):Int)])) D (.lst [.ref t]) D=some (.lst [.ref t]):=zac;have h3t:=sD _ _ (zac (H:=H1) (a:=t) (o:=.tup [.int ((zal (zak ps rows (wy.getD 0 0)) key:Nat):Int),.int ((ownB rows (wy.getD 0 0) key:Nat):Int)]));generalize upd (upd H1 t (.tup [.int ((zal (zak ps rows (wy.getD 0 0)) key:Nat):Int),.int ((ownB rows (wy.getD 0 0) key:Nat):Int)])) D (.lst [.ref t])=H3 at S3 k03 h3D h3t ⊢;clear tb3 hR3 s13 sD hD st ht hb0 ho0 hx0;have W3:=S.lst k03 W.at_ nwa;refine ⟨_,rfl,_,rfl,1,rfl,wa,_,rfl,SqL.of W3,fun y hy=>?_⟩;rw[zqI];have sy:=zai hy (.lst ((wy.drop 1).map nV));obtain ⟨hyn,nyA,nym⟩:=S3.free k03 hy;have nDy:D≠y:=zab h3D hy;have tb4:=S3.tb.ext sy.ext;have hR4:=AF.keep _ _ _ S3.r fun b o _ e=>sy b o e;have S4:=S3.kp (.of sy) tb4 hR4 (AF.avl _ _ hR4);have k04:KpA Av mp H _:=k03.trans (.of sy);have h4y:upd H3 y (.lst ((wy.drop 1).map nV)) y=some (.lst ((wy.drop 1).map nV)):=zac;have h4D:=sy _ _ h3D;have h4t:=sy _ _ h3t;generalize upd H3 y (.lst ((wy.drop 1).map nV))=H4 at S4 k04 h4D h4t h4y ⊢;clear tb4 hR4 sy hy h3D h3t S3 k03 W3;refine ⟨wa,y,rfl,⟨_,SqL.of (S.lst k04 W.at_ nwa)⟩,⟨_,SqL.of h4y⟩,?_⟩;have hdl:((wy.drop 1).map nV).length=wy.length - 1:=by rw[yaa,yaY]
 refine zoZ (xs:=wy.map nV) (ys:=(wy.drop 1).map nV) (by rw[hdl,yaa];omega) (fun i σ H5=>∃(x5 x6:Option V) (zs:List V) (L2:List (Nat×Nat)),σ=[some (.ref br),some (.ref wa),some (.ref f),some (.int ((zal (zak ps rows (wy.getD i 0)) key:Nat):Int)),some (.ref D),x5,x6]∧H5 D=some (.lst zs)∧zao K H5 ((wy.take (i+1)).map fun k=>(((zal (zak ps rows k) key:Nat):Int),((ownB rows k key:Nat):Int))) zs∧zbe Av mp R ps rows br xs (L++L2) H5∧KpA Av mp H H5∧L2.length≤figN (zak ps rows (wy.getD 0 0)).length+2 * i∧H5 y=some (.lst ((wy.drop 1).map nV))) ?_ ?_ ?_ ?_
 ·refine ⟨_,_,[.ref t],L1,rfl,h4D,?_,S4,k04,by omega,h4y⟩;rw[zlN _ hpos,yb7];exact .cons ⟨t,_,_,rfl,h4t,rfl,rfl⟩ .nil
 ·rintro i σ H5 _ ⟨x5,x6,zs,L2,rfl,h5,hA,S5,k05,hL2,h5y⟩;exact ⟨SqL.of (S.lst k05 W.at_ nwa),SqL.of h5y⟩
 ·rintro i x x' σ H5 p hx hx' ⟨x5,x6,zs,L2,rfl,h5,hA,S5,k05,hL2,h5y⟩ hp;have hi:i+1 < wy.length:=by
   have:=(yah.mp hx').1;omega
  rw[zfk (by omega)]at hx;cases hx
  rw[List.map_drop,ybJ,Nat.add_comm 1 i,zfk hi]at hx';cases hx'
  have hpar:=W.ch i hi;have hki:wy.getD i 0 < ps.length+1:=W.kn _ (zgW (by omega));have hkj:wy.getD (i+1) 0 < ps.length+1:=W.kn _ (zgW hi);have NO:=zjm hT hR few hki hpar (rows:=rows) key;refine ⟨p,_,rfl,SqT.of zac,rfl,_,_,rfl,_,_,rfl,rfl,?_⟩;have s6:=zai hp (.tup [nV (wy.getD i 0),nV (wy.getD (i+1) 0)]);have hR6:=AF.keep _ _ _ S5.r fun b o _ e=>s6 b o e;have S6:=S5.kp (.of s6) (S5.tb.ext s6.ext) hR6 (AF.avl _ _ hR6);refine ⟨_,rfl,_,rfl,_,rfl,_,rfl,_,rfl,_,rfl,Av,br,ps,rows,xs,wy.getD i 0,wy.getD (i+1) 0,_,rfl,S6.at_,S6.ba,hT,hki,hpar,zb7 _ _,fun H7 s7=>?_⟩;have s57:=s6.trans s7;have hR7:=AF.keep _ _ _ S5.r fun b o _ e=>s57 b o e;have S7:=S5.kp (.of s57) (S5.tb.ext s57.ext) hR7 (AF.avl _ _ hR7);refine ⟨_,rfl,br,f,xs,ps,rows,wy.getD (i+1) 0,_,key,Av,fp,R,_,rfl,AF,S7,hT,hR,hkj,(by have:=zhW _ _ (yab (zak ps rows (wy.getD 0 0)).length);have:=hFn _ hk0;rw[yak];omega),NO.lo,NO.hi,fun H8 L3 S8 k8 hL3=>?_⟩;have k58:KpA Av mp H5 H8:=(KpA.of s57).trans k8;have k08:=k05.trans k58;have h8:=k58 _ _ nDA nDm h5;have h8y:=k58 _ _ nyA nym h5y;obtain ⟨x1,hx1,b1,o1,j1,ys1,rfl,_,_,hb1,ho1,_,_⟩:=za8 S8.ba hkj;have hzl:=hA.length;rw[yaa,yao]at hzl;refine ⟨_,rfl,.inl ⟨rfl,_,SqL.of h8⟩,_,rfl,_,rfl,_,rfl,_,_,_,_,rfl,rfl,SqL.of S8.at_,zaP hx1,_,_,_,_,rfl,rfl,SqT.of hb1,rfl,_,rfl,_,_,_,_,rfl,rfl,SqL.of ho1,zfZ hT hR hkj key,(by show 2≤sizeLine;decide),fun t2 ht2=>?_⟩;have s9:=zai ht2 (.tup [.int ((zal (zak ps rows (wy.getD (i+1) 0)) key:Nat):Int),.int ((ownB rows (wy.getD (i+1) 0) key:Nat):Int)]);have h9t:upd H8 t2 (.tup [.int ((zal (zak ps rows (wy.getD (i+1) 0)) key:Nat):Int),.int ((ownB rows (wy.getD (i+1) 0) key:Nat):Int)]) t2=_:=zac;have h9:=s9 _ _ h8;have h9y:=s9 _ _ h8y;have k09:=k08.trans (.of s9);have hR9:=AF.keep _ _ _ S8.r fun b o _ e=>s9 b o e;have tb9:=S8.tb.ext s9.ext;have hA9:=ziv (H':=upd H8 t2 (.tup [.int ((zal (zak ps rows (wy.getD (i+1) 0)) key:Nat):Int),.int ((ownB rows (wy.getD (i+1) 0) key:Nat):Int)])) (fun b us e=>s9 _ _ (S5.tup k58 e)) hA;generalize upd H8 t2 (.tup [.int ((zal (zak ps rows (wy.getD (i+1) 0)) key:Nat):Int),.int ((ownB rows (wy.getD (i+1) 0) key:Nat):Int)])=H9 at h9t h9 h9y k09 hR9 tb9 hA9 ⊢;have k0D:KpA Av mp H (upd H9 D (.lst (zs++[.ref t2]))):=fun b o n1 n2 e=>by
   rw[zaf (zab e hDn)];exact k09 _ _ n1 n2 e
  have hRD:R (L++L2++L3) (upd H9 D (.lst (zs++[.ref t2]))):=AF.keep _ _ _ hR9 fun b o hb e=>by
   have n:b≠D:=fun z=>by
    rw[z]at hb;exact nfD hb
   rw[zaf n];exact e
  refine ⟨_,_,_,rfl,rfl,h9,zam (by omega),_,_,_,L2++L3,rfl,zac,?_,?_,k0D,?_,?_⟩
  ·rw[zlN _ hi];exact zao.append (zd4 h9 hA9) (.cons ⟨t2,_,_,rfl,by rw[zaf (fun z=>by rw[z,h9]at h9t;cases h9t)];exact h9t,rfl,rfl⟩ .nil)
  ·rw[← ybY];exact S.kp k0D (zlV tb9 h9) hRD (AF.avl _ _ hRD)
  ·rw[yak];omega
  ·rw[zaf (Ne.symm nDy)];exact h9y
 ·rintro σ H5 ⟨x5,x6,zs,L2,rfl,h5,hA,S5,k05,hL2,h5y⟩;rw[hdl]at hA hL2;rw[yar (by omega)]at hA;refine ⟨_,rfl,?_⟩;exact q D zs H5 L2 S5 k05 hDn h5 hA hL2
def plcB (ps:List Nat)(k0 e j:Nat):Bool:=isB ps k0 j && (decide (j=k0) || match par ps j with | some p=>decide (p < e) | none=>false)
theorem zmp {ps:List Nat}(T:zaE ps){k0 e:Nat}:plcB ps k0 e e=isB ps k0 e:=by
 unfold plcB;cases h:isB ps k0 e with
 | false=>rfl
 | true=>
  rw[Bool.true_and];by_cases c:e=k0
  ·rw[yag c];rfl
  ·cases hp:par ps e with
   | none=>
    exfalso;have z:e=0:=by
     cases e with
     | zero=>rfl
     | succ e=>
      have hb:=h;unfold isB wayL at hb;unfold wayF at hb;rw[if_neg c,hp]at hb;cases hb
    rw[z]at h c;have:=zdE T (show 0 < k0 by omega);rw[h]at this;cases this
   | some p=>
    have:=(zaR T hp).1;show (decide (e=k0) || decide (p < e))=true;rw[yag this,Bool.or_true]
theorem zlp {ps:List Nat}(T:zaE ps){k0 e j:Nat}(hk:k0≤e)(hp:par ps j=some e):isB ps k0 j=isB ps k0 e:=zbS T (fun z=>by have:=(zaR T hp).1;omega) hp
theorem zmo {ps:List Nat}(T:zaE ps){k0 e:Nat}(hk:k0≤e)(j:Nat):plcB ps k0 (e+1) j=(plcB ps k0 e j || (isB ps k0 e && decide (j∈zaH ps e (ps.length+1)))):=by
 unfold plcB;cases hp:par ps j with
 | none=>
  have hn:decide (j∈zaH ps e (ps.length+1))=false:=yai fun z=>by
   rw[(zaD.mp z).2]at hp;cases hp
  rw[hn,ybx,ybN];simp
 | some p=>
  have hm:j∈zaH ps e (ps.length+1)↔p=e:=by
   rw[zaD,hp];exact ⟨fun z=>yae z.2,fun z=>⟨(zaR T hp).2,by rw[z]⟩⟩
  by_cases c:p=e
  ·subst c;rw[yag (hm.mpr rfl),← zlp T hk hp];cases isB ps k0 j <;> simp
  ·rw[yai (fun z=>c (hm.mp z)),ybx,ybN];congr 2;show decide (p < e+1)=decide (p < e);exact decide_eq_decide.mpr (by omega)
theorem zis {ps:List Nat}(T:zaE ps){k0:Nat}(j:Nat):plcB ps k0 k0 j=decide (j=k0):=by
 unfold plcB;by_cases c:j=k0
 ·subst c;rw[zcv,yag rfl];rfl
 ·rw[yai c,yb1];cases hp:par ps j with
  | none=>rw[ybx]
  | some p=>
   show (isB ps k0 j && decide (p < k0))=false;by_cases d:p < k0
   ·rw[zbS T c hp,zdE T d];rfl
   ·rw[yai d,ybx]
theorem zhU {P:Nat→Bool}{c:Nat}(hc:P c=false):∀{l:List Nat},l.Nodup→c∈l→(l.filter fun j=>P j || decide (j=c)).length=(l.filter P).length+1
 | [],_,h=>absurd h yax
 | a::l,hn,h=>by
  rw[yaK]at hn;by_cases e:a=c
  ·subst e;rw[yaL (by simp),yaS (by simp[hc]),yaI];congr 2;refine ybZ fun j hj=>?_;have:j≠a:=fun z=>hn.1 (z ▸ hj);simp[this]
  ·have ih:=zhU hc hn.2 ((yaj.mp h).resolve_left fun z=>e z.symm);cases hp:P a with
   | true=>rw[yaL (by simp[hp]),yaL hp,yaI,yaI,ih]
   | false=>rw[yaS (by simp[hp,e]),yaS (by simp[hp]),ih]
theorem zpQ {H:Hp}{Pt b:Addr}{pos:Pos}{q:Str}{o' o:HO}(x:zaC H Pt pos q)(hb:H b=some o')(n1:∀ tab,o'≠.tbl tab)(n2:∀ F,o'≠.ext F):zaC (upd H b o) Pt pos q:=by
 obtain ⟨tab,h1,h2,h3⟩:=x.ex;have m1:Pt≠b:=fun z=>by
  rw[z,hb]at h1;exact n1 _ (yae h1)
 refine ⟨tab,by rw[zaf m1];exact h1,h2,?_⟩;rcases h3 with h3 | ⟨c,h3,h4⟩
 ·exact .inl h3
 ·refine .inr ⟨c,h3,?_⟩;have m2:c≠b:=fun z=>by
   rw[z]at h4;rw[show H b=_ from h4]at hb;exact n2 _ (yae hb).symm
  show upd H b o c=_;rw[zaf m2];exact h4
section
variable {P:Program}{w:World}{K:Frag}{mg:Str→Option Value}{base:Heap}{f:Addr}{Av:List Addr}{mp:Addr}{fp:Addr→Prop}{R:List (Nat×Nat)→Hp→Prop}{ps:List Nat}{rows:List (List Int)}{key:Int}{br:Addr}{xs:List V}{L L5:List (Nat×Nat)}{H H5 H6:Hp}
theorem zbe.put {b:Addr}{o':HO}(AF:AskF P w K mg base f Av mp fp R ps rows key)(S:zbe Av mp R ps rows br xs L H)(S5:zbe Av mp R ps rows br xs L5 H5)(k:KpA Av mp H H5)(hb:H b=none)(nf:¬ fp b)(h5:H5 b=some o')(n1:∀ tab,o'≠.tbl tab)(n2:∀ F,o'≠.ext F)(o:HO) :
  zbe Av mp R ps rows br xs L5 (upd H5 b o)∧KpA Av mp H (upd H5 b o):=by
 have k':KpA Av mp H (upd H5 b o):=fun c u m1 m2 e=>by
  rw[zaf (zab e hb)];exact k _ _ m1 m2 e
 have hR:R L5 (upd H5 b o):=AF.keep _ _ _ S5.r fun c u hc e=>by
  have n:c≠b:=fun z=>by
   rw[z]at hc;exact nf hc
  rw[zaf n];exact e
 exact ⟨S.kp k' (zpQ S5.tb h5 n1 n2) hR (AF.avl _ _ hR),k'⟩
theorem zbe.more (AF:AskF P w K mg base f Av mp fp R ps rows key)(S5:zbe Av mp R ps rows br xs L5 H5)(s:Same H5 H6):zbe Av mp R ps rows br xs L5 H6:=by
 have hR:=AF.keep _ _ _ S5.r fun b o _ e=>s b o e;exact S5.kp (.of s) (S5.tb.ext s.ext) hR (AF.avl _ _ hR)
end
def zbJ (H:Hp)(ps:List Nat)(rows:List (List Int))(key:Int)(k:Nat)(z:V):Prop:=∃ t,z=.ref t∧H t=some (.tup [.int (k:Nat),.int ((zal (zak ps rows k) key:Nat):Int),.int ((ownB rows k key:Nat):Int)])
theorem zbn {H H':Hp}{ps:List Nat}{rows:List (List Int)}{key:Int}{ks:List Nat}{zs:List V}(k:∀ b us,H b=some (.tup us)→H' b=some (.tup us))(h:Paired (zbJ H ps rows key) ks zs):Paired (zbJ H' ps rows key) ks zs:=zaJ (fun _ _ ⟨t,e1,e2⟩=>⟨t,e1,k _ _ e2⟩) h
def zmd (P:Program)(w:World)(K:Frag)(mg:Str→Option Value)(base:Heap)(mp:Addr):Sp:=fun vs H Q _=>∃(br f:Addr) (xs:List V) (ps:List Nat) (rows:List (List Int)) (k0:Nat) (key:Int) (Av:List Addr) (fp:Addr→Prop) (R:List (Nat×Nat)→Hp→Prop) (L:List (Nat×Nat)),vs=[.ref br,.int k0,.ref f]∧
 AskF P w K mg base f Av mp fp R ps rows key∧zbe Av mp R ps rows br xs L H∧zaE ps∧za5 rows∧ps.length≤40∧k0 < ps.length+1∧L.length≤1000∧(∀ k,k < ps.length+1→(zak ps rows k).length≤1000)∧
 ∀(D:Addr) (zs:List V) (H':Hp) (L':List (Nat×Nat)),zbe Av mp R ps rows br xs (L++L') H'→KpA Av mp H H'→H D=none→H' D=some (.lst zs)→Paired (zbJ H' ps rows key) (benL ps k0 (ps.length+1)) zs→
  L'.length≤figN (zak ps rows k0).length+2 * ((benL ps k0 (ps.length+1)).length - 1)→Q (.ref D) H'
theorem zoD (T:Txt K mg){mp:Addr}(qaw:DF K mg "search_beneath" zbM zbC)(qaN:FC P w K mg base 5 "first_place" zbH (zjf P w K mg base mp))(qaY:FC P w K mg base 3 "next_place" zb0 (zl6 P w K mg base mp)):FC P w K mg base 6 "search_beneath" zbC (zmd P w K mg base mp):=by
 refine qaw.ok qad (fun vs H Q E h=>?_) (fun f cdv A outer s H vs Q E hr h=>?_)
 ·obtain ⟨br,f,xs,ps,rows,k0,key,Av,fp,R,L,rfl,_⟩:=h;rfl
 obtain ⟨br,f,xs,ps,rows,k0,key,Av,fp,R,L,rfl,AF,S,hT,hR,few,hk0,hLn,hFn,q⟩:=h;refine ⟨_,(zaj (zat (i:=3) qad.nd rfl (Or.inl rfl) (zmr (zfV (pv 1) (zav qaN hr (zaa (pv 0) (zaa (pv 1) (zaa (pv 2) zad)))) zmm) rfl rfl (by simp) (by decide)))
   (zaj (zat (i:=4) qad.nd rfl (Or.inl rfl) (zbg zad))
   (zaj (zbb PassesOwn.never rfl (zdw rfl T.qao (zaa (pv 1) (zaa (zau zar rfl T.qat boot_len (zaa (pv 0) zad)) zad))) (zan (i:=5) qad.nd rfl (Or.inl rfl)) (zag (zbu (zay (zrt (zdr hr)) (pv 5) (pv 3) (by with_unfolding_all rfl)) (zaj (zat (i:=6) qad.nd rfl (Or.inl rfl) (zde (zdr hr) (pv 3) (pv 5) (fun _ _=>rfl)))
   (zaj (zaW (zdz F.plainAttrs_list F.slot_list_append F.type_list_append zaN (pv 4) (zaa (zbv (zaa (pv 5) (zaa (pv 6) (zaa (zaq zax (zaq zaF (zaq zax (pv 0) (pv 5) (fun _ _=>rfl)) zae (fun _ _=>rfl)) (pv 6) (fun _ _=>rfl)) zad)))) zad)))
   (zag (zbb PassesOwn.never rfl (za1 (zaq zaF (zaq zax (pv 0) (pv 5) (fun _ _=>rfl)) zae (fun _ _=>rfl))) (zan (i:=7) qad.nd rfl (Or.inl rfl)) (zag (zel (zdr hr) (pv 3) (zaq zaF (pv 7) zae (fun _ _=>rfl)) (zav qaY hr (zaa (pv 0) (zaa (zaq zaF (pv 7) zae (fun _ _=>rfl)) (zaa (zaq zax (zaq zaF (pv 7) zae (fun _ _=>rfl)) (pv 6) (fun _ _=>rfl)) (zaa (pv 2) zad))))) rfl)))))) zaI)))
   (zag (zas (pv 4)))))),?_⟩
 have hxl:=Paired.length S.ba;rw[yaR]at hxl;intro pl hpl;have spl:=zai hpl (.dK []);obtain ⟨_,npA,npm⟩:=S.free (fun _ _ _ _ h=>h) hpl;have nfp:¬ fp pl:=fun z=>AF.alloc _ _ _ S.r z hpl;refine ⟨_,rfl,_,rfl,_,rfl,_,rfl,br,f,xs,ps,rows,k0,key,Av,fp,R,L,rfl,AF,S.more AF spl,hT,hR,hk0,by omega,hFn _ hk0,fun H1 L1 S1 k1 hL1=>?_⟩;have h1p:H1 pl=some (.dK []):=k1 _ _ npA npm zac;refine ⟨h1p,[(.inl (k0:Int),.int ((zal (zak ps rows k0) key:Nat):Int))],rfl,by show 1≤15;decide,?_⟩;have k01:KpA Av mp H H1:=KpA.trans (.of spl) k1;obtain ⟨S2,k02⟩:=zbe.put AF S S1 k01 hpl nfp h1p (fun _ z=>nomatch z) (fun _ z=>nomatch z) (.dK (zdA [] [(.inl (k0:Int),.int ((zal (zak ps rows k0) key:Nat):Int))]));have h2p:upd H1 pl (.dK (zdA [] [(.inl (k0:Int),.int ((zal (zak ps rows k0) key:Nat):Int))])) pl=some (.dK [(.inl (k0:Int),.int ((zal (zak ps rows k0) key:Nat):Int))]):=zac;generalize upd H1 pl (.dK (zdA [] [(.inl (k0:Int),.int ((zal (zak ps rows k0) key:Nat):Int))]))=H2 at S2 k02 h2p ⊢;refine ⟨(by show 0≤sizeLine;decide),fun D hD=>?_⟩;have sD:=zai hD (.lst []);obtain ⟨hDn,nDA,nDm⟩:=S2.free k02 hD;have nfD:¬ fp D:=fun z=>AF.alloc _ _ _ S2.r z hD;have npD:pl≠D:=zab h2p hD;have S3:=S2.more AF sD;have k03:KpA Av mp H _:=k02.trans (.of sD);have h3p:=sD _ _ h2p;have h3D:upd H2 D (.lst []) D=some (.lst []):=zac;generalize upd H2 D (.lst [])=H3 at S3 k03 h3p h3D ⊢;refine ⟨_,rfl,_,rfl,_,_,rfl,.inl (SqL.of S3.at_),k0,_,rfl,⟨by omega,by omega,by omega,by omega⟩,?_⟩;have en:(((xs.length:Nat):Int) - (k0:Int)).toNat=ps.length+1 - k0:=by omega
 rw[en];refine zby (n:=ps.length+1 - k0) (fun i σ H5=>∃(x5 x6 x7:Option V) (kvs:List (Key×V)) (zs:List V) (L5:List (Nat×Nat)),σ=[some (.ref br),some (.int k0),some (.ref f),some (.ref pl),some (.ref D),x5,x6,x7]∧H5 pl=some (.dK kvs)∧(∀ j:Nat,valV kvs (.inl (j:Int))=if plcB ps k0 (k0+i) j=true then some (.int ((zal (zak ps rows j) key:Nat):Int)) else none)∧kvs.length=((List.range (ps.length+1)).filter (plcB ps k0 (k0+i))).length∧
  H5 D=some (.lst zs)∧Paired (zbJ H5 ps rows key) (benL ps k0 (k0+i)) zs∧zbe Av mp R ps rows br xs (L++L5) H5∧KpA Av mp H H5∧L5.length+2≤figN (zak ps rows k0).length+2 * kvs.length) ?_ ?_ ?_
 ·refine ⟨_,_,_,_,[],L1,rfl,h3p,fun j=>?_,?_,h3D,?_,S3,k03,by show _≤_+2 * 1;omega⟩
  ·rw[ybF,zis hT];unfold valV;by_cases c:j=k0
   ·subst c;rw[yag rfl,List.find?_cons_of_pos (by simp)];rfl
   ·rw[yai c,List.find?_cons_of_neg (by simp;omega)];rfl
  ·have e:(List.range (ps.length+1)).filter (plcB ps k0 (k0+0))=(List.range (ps.length+1)).filter fun j=>(fun _=>false) j || decide (j=k0):=ybZ fun j _=>by rw[ybF,zis hT,yb1]
   rw[e,zhU rfl ycd (yaW.mpr hk0),ybu.mpr (fun _ _=>by simp)];rfl
  ·have e:benL ps k0 (k0+0)=[]:=ybu.mpr fun j hj=>by
    have:=yaW.mp hj;rw[zdE hT (by omega)];decide
   rw[e];exact .nil
 ·rintro i σ H5 hi ⟨x5,x6,x7,kvs,zs,L5,rfl,h5p,hval,hkl,h5D,hTr,S5,k05,hL5⟩;have ee:(k0:Int)+(i:Int)=((k0+i:Nat):Int):=by omega
  rw[ee];have he:k0+i < ps.length+1:=by omega
  have hke:k0≤k0+i:=by omega
  have hsucc:=zmo hT hke;have hself:=zmp hT (k0:=k0) (e:=k0+i);have hev:=hval (k0+i);have hbs:benL ps k0 (k0+(i+1))=benL ps k0 (k0+i)++(if isB ps k0 (k0+i)=true then [k0+i] else []):=zgK
  have hcn:=zes ps (k0+i) (ps.length+1);have hcm:=fun j=>zaD (ps:=ps) (k:=k0+i) (n:=ps.length+1) (j:=j);have ec:k0+(i+1)=k0+i+1:=by omega
  rw[ec]at hbs;rw[ec];generalize k0+i=e at *;have hg:=DGet.k (k:=(.inl (e:Int))) h5p;rw[hev,hself]at hg;refine ⟨_,rfl,_,rfl,pl,_,rfl,hg,_,rfl,?_⟩;cases hB:isB ps k0 e with
  | false=>
   refine iteF ?_;refine ⟨_,_,_,kvs,zs,L5,rfl,h5p,fun j=>?_,?_,h5D,?_,S5,k05,hL5⟩
   ·rw[hval j,hsucc j,hB,Bool.false_and,ybN]
   ·rw[hkl];congr 1;exact ybZ fun j _=>by rw[hsucc j,hB,Bool.false_and,ybN]
   ·rw[hbs,hB,if_neg (by decide),yaN];exact hTr
  | true=>
   rw[hB]at hg hbs;rw[if_pos rfl]at hg hbs;refine iteT ?_;refine ⟨_,rfl,_,rfl,pl,_,rfl,hg,?_⟩;obtain ⟨x,hx,b,o,jj,ys,rfl,_,njA,hb,ho,hj,hJ⟩:=za8 S5.ba he;have hzl:=Paired.length hTr;have hbl:=zhZ ps k0 e;refine ⟨_,rfl,.inl ⟨rfl,_,SqL.of h5D⟩,_,rfl,_,rfl,_,rfl,_,rfl,_,_,_,_,rfl,rfl,SqL.of S5.at_,zaP hx,_,_,_,_,rfl,rfl,SqT.of hb,rfl,_,rfl,_,_,_,_,rfl,rfl,SqL.of ho,zfZ hT hR he key,(by show 3≤sizeLine;decide),fun t ht=>?_⟩;have s6:=zai ht (.tup [.int (e:Int),.int ((zal (zak ps rows e) key:Nat):Int),.int ((ownB rows e key:Nat):Int)]);have S6:=S5.more AF s6;have k06:KpA Av mp H _:=k05.trans (.of s6);have h6t:upd H5 t (.tup [.int (e:Int),.int ((zal (zak ps rows e) key:Nat):Int),.int ((ownB rows e key:Nat):Int)]) t=_:=zac;have h6D:=s6 _ _ h5D;have h6p:=s6 _ _ h5p;have hTr6:=zbn (fun b us h=>s6 b _ h) hTr;have h6b:=s6 _ _ hb;have h6j:=s6 _ _ hj;have hJ6:=zaJ (fun _ _ h=>zbL.same s6 h) hJ;generalize upd H5 t (.tup [.int (e:Int),.int ((zal (zak ps rows e) key:Nat):Int),.int ((ownB rows e key:Nat):Int)])=H6 at S6 k06 h6t h6D h6p hTr6 h6b h6j hJ6 ⊢;refine ⟨_,_,_,rfl,rfl,h6D,zam (by omega),?_⟩;obtain ⟨S7,k07⟩:=zbe.put AF S S6 k06 hDn nfD h6D (fun _ z=>nomatch z) (fun _ z=>nomatch z) (.lst (zs++[.ref t]));have nD:∀{x:Addr} {us:List V},H6 x=some (.tup us)→x≠D:=fun {x us} h z=>by
    rw[z,h6D]at h;cases h
   have hTr7:Paired (zbJ (upd H6 D (.lst (zs++[.ref t]))) ps rows key) (benL ps k0 (e+1)) (zs++[.ref t]):=by
    rw[hbs];exact zbl (zbn (fun b us h=>by rw[zaf (nD h)];exact h) hTr6) ⟨t,rfl,by rw[zaf (nD h6t)];exact h6t⟩
   have h7D:upd H6 D (.lst (zs++[.ref t])) D=some (.lst (zs++[.ref t])):=zac;have h7p:upd H6 D (.lst (zs++[.ref t])) pl=some (.dK kvs):=by rw[zaf npD];exact h6p
   generalize upd H6 D (.lst (zs++[.ref t]))=H7 at S7 k07 hTr7 h7D h7p ⊢;clear hJ6 h6j h6b hTr6 h6p h6D h6t k06 S6 s6 ht hJ hj hb ho hx;obtain ⟨x,hx,b,o,jj,ys,rfl,_,njA,hb,ho,hj,hJ⟩:=za8 S7.ba he;have hyl:=Paired.length hJ;have hcl:=zcy ps e (ps.length+1);refine ⟨_,rfl,_,rfl,_,_,_,_,rfl,rfl,SqL.of S7.at_,zaP hx,_,_,_,_,rfl,rfl,SqT.of hb,rfl,jj,rfl,⟨_,SqL.of hj⟩,?_⟩;have npj:jj≠pl:=fun z=>by
    rw[z,h7p]at hj;cases hj
   refine zdk (xs:=ys) (fun m σ H8=>∃(x7:Option V) (kvs:List (Key×V)) (L8:List (Nat×Nat)),σ=[some (.ref br),some (.int k0),some (.ref f),some (.ref pl),some (.ref D),some (.int e),some (.int ((zal (zak ps rows e) key:Nat):Int)),x7]∧H8 pl=some (.dK kvs)∧(∀ j:Nat,valV kvs (.inl (j:Int))=if (plcB ps k0 e j || decide (j∈(zaH ps e (ps.length+1)).take m))=true then some (.int ((zal (zak ps rows j) key:Nat):Int)) else none)∧kvs.length=((List.range (ps.length+1)).filter fun j=>plcB ps k0 e j || decide (j∈(zaH ps e (ps.length+1)).take m)).length∧
    zbe Av mp R ps rows br xs (L++L8) H8∧KpA Av mp H H8∧L8.length+2≤figN (zak ps rows k0).length+2 * kvs.length∧∀ b o,b∉Av→b≠mp→b≠pl→H7 b=some o→H8 b=some o) ?_ ?_ ?_ ?_
   ·refine ⟨_,kvs,L5,rfl,h7p,fun j=>?_,?_,S7,k07,hL5,fun _ _ _ _ _ h=>h⟩
    ·rw[hval j];simp
    ·rw[hkl];simp
   ·rintro m σ H8 _ ⟨x7,kvs,L8,rfl,_,_,_,_,_,_,k78⟩;exact SqL.of (k78 _ _ njA (S7.nm hj (fun _ z=>nomatch z)) npj hj)
   ·rintro m x σ H8 hxm ⟨x7,kvs,L8,rfl,h8p,hval8,hkl8,S8,k08,hL8,k78⟩;obtain ⟨c,hc,a,sa,rfl,nsA,ha,hsa⟩:=zem hJ hxm;have hmi:=(yah.mp hc).1;have hcm2:=(hcm c).mp (yaP hc);have hpar:=hcm2.2;have hec:=(zaR hT hpar).1;have npt:∀{x:Addr} {us:List V},H7 x=some (.tup us)→x≠pl:=fun {x us} h z=>by
     rw[z,h7p]at h;cases h
    have h8a:=k78 _ _ (S7.na ha (fun _ z=>nomatch z)) (S7.nm ha (fun _ z=>nomatch z)) (npt ha) ha;have h8s:=k78 _ _ nsA (S7.nm hsa (fun _ z=>nomatch z)) (fun z=>by rw[z,h7p]at hsa;cases hsa) hsa
    have NO:=zjm hT hR few he hpar (rows:=rows) key;have hle:=zb7 (zak ps rows e) key;have hat:atI ((zfa (zak ps rows e) (zak ps rows c)).map nV) ((zal (zak ps rows e) key:Nat):Int)=some (nV (stN (zak ps rows c) ((zak ps rows e).take (zal (zak ps rows e) key)))):=zaP (by
     rw[yal];unfold zfa;rw[yal,ya9 (by omega)];rfl)
    have hno:(plcB ps k0 e c || decide (c∈(zaH ps e (ps.length+1)).take m))=false:=by
     have h1:plcB ps k0 e c=false:=by
      unfold plcB;rw[hpar,yai (show ¬ c=k0 by omega)];show (isB ps k0 c && (false || decide (e < e)))=false;rw[yai (yaM _),ybN,ybx]
     have h2:decide (c∈(zaH ps e (ps.length+1)).take m)=false:=yai fun z=>by
      obtain ⟨i',hi',hi2⟩:=ya4 z;rw[yao]at hi';rw[List.getElem_take]at hi2;have h3:=(yah.mp hc).2;exact ya6.mp hcn i' m (by omega) hmi (by omega) (hi2.trans h3.symm)
     rw[h1,h2];rfl
    have hnone:=hval8 c;rw[hno,if_neg (by decide)]at hnone;refine ⟨_,rfl,_,rfl,_,_,_,_,rfl,rfl,SqT.of h8a,rfl,_,rfl,_,_,_,_,rfl,rfl,SqT.of h8a,rfl,_,rfl,_,_,_,_,rfl,rfl,SqL.of h8s,hat,_,rfl,br,f,xs,ps,rows,c,_,key,Av,fp,R,_,rfl,AF,S8,hT,hR,hcm2.1,(by have:=zhW _ _ (yab (zak ps rows k0).length);have:=hFn _ hk0;have h9:kvs.length≤ps.length+1:=by { rw[hkl8];exact yat (ybb _ _) (by rw[yaR];exact yab _) };rw[yak];omega),NO.lo,NO.hi,fun H9 L9 S9 k9 hL9=>?_⟩;have k09:=k08.trans k9;have h9p:=k9 _ _ npA npm h8p;have h9a:=S8.tup k9 h8a;have hkl9:kvs.length≤ps.length+1:=by
     rw[hkl8];exact yat (ybb _ _) (by rw[yaR];exact yab _)
    obtain ⟨S10,k010⟩:=zbe.put AF S S9 k09 hpl nfp h9p (fun _ z=>nomatch z) (fun _ z=>nomatch z) (.dK (putK kvs (.inl (c:Int)) (.int ((zal (zak ps rows c) key:Nat):Int))));refine ⟨_,rfl,_,rfl,_,_,_,_,rfl,rfl,SqT.of h9a,rfl,pl,_,rfl,DPut.k (k:=.inl (c:Int)) h9p (zam (by omega)),?_⟩;have htk:(zaH ps e (ps.length+1)).take (m+1)=(zaH ps e (ps.length+1)).take m++[c]:=by
     rw[yaA hmi,(yah.mp hc).2]
    have hor:∀ j,(plcB ps k0 e j || decide (j∈(zaH ps e (ps.length+1)).take (m+1)))=((plcB ps k0 e j || decide (j∈(zaH ps e (ps.length+1)).take m)) || decide (j=c)):=fun j=>by
     rw[htk,Bool.or_assoc];congr 1;simp
    refine ⟨_,_,L8++L9,rfl,zac,fun j=>?_,?_,by rw[← ybY];exact S10,k010,?_,fun b o n1 n2 n3 h=>?_⟩
    ·rw[znW,hor j];by_cases z:j=c
     ·subst z;rw[if_pos rfl,yag rfl,Bool.or_true,if_pos rfl]
     ·rw[if_neg (fun y=>z (by have:=Sum.inl.inj y;omega)),hval8 j,yai z,ybN]
    ·rw[zdc _ hnone,yak,yaE,hkl8];have e2:((List.range (ps.length+1)).filter fun j=>plcB ps k0 e j || decide (j∈(zaH ps e (ps.length+1)).take (m+1)))=(List.range (ps.length+1)).filter fun j=>(fun j=>plcB ps k0 e j || decide (j∈(zaH ps e (ps.length+1)).take m)) j || decide (j=c):=ybZ fun j _=>hor j;rw[e2,zhU (P:=fun j=>plcB ps k0 e j || decide (j∈(zaH ps e (ps.length+1)).take m)) hno ycd (yaW.mpr hcm2.1)]
    ·rw[zdc _ hnone,yak,yak,yaE];omega
    ·rw[zaf n3];exact k9 _ _ n1 n2 (k78 _ _ n1 n2 n3 h)
   ·rintro σ H8 ⟨x7,kvs,L8,rfl,h8p,hval8,hkl8,S8,k08,hL8,k78⟩;rw[yar (by omega)]at hkl8;refine ⟨_,_,_,kvs,_,L8,rfl,h8p,fun j=>?_,?_,k78 _ _ nDA nDm (Ne.symm npD) h7D,?_,S8,k08,hL8⟩
    ·rw[hval8 j,yar (by omega),hsucc j,hB,Bool.true_and]
    ·rw[hkl8];congr 1;exact ybZ fun j _=>by rw[hsucc j,hB,Bool.true_and]
    ·exact zbn (fun b us h=>k78 _ _ (S7.na h (fun _ z=>nomatch z)) (S7.nm h (fun _ z=>nomatch z)) (fun z=>by rw[z,h7p]at h;cases h) h) hTr7
 rintro σ H5 ⟨x5,x6,x7,kvs,zs,L5,rfl,h5p,hval,hkl,h5D,hTr,S5,k05,hL5⟩;have en2:k0+(ps.length+1 - k0)=ps.length+1:=by omega
 rw[en2]at hTr hkl;refine ⟨_,rfl,q D zs H5 L5 S5 k05 hDn h5D hTr ?_⟩;have hle:((List.range (ps.length+1)).filter (plcB ps k0 (ps.length+1))).length≤(benL ps k0 (ps.length+1)).length:=by
  unfold benL;rw[← List.countP_eq_length_filter,← List.countP_eq_length_filter];refine List.countP_mono_left fun j _ hj=>?_;unfold plcB at hj;exact (Bool.and_eq_true_iff.mp hj).1
 omega
def Kp0 (H H':Hp):Prop:=∀ b o,(∀ tab,o≠.tbl tab)→H b=some o→H' b=some o
theorem zdg {K:Frag}{H H':Hp}(k:Kp0 H H'):∀{es:List (Int×Int)} {ws:List V},zao K H es ws→zao K H' es ws
 | _,_,.nil=>.nil
 | _,_,.cons h t=>by
  refine .cons ?_ (zdg k t);obtain ⟨a,x1,x2,rfl,hT,e1,e2⟩:=(show hasP K H _ _ from h);exact ⟨a,x1,x2,rfl,k _ _ (fun _ z=>nomatch z) hT,e1,e2⟩
theorem ze4 {K:Frag}{H H':Hp}{ps:List Nat}{rows:List (List Int)}{js:List Nat}{qs:List Addr}(k:Kp0 H H')(h:zaB K H ps rows js qs):zaB K H' ps rows js qs:=zaJ (fun j q ⟨ws,h1,h2⟩=>⟨ws,k _ _ (fun _ z=>by cases z) h1,zdg k h2⟩) h
theorem zqK {H H':Hp}{ps:List Nat}{rows:List (List Int)}{js:List Nat}{xs:List V}(k:Kp0 H H')(h:Paired (BrAt [] H ps rows) js xs):Paired (BrAt [] H' ps rows) js xs:=zaJ (fun j x ⟨b,o,j',ys,h1,h2,h3,h4,h5,h6,h7⟩=>
 ⟨b,o,j',ys,h1,h2,h3,k _ _ (fun _ z=>by cases z) h4,k _ _ (fun _ z=>by cases z) h5,k _ _ (fun _ z=>by cases z) h6,zaJ (fun c y ⟨a,s,g1,g2,g3,g4⟩=>⟨a,s,g1,g2,k _ _ (fun _ z=>by cases z) g3,k _ _ (fun _ z=>by cases z) g4⟩) h7⟩) h
theorem zjb {σ:L2.St}{H:Hp}{Q:Bool→Hp→Prop}(h:Q true H):tYes σ H Q:=h
theorem Kp0.trans {H H1 H2:Hp}(a:Kp0 H H1)(b:Kp0 H1 H2):Kp0 H H2:=fun c o n h=>b c o n (a c o n h)
theorem Kp0.of {H H1:Hp}(a:Same H H1):Kp0 H H1:=fun c o _ h=>a c o h
theorem Kp0.tup {H H1:Hp}(a:Kp0 H H1){b:Addr}{us:List V}(h:H b=some (.tup us)):H1 b=some (.tup us):=a _ _ (fun _ z=>nomatch z) h
theorem Kp0.lst {H H1:Hp}(a:Kp0 H H1){b:Addr}{us:List V}(h:H b=some (.lst us)):H1 b=some (.lst us):=a _ _ (fun _ z=>nomatch z) h
theorem zmi {H H':Hp}(e:Kp0 H H'):∀{as:List Addr} {rows:List (List Int)},zaU H as rows→zaU H' as rows
 | _,_,.nil=>.nil
 | _,_,.cons h t=>.cons (e.tup h) (zmi e t)
theorem zey {H H':Hp}{st t rs:Addr}{ps:List Nat}{rows:List (List Int)}{as:List Addr}(e:Kp0 H H')(S:zaO H st ps rows t rs as):zaO H' st ps rows t rs as:=
 ⟨e.tup S.st,e.tup S.tr,e.tup S.rs,zmi e S.at_,S.len,S.T,S.R,S.few,S.keys⟩
theorem zf9 {H H':Hp}{wa:Addr}{ps w:List Nat}(e:Kp0 H H')(h:zbp H wa ps w):zbp H' wa ps w:=⟨e.lst h.at_,h.len,h.ne,h.ch,h.kn⟩
theorem zrB {L d:Addr}{H H':Hp}(s:LS K L d H)(g:Kp0 H H'):LS K L d H':=by
 obtain ⟨ns,a,l,e,q⟩:=s.ex;refine ⟨ns,a,l,g _ _ (fun _ z=>nomatch z) e,?_⟩;rcases q with (q | ⟨o,q⟩) | q
 ·exact .inl (.inl (g _ _ (fun _ z=>nomatch z) q))
 ·exact .inl (.inr ⟨o,g _ _ (fun _ z=>nomatch z) q⟩)
 ·exact .inr q
theorem zob {rows:List (List Int)}{r:List Int}(h:r∈rows):r.length≤ze1 rows:=by
 unfold ze1
 induction rows with
 | nil=>cases h
 | cons a l ih=>
  rw[yaw,yaU];rcases yaj.mp h with z | z
  ·rw[z];omega
  ·have:=ih z;omega
theorem zre {rows:List (List Int)}{k:Nat}(h:k < rows.length):zbF rows k∈rows:=by
 unfold zbF;rw[yad,yac h];exact yaG h
theorem zaM {H:Hp}{Pt:Addr}{pos:Pos}{q:Str}(x:zaC H Pt pos q):∃ tab,H Pt=some (.tbl tab):=by
 obtain ⟨tab,e,_⟩:=x.ex;exact ⟨tab,e⟩
theorem ziy (T:Txt K mg)(qaZ:DF K mg "_law_children" zcN zct):FC P w K mg base 1 "_law_children" zct (zc0 K):=by
 refine qaZ.ok qb1 (fun vs H Q E h=>?_) (fun f cdv A outer s H vs Q E hr h=>?_)
 ·obtain ⟨t,ps,k,rfl,_⟩:=h;rfl
 obtain ⟨t,ps,k,rfl,ht,hz,q⟩:=h;refine ⟨_,(zag (zas (zbd (N:=["_law_k","_law_tree_here","_law_knot"]) (own:=1) (cap:=[0,1]) rfl (zb4 rfl T.qao (zaa (zau zar rfl T.qat boot_len (zaa (pv 0) zad)) zad)) ⟨rfl,rfl,rfl,rfl,rfl,rfl⟩ (fun _ _ _ _ _=>(zan (i:=0) (show List.Nodup (["_law_k","_law_tree_here","_law_knot"]:List Str) by decide +kernel) rfl (Or.inl rfl))) (fun _ _ _ _ _=>(zek (zay zeo (zaq (zbr (K:=K)) (pv 1) (pv 0) (fun _ _=>rfl)) (pv 2) (zaA _)))) (fun _ _ _ _ _=>(pv 0))))),?_⟩;refine ⟨_,rfl,_,_,rfl,.inr (SqT.of ht),_,rfl,by omega,by rw[zaK];omega,fun D hD=>?_⟩;have el:((((zc7 ps).length:Nat):Int)).toNat=ps.length+1:=by rw[zaK,ya7]
 rw[el];refine zfi (n:=ps.length+1) (fun j σ H3=>∃ x0:Option V,σ=[x0,some (.ref t),some (.int k)]∧H3 D=some (.lst ((zaH ps k j).map nV))∧But D H H3) ?_ ?_ ?_
 ·exact ⟨_,rfl,zac,fun b o n e=>by rw[zaf n];exact e⟩
 ·rintro j m σ H3 hm hj ⟨x0,rfl,h3,k3⟩;rw[ybW];have h3t:=k3 _ _ (zab ht hD) ht;have hlen:=zcy ps k j;refine ⟨_,rfl,_,rfl,_,_,_,_,rfl,rfl,SqT.of h3t,zh1 hj,_,rfl,zio _ _ _,_,rfl,?_⟩;refine ite2 (fun c=>?_) (fun c=>?_)
  ·have c':par ps j=some k:=zhH.mp (yaB c);refine ⟨_,rfl,_,h3,zam (by rw[yaa];omega),m - 1,by omega,by omega,_,rfl,?_,fun b o n e=>by rw[zaf n];exact k3 b o n e⟩;rw[zac,zdl,if_pos c',yan];rfl
  ·have c':¬ par ps j=some k:=fun z=>c (yag (zhH.mpr z));refine ⟨m - 1,by omega,by omega,_,rfl,?_,k3⟩;rw[h3,zdl,if_neg c',yaN]
 ·rintro σ H3 ⟨x0,rfl,h3,k3⟩;exact q D H3 hD (fun b o e=>k3 b o (zab e hD) e) h3
def zmc (K:Frag):Sp:=fun vs H Q _=>∃(r:Addr) (as:List Addr) (rows:List (List Int)),vs=[.ref r]∧H r=some (.tup (as.map V.ref))∧zaU H as rows∧ze1 rows≤900∧
 ∀(p:Addr) (H':Hp),Same H H'→H' p=some (.lst (rows.flatten.map V.int))→H p=none→Q (.ref p) H'
theorem ziN (rows:List (List Int)):rows.flatten.length=ze1 rows:=by
 unfold ze1;rw[List.length_flatten]
theorem zlw {rows:List (List Int)}{i:Nat}{row:List Int}(h:rows[i]?=some row):(rows.take (i+1)).flatten=(rows.take i).flatten++row:=by
 obtain ⟨hi,rfl⟩:=yah.mp h;rw[yaA hi,ybL];simp
theorem ziM (rows:List (List Int))(i:Nat):(rows.take i).flatten.length≤ze1 rows:=by
 rw[← ziN]
 conv=>rhs;rw[← ybf i rows]
 rw[ybL,yak];omega
theorem zoC (T:Txt K mg)(qbM:DF K mg "_law_every" zeF zdX):FC P w K mg base 1 "_law_every" zdX (zmc K):=by
 refine qbM.ok qa3 (fun vs H Q E h=>?_) (fun f cdv A outer s H vs Q E hr h=>?_)
 ·obtain ⟨r,as,rows,rfl,_⟩:=h;rfl
 obtain ⟨r,as,rows,rfl,hr0,hA,hz,q⟩:=h;have hal:=hA.length;refine ⟨_,(zaj (zat (i:=1) qa3.nd rfl (Or.inl rfl) (zbg zad))
   (zaj (zbb PassesOwn.never rfl (zg7 (pv 0)) (zan (i:=2) qa3.nd rfl (Or.inl rfl)) (zag (zat (i:=1) qa3.nd rfl (Or.inl rfl) (zaz zix (pv 1) (zbI zcm rfl T.qby boot_list (zaa (pv 2) zad))))))
   (zag (zas (pv 1))))),?_⟩
 refine ⟨(by show 0≤sizeLine;decide),fun p hp=>?_⟩;have sp:=zai hp (.lst []);refine ⟨_,rfl,r,rfl,⟨_,SqT.of (sp _ _ hr0)⟩,?_⟩;refine zjD (xs:=as.map V.ref) (fun i σ H2=>∃(c:Addr) (x2:Option V),σ=[some (.ref r),some (.ref c),x2]∧H2 c=some (.lst (((rows.take i).flatten).map V.int))∧Same H H2∧H c=none) ?_ ?_ ?_ ?_
 ·exact ⟨p,_,rfl,zac,sp,hp⟩
 ·rintro i σ H2 _ ⟨c,x2,rfl,_,s2,_⟩;exact SqT.of (s2 _ _ hr0)
 ·rintro i x σ H2 hx ⟨c,x2,rfl,h2,s2,hc⟩;rw[yal]at hx;obtain ⟨b,hb,rfl⟩:=ya8.mp hx;obtain ⟨row,hrow,h1b⟩:=zaS hA hb;have h2b:=s2 _ _ h1b;have e:=zlw hrow;have hz2:=ziM rows (i+1);rw[e,yak]at hz2;refine ⟨_,rfl,_,rfl,b,_,rfl,.inr (SqT.of h2b),fun l hl=>?_⟩;have sl:=zai hl (.lst (row.map V.int));refine ⟨c,l,_,_,rfl,rfl,sl _ _ h2,zac,ya5 (zam (by rw[yaa,yaa];omega)),fun u hu=>?_⟩;have su:=zai hu (.lst ((rows.take i).flatten.map V.int++row.map V.int));refine ⟨u,_,rfl,?_,s2.trans (Same.trans sl su),s2.free (sl.free hu)⟩;rw[zac,e,yan]
 ·rintro σ H2 ⟨c,x2,rfl,h2,s2,hc⟩;rw[yaa,hal,yar (yab _)]at h2;refine ⟨_,rfl,?_⟩;exact q c H2 s2 h2 hc
def zj8 (K:Frag):Sp:=fun vs H Q _=>∃(d L:Addr),vs=[.ref d]∧LS K L d H∧
 ∀(st:Addr) (ps:List Nat) (rows:List (List Int)) (t rs:Addr) (as:List Addr) (H':Hp),zaO H' st ps rows t rs as→Keep d H H'→LS K L d H'→Q (.ref st) H'
theorem zlc (T:Txt K mg)(qbN:DF K mg "_law_stand" zeD zdV)(qaa:FC P w K mg base 2 "_law_take" zbo (zea K))(qc5:FC P w K mg base 3 "_law_tree" zeP (zph K))(qc6:FC P w K mg base 5 "_law_rows" zeQ (zpi K)):FC P w K mg base 6 "_law_stand" zdV (zj8 K):=by
 refine qbN.ok qa4 (fun vs H Q E h=>?_) (fun f cdv A outer s H vs Q E hr h=>?_)
 ·obtain ⟨d,L,rfl,_⟩:=h;rfl
 obtain ⟨d,L,rfl,hs,q⟩:=h;have ndT:∀{H':Hp} {a:Addr} {o:List V},LS K L d H'→H' a=some (.tup o)→a≠d:=fun {H' a o} s e z=>by
  obtain ⟨_,_,_,e2,_⟩:=s.ex;rw[← z,e]at e2;cases e2
 have ndL:∀{H':Hp} {a:Addr} {o:List V},LS K L d H'→H' a=some (.lst o)→a≠d:=fun {H' a o} s e z=>by
  obtain ⟨_,_,_,e2,_⟩:=s.ex;rw[← z,e]at e2;cases e2
 refine ⟨_,(zaj (zkl (zaq zax (zbg (zaa (zbv (zaa zae (zaa zae zad))) (zaa (zbv (zaa zae (zaa zae zad))) (zaa (zbv (zaa zae (zaa zae zad))) (zaa (zbv (zaa zae (zaa zae zad))) zad))))) (zav qaa hr (zaa (pv 0) (zaa zae zad))) (fun _ _=>rfl)) (zfn rfl (zaG (zan (i:=1) qa4.nd rfl (Or.inl rfl)) (zaG (zan (i:=2) qa4.nd rfl (Or.inl rfl)) zce))))
   (zaj (zat (i:=3) qa4.nd rfl (Or.inl rfl) (zav qc5 hr (zaa (pv 0) (zaa (pv 1) zad))))
   (zag (zas (zbv (zaa (pv 3) (zaa (zav qc6 hr (zaa (pv 0) (zaa (zau zar rfl T.qat boot_len (zaa (pv 3) zad)) (zaa (pv 2) zad)))) zad))))))),?_⟩
 refine ⟨(by show 2≤sizeLine;decide),fun a1 ha1=>?_⟩;have e1:=zai ha1 (.tup [.int 8,.int 6]);have f1:upd H a1 (.tup [.int 8,.int 6]) a1=some (.tup [.int 8,.int 6]):=zac;generalize upd H a1 (.tup [.int 8,.int 6])=G1 at e1 f1 ⊢;refine ⟨(by show 2≤sizeLine;decide),fun a2 ha2=>?_⟩;have e2:=zai ha2 (.tup [.int 8,.int 6]);have f2:upd G1 a2 (.tup [.int 8,.int 6]) a2=some (.tup [.int 8,.int 6]):=zac;generalize upd G1 a2 (.tup [.int 8,.int 6])=G2 at e2 f2 ⊢;refine ⟨(by show 2≤sizeLine;decide),fun a3 ha3=>?_⟩;have e3:=zai ha3 (.tup [.int 3,.int 20]);have f3:upd G2 a3 (.tup [.int 3,.int 20]) a3=some (.tup [.int 3,.int 20]):=zac;generalize upd G2 a3 (.tup [.int 3,.int 20])=G3 at e3 f3 ⊢;refine ⟨(by show 2≤sizeLine;decide),fun a4 ha4=>?_⟩;have e4:=zai ha4 (.tup [.int 16,.int 3]);have f4:upd G3 a4 (.tup [.int 16,.int 3]) a4=some (.tup [.int 16,.int 3]):=zac;generalize upd G3 a4 (.tup [.int 16,.int 3])=G4 at e4 f4 ⊢;refine ⟨(by show 4≤sizeLine;decide),fun l hl=>?_⟩;have e5:=zai hl (.lst [.ref a1,.ref a2,.ref a3,.ref a4]);have f5:upd G4 l (.lst [.ref a1,.ref a2,.ref a3,.ref a4]) l=some (.lst [.ref a1,.ref a2,.ref a3,.ref a4]):=zac;generalize upd G4 l (.lst [.ref a1,.ref a2,.ref a3,.ref a4])=G5 at e5 f5 ⊢;have s0:Same H G5:=e1.trans (Same.trans e2 (Same.trans e3 (Same.trans e4 e5)));have hs5:=hs.same s0;refine ⟨_,rfl,d,L,4,rfl,by decide,hs5,fun v H1 v0 v4 k1 s1=>?_⟩;obtain ⟨x,m,n,hat,htup,hm0,hm1,hn1,hmn⟩:∃(x:Addr) (m n:Nat),atI [V.ref a1,V.ref a2,V.ref a3,V.ref a4] v=some (.ref x)∧H1 x=some (.tup [.int (m:Int),.int (n:Int)])∧0 < m∧m≤24∧n≤30∧m * n≤60:=by
  have z:v=0∨v=1∨v=2∨v=3:=by omega
  have g1:=Same.trans e2 (Same.trans e3 (Same.trans e4 e5)) _ _ f1;have g2:=Same.trans e3 (Same.trans e4 e5) _ _ f2;have g3:=Same.trans e4 e5 _ _ f3;have g4:=e5 _ _ f4;rcases z with rfl | rfl | rfl | rfl
  ·exact ⟨a1,8,6,rfl,k1 _ _ (ndT hs5 g1) g1,by decide,by decide,by decide,by decide⟩
  ·exact ⟨a2,8,6,rfl,k1 _ _ (ndT hs5 g2) g2,by decide,by decide,by decide,by decide⟩
  ·exact ⟨a3,3,20,rfl,k1 _ _ (ndT hs5 g3) g3,by decide,by decide,by decide,by decide⟩
  ·exact ⟨a4,16,3,rfl,k1 _ _ (ndT hs5 g4) g4,by decide,by decide,by decide,by decide⟩
 have k01:Keep d H H1:=fun b o nb e=>k1 _ _ nb (s0 _ _ e);refine ⟨_,_,_,_,rfl,rfl,SqL.of (k1 _ _ (ndL hs5 f5) f5),hat,?_⟩;refine ⟨x,_,rfl,SqT.of htup,rfl,_,_,rfl,_,_,rfl,rfl,?_⟩;clear hat htup f5 f4 f3 f2 f1 e1 e2 e3 e4 e5 k1 hs5 s0;refine ⟨_,rfl,_,rfl,d,L,m,rfl,by omega,s1,fun t ps H2 ht hT hpl h2 k2 s2=>?_⟩;refine ⟨_,rfl,_,rfl,_,rfl,_,_,rfl,.inr (SqT.of h2),_,rfl,d,L,(zc7 ps).length,n,rfl,by rw[zaK];omega,by omega,s2,fun r as rows H3 hr3 hA hrl hR hf h3 k3 s3=>?_⟩;rw[zaK]at hrl;refine ⟨(by show 2≤sizeLine;decide),fun st hst=>?_⟩;have ss:=zai hst (.tup [.ref t,.ref r]);have hk:=zm9 hf;have hkk:rows.length * n≤m * n:=Nat.mul_le_mul_right n (by omega);exact q st ps rows t r as _ ⟨zac,ss _ _ (k3 _ _ (ndT s2 h2) h2),ss _ _ h3,hA.ext ss,hrl,hT,hR,by omega,by omega⟩ (fun b o nb e=>ss _ _ (k3 _ _ nb (k2 _ _ nb (k01 _ _ nb e)))) (s3.same ss)
theorem znE {ps us:List Nat}{c ch:Nat}(h:zgV ps (us++[c]))(hp:par ps ch=some c):zgV ps ((us++[c])++[ch]):=zlG h fun _=>by
 rw[hp,yak,yaE,ybG,yad,ya0 (yab _),ybK];rfl
def zpm (K:Frag):Sp:=fun vs H Q _=>∃(d L t:Addr) (ps:List Nat),vs=[.ref d,.ref t]∧H t=some (.tup (zc7 ps))∧zaE ps∧ps.length≤40∧LS K L d H∧
 ∀(wa:Addr) (w:List Nat) (H':Hp),H wa=none→zbp H' wa ps w→Keep d H H'→LS K L d H'→Q (.ref wa) H'
theorem zqb (T:Txt K mg)(qcx:DF K mg "_law_way" zhy zfT)(qaa:FC P w K mg base 2 "_law_take" zbo (zea K))(qbz:FC P w K mg base 1 "_law_children" zct (zc0 K)):FC P w K mg base 3 "_law_way" zfT (zpm K):=by
 refine qcx.ok qbC (fun vs H Q E h=>?_) (fun f cdv A outer s H vs Q E hr h=>?_)
 ·obtain ⟨d,L,t,ps,rfl,_⟩:=h;rfl
 obtain ⟨d,L,t,ps,rfl,ht,hT,hl,hs,q⟩:=h;have ndT:∀{H':Hp} {a:Addr} {o:List V},LS K L d H'→H' a=some (.tup o)→a≠d:=fun {H' a o} s e z=>by
  obtain ⟨_,_,_,e2,_⟩:=s.ex;rw[← z,e]at e2;cases e2
 have nd:∀{H':Hp} {a:Addr},LS K L d H'→H' a=none→a≠d:=fun {H' a} s e z=>by
  obtain ⟨_,_,_,e2,_⟩:=s.ex;rw[← z,e]at e2;cases e2
 have free:∀{H':Hp} {a:Addr},Keep d H H'→LS K L d H'→H' a=none→H a=none:=fun {H' a} k s e=>by
  cases e2:H a with
  | none=>rfl
  | some o=>
   have:=k _ _ (nd s e) e2;rw[e]at this;cases this
 refine ⟨_,(zaj (zat (i:=2) qbC.nd rfl (Or.inl rfl) (zbg (zaa (zav qaa hr (zaa (pv 0) (zaa (zau zar rfl T.qat boot_len (zaa (pv 1) zad)) zad))) zad)))
   (zbk (zbu (zay zeo (zav qaa hr (zaa (pv 0) (zaa zae zad))) zae (zaA _)) (zag (zat (i:=2) qbC.nd rfl (Or.inl rfl) (zbg (zaa zae zad)))) zaI)
   (zaj (zhE PassesOwn.never (PW.pt (zg5 (zay (zgl (List Int) (huD hr)) (zav qbz hr (zaa (pv 1) (zaa (zaq zax (pv 2) (zgh zdt zae) (fun _ _=>rfl)) zad))) (zbg zad) (zaA _)) (zfe (zay zjj (zav qaa hr (zaa (pv 0) (zaa zae zad))) zae (zaA _))))) (zaj (zat (i:=3) qbC.nd rfl (Or.inl rfl) (zav qbz hr (zaa (pv 1) (zaa (zaq zax (pv 2) (zgh zdt zae) (fun _ _=>rfl)) zad))))
   (zag (zaW (zdz F.plainAttrs_list F.slot_list_append F.type_list_append zaN (pv 2) (zaa (zaq zax (pv 3) (zav qaa hr (zaa (pv 0) (zaa (zau zar rfl T.qat boot_len (zaa (pv 3) zad)) zad))) (fun _ _=>rfl)) zad))))))
   (zag (zas (pv 2)))))),?_⟩
 refine ⟨_,rfl,_,rfl,_,_,rfl,.inr (SqT.of ht),d,L,_,rfl,by rw[zaK];omega,hs,fun v H1 v0 v1 k1 s1=>?_⟩;rw[zaK]at v1;obtain ⟨k0,rfl⟩:=zky v0;refine ⟨(by show 1≤sizeLine;decide),fun p hp=>?_⟩;have sp:=zai hp (.lst [nV k0]);have hpp:upd H1 p (.lst [nV k0]) p=some (.lst [nV k0]):=zac;have s1p:=s1.same sp;have k1p:Keep d H (upd H1 p (.lst [nV k0])):=fun b o nb e=>sp _ _ (k1 _ _ nb e);have hp0:=free k1 s1 hp;generalize upd H1 p (.lst [nV k0])=H2 at hpp s1p k1p ⊢;refine ⟨fun σ' H'=>∃(p:Addr) (k0:Nat),σ'=[some (.ref d),some (.ref t),some (.ref p),none]∧H' p=some (.lst [nV k0])∧k0 < ps.length+1∧H p=none∧Keep d H H'∧LS K L d H',?_,?_⟩
 ·refine ⟨_,rfl,d,L,2,rfl,by decide,s1p,fun v H3 _ _ k3 s3=>⟨rfl,_,rfl,?_⟩⟩;have hpd:p≠d:=nd s1 hp;have k03:Keep d H H3:=fun b o nb e=>k3 _ _ nb (k1p _ _ nb e);refine ite2 (fun _=>?_) (fun _=>?_)
  ·refine ⟨(by show 1≤sizeLine;decide),fun u hu=>?_⟩;have su:=zai hu (.lst [nV 0]);exact ⟨u,0,rfl,zac,by omega,free k03 s3 hu,fun b o nb e=>su _ _ (k03 _ _ nb e),s3.same su⟩
  ·exact ⟨p,k0,rfl,k3 _ _ hpd hpp,by omega,hp0,k03,s3⟩
 clear hpp s1p k1p hp0 sp hp k1 s1;rintro σ' H3 ⟨p,k0,rfl,h3,hk0,hp,k3,s3⟩;have hpd:p≠d:=nd hs hp;have htp:t≠p:=zab ht hp;have htd:=ndT hs ht;refine zh6 (fun σ HW=>∃(us:List Nat) (c:Nat) (x3:Option V),σ=[some (.ref d),some (.ref t),some (.ref p),x3]∧HW p=some (.lst ((us++[c]).map nV))∧us.length≤c∧c < ps.length+1∧zgV ps (us++[c])∧(∀ x∈us++[c],x < ps.length+1)∧(∀ b o,b≠d→b≠p→H b=some o→HW b=some o)∧LS K L d HW)
  (fun σ HW=>∃(w:List Nat) (x3:Option V),σ=[some (.ref d),some (.ref t),some (.ref p),x3]∧zbp HW p ps w∧(∀ b o,b≠d→b≠p→H b=some o→HW b=some o)∧LS K L d HW)
  (fun _ H2=>match H2 p with | some (.lst xs)=>1000 - xs.length | _=>0) ?_ ?_ ?_ ?_
 ·refine ⟨[],k0,_,rfl,h3,yaC _,hk0,fun t ht=>?_,fun x hx=>?_,fun b o nb _ e=>k3 _ _ nb e,s3⟩
  ·rw[List.nil_append,yaE]at ht;omega
  ·rw[yap.mp hx];exact hk0
 ·rintro σ HW ⟨us,c,x3,rfl,hw,hul,hc,hch,hkn,kw,sw⟩;have hwt:=kw _ _ htd htp ht;have done:∀{HX:Hp} {x3:Option V},(∀ b o,b≠d→HW b=some o→HX b=some o)→LS K L d HX→∃(w:List Nat) (x3':Option V),[some (V.ref d),some (.ref t),some (.ref p),x3]=[some (.ref d),some (.ref t),some (.ref p),x3']∧zbp HX p ps w∧(∀ b o,b≠d→b≠p→H b=some o→HX b=some o)∧LS K L d HX:=fun {HX x3} k s=>
   ⟨us++[c],x3,rfl,⟨k _ _ hpd hw,by rw[yak,yaE];omega,by simp,hch,hkn⟩,fun b o n1 n2 e=>k _ _ n1 (kw _ _ n1 n2 e),s⟩
  refine ⟨_,rfl,_,rfl,_,rfl,_,_,_,_,rfl,rfl,SqL.of hw,znO,t,ps,c,rfl,hwt,by omega,fun cl HX hcl sx hx=>?_⟩;refine ⟨(by show 0≤sizeLine;decide),fun e he=>?_⟩;have se:=zai he (.lst []);have sxe:=sx.trans se;have swe:=sw.same sxe;refine ⟨(zaH ps c (ps.length+1)).map (fun n:Nat=>(n:Int)),[],⟨_,_,rfl,SqL.of (se _ _ hx),zkx⟩,⟨_,_,rfl,SqL.of zac,.nil⟩,_,rfl,?_⟩;generalize upd HX e (.lst [])=HE at sxe swe ⊢;refine ite2 (fun cne=>?_) (fun _=>?_)
  ·refine ⟨_,rfl,d,L,6,rfl,by decide,swe,fun v H4 _ _ k4 s4=>?_⟩;have k04:∀ b o,b≠d→HW b=some o→H4 b=some o:=fun b o nb e=>k4 _ _ nb (sxe _ _ e);refine ⟨_,_,rfl,rfl,_,rfl,?_⟩;refine ite2 (fun _=>?_) (fun _=>?_)
   ·have h4:=k04 _ _ hpd hw;have h4t:=k04 _ _ htd hwt;refine ⟨_,rfl,_,rfl,_,rfl,_,_,_,_,rfl,rfl,SqL.of h4,znO,t,ps,c,rfl,h4t,by omega,fun c2 H5 hc2 s5 h5=>?_⟩;have hcne:zaH ps c (ps.length+1)≠[]:=fun z=>by
     rw[z]at cne;cases cne
    have hcmem:=fun m=>zaD (ps:=ps) (k:=c) (n:=ps.length+1) (j:=m);have hcl:=zcy ps c (ps.length+1);generalize zaH ps c (ps.length+1)=cs at hcne h5 hcmem hcl;have hpos:0 < cs.length:=ybg.mpr hcne;have h5p:=s5 _ _ h4;have s45:=s4.same s5;refine ⟨_,rfl,.inl ⟨rfl,_,SqL.of h5p⟩,_,rfl,_,rfl,_,rfl,_,_,rfl,.inl (SqL.of h5),d,L,_,rfl,by rw[yaa];omega,s45,fun v2 H6 v20 v21 k6 s6=>?_⟩;rw[yaa]at v21;obtain ⟨j,rfl⟩:=zky v20;have hj:j < cs.length:=by omega
    have h6:=k6 _ _ hpd h5p;have hc2d:c2≠d:=nd s4 hc2;refine ⟨_,_,_,_,rfl,rfl,SqL.of (k6 _ _ hc2d h5),zhm hj,?_⟩;have hm:cs.getD j 0∈cs:=by
     rw[yad,yac hj];exact yaG hj
    generalize cs.getD j 0=ch at hm ⊢;obtain ⟨hchn,hchp⟩:=(hcmem ch).mp hm;have hlt:=(zaR hT hchp).1;refine ⟨_,_,_,rfl,rfl,h6,zam (by rw[yaa,yak,yaE];omega),?_⟩;have k06:∀ b o,b≠d→HW b=some o→H6 b=some o:=fun b o nb e=>k6 _ _ nb (s5 _ _ (k04 _ _ nb e));refine ⟨⟨us++[c],ch,_,rfl,?_,?_,hchn,?_,?_,fun b o n1 n2 e=>?_,?_⟩,?_⟩
    ·rw[zac,yan (l₂:=[ch])];rfl
    ·rw[yak,yaE];omega
    ·exact znE hch hchp
    ·intro x hx;rcases yaH.mp hx with z | z
     ·exact hkn x z
     ·rw[yap.mp z];exact hchn
    ·rw[zaf n2];exact k06 _ _ n1 (kw _ _ n1 n2 e)
    ·exact LS.put hs hp (fun b o n1 n2 e=>k06 _ _ n1 (kw _ _ n1 n2 e)) s6
    ·show (match upd H6 p _ p with | some (.lst xs)=>1000 - xs.length | _=>0) < (match HW p with | some (.lst xs)=>1000 - xs.length | _=>0)
     rw[zac,hw];show 1000 - (((us++[c]).map nV)++[nV ch]).length < 1000 - ((us++[c]).map nV).length;rw[yak,yaa,yak,yaE,yaE];omega
   ·exact done k04 s4
  ·refine iteF ?_;exact done (fun b o _ e=>sxe _ _ e) swe
 ·refine zl1 (fun σ H Q Q' m h=>?_) (fun σ H Q Q' m h=>?_)
  ·obtain ⟨y1,e1,y2,e2,y3,e3,y4,y5,y6,y7,e4,e5,e6,e7,t,ps,k,e8,e9,e10,q⟩:=h;refine ⟨y1,e1,y2,e2,y3,e3,y4,y5,y6,y7,e4,e5,e6,e7,t,ps,k,e8,e9,e10,fun p H' a1 a2 a3=>?_⟩;obtain ⟨z1,z2⟩:=q p H' a1 a2 a3;refine ⟨z1,fun e he=>?_⟩;obtain ⟨as,bs,g1,g2,b,g3,q⟩:=z2 e he;exact ⟨as,bs,g1,g2,b,g3,m _ _ q⟩
  ·obtain ⟨y1,e1,d,L,z,e2,e3,e4,q⟩:=h;refine ⟨y1,e1,d,L,z,e2,e3,e4,fun v H' a1 a2 a3 a4=>?_⟩;obtain ⟨i,j,g1,g2,b,g3,q⟩:=q v H' a1 a2 a3 a4;exact ⟨i,j,g1,g2,b,g3,m _ _ q⟩
 rintro σ HW ⟨w,x3,rfl,W,kw,sw⟩;refine ⟨_,rfl,?_⟩;exact q p w HW hp W (fun b o nb e=>kw _ _ nb (zab e hp) e) sw
def zmf (K:Frag):Sp:=fun vs H Q _=>∃(d L st:Addr) (ps:List Nat) (rows:List (List Int)) (t rs:Addr) (as:List Addr),vs=[.ref d,.ref st]∧zaO H st ps rows t rs as∧LS K L d H∧
 ∀(key:Int) (H':Hp),Keep d H H'→LS K L d H'→Q (.int key) H'
theorem zoF (T:Txt K mg)(qaO:DF K mg "_law_asked_key" zcq zch)(qcS:FC P w K mg base 1 "_law_every" zdX (zmc K))(qaa:FC P w K mg base 2 "_law_take" zbo (zea K))(qcv:FC P w K mg base 3 "_law_key" zeR (zn6 K)):FC P w K mg base 4 "_law_asked_key" zch (zmf K):=by
 refine qaO.ok qaH (fun vs H Q E h=>?_) (fun f cdv A outer s H vs Q E hr h=>?_)
 ·obtain ⟨d,L,st,ps,rows,t,rs,as,rfl,_⟩:=h;rfl
 obtain ⟨d,L,st,ps,rows,t,rs,as,rfl,S,hs,q⟩:=h;have ndT:∀{H':Hp} {a:Addr} {o:List V},LS K L d H'→H' a=some (.tup o)→a≠d:=fun {H' a o} s e z=>by
  obtain ⟨_,_,_,e2,_⟩:=s.ex;rw[← z,e]at e2;cases e2
 refine ⟨_,(zaj (zat (i:=2) qaH.nd rfl (Or.inl rfl) (zav qcS hr (zaa (zaq zaF (pv 1) zae (fun _ _=>rfl)) zad)))
   (zbk (zbu (PW.pt (ziq (zay (zku (List Int) (huD hr)) (pv 2) (zbg zad) (zaA _)) (zfm (zay zeo (zav qaa hr (zaa (pv 0) (zaa zae zad))) zae (zaA _))))) (zag (zas (zav qcv hr (zaa (pv 0) zad)))) zaI)
   (zaj (zat (i:=3) qaH.nd rfl (Or.inl rfl) (zaz zck (zaz za4 (zaq zax (pv 2) (zav qaa hr (zaa (pv 0) (zaa (zau zar rfl T.qat boot_len (zaa (pv 2) zad)) zad))) (fun _ _=>rfl)) (zav qaa hr (zaa (pv 0) (zaa zae zad)))) zae))
   (zag (zas (zau (ze5 rfl) rfl T.qcZ boot_max (zaa (zaz zck zae (zaz zgk zae zae)) (zaa (zau (zgH rfl) rfl T.qc0 boot_min (zaa (zaz zck (zaz zgk zae zae) zae) (zaa (pv 3) zad))) zad)))))))),?_⟩
 refine ⟨_,rfl,_,_,_,_,rfl,rfl,SqT.of S.st,rfl,rs,as,rows,rfl,S.rs,S.at_,by have:=S.keys;omega,fun p H1 s1 h1 hp=>?_⟩;have hs1:=hs.same s1;have hpd:p≠d:=fun z=>by
  obtain ⟨_,_,_,e2,_⟩:=hs.ex;rw[← z,hp]at e2;cases e2
 have hfl:=ziN rows;have hkeys:=S.keys;generalize rows.flatten=fl at h1 hfl;refine ⟨fun σ' H'=>σ'=[some (.ref d),some (.ref st),some (.ref p),none]∧H' p=some (.lst (fl.map V.int))∧fl≠[]∧Keep d H H'∧LS K L d H',?_,?_⟩
 ·refine ⟨_,rfl,(by show 0≤sizeLine;decide),fun e he=>?_⟩;have se:=zai he (.lst []);refine ⟨fl,[],⟨_,_,rfl,SqL.of (se _ _ h1),zao.ints⟩,⟨_,_,rfl,SqL.of zac,.nil⟩,_,rfl,?_⟩;have h2:=se _ _ h1;have s2:=hs1.same se;have k2:Keep d H (upd H1 e (.lst [])):=fun b o _ z=>se _ _ (s1 _ _ z);generalize upd H1 e (.lst [])=H2 at h2 s2 k2 ⊢;have ret:∀{H3:Hp},Keep d H H3→LS K L d H3→zn6 K [.ref d] H3 Q E0:=fun {H3} k s=>⟨d,L,rfl,s,fun v H' _ _ k' s'=>q v H' (fun b o nb z=>k' _ _ nb (k _ _ nb z)) s'⟩;refine ite2 (fun _=>?_) (fun c=>?_)
  ·refine iteT ?_;exact ⟨_,rfl,ret k2 s2⟩
  ·have hne:fl≠[]:=fun z=>c (yag z);refine ⟨_,rfl,d,L,4,rfl,by decide,s2,fun v H3 _ _ k3 s3=>⟨rfl,_,rfl,?_⟩⟩;have k03:Keep d H H3:=fun b o nb z=>k3 _ _ nb (k2 _ _ nb z);refine ite2 (fun _=>?_) (fun _=>?_)
   ·exact ⟨_,rfl,ret k03 s3⟩
   ·exact ⟨rfl,k3 _ _ hpd h2,hne,k03,s3⟩
 rintro σ' H2 ⟨rfl,h2,hne,k2,s2⟩;have hpos:0 < fl.length:=ybg.mpr hne;refine ⟨_,rfl,_,rfl,_,rfl,_,_,rfl,.inl (SqL.of h2),d,L,_,rfl,by rw[yaa];omega,s2,fun v H3 v0 v1 k3 s3=>?_⟩;rw[yaa]at v1;obtain ⟨j,rfl⟩:=zky v0;have hat:atI (fl.map V.int) (j:Int)=some (.int (fl.getD j 0)):=zaP (by rw[yal,yac (show j < fl.length by omega),yad,yac (show j < fl.length by omega)];rfl);refine ⟨_,_,_,_,rfl,rfl,SqL.of (k3 _ _ hpd h2),hat,_,rfl,d,L,3,rfl,by decide,s3,fun v2 H4 _ _ k4 s4=>?_⟩;refine ⟨_,_,rfl,rfl,_,_,rfl,rfl,?_⟩;refine ⟨_,_,rfl,rfl,⟨by decide,by decide,by decide⟩,_,_,rfl,rfl,_,_,rfl,rfl,⟨by decide,by decide,by decide⟩,_,_,rfl,rfl,_,rfl,_,_,rfl,_,_,rfl,?_⟩;exact q _ _ (fun b o nb e=>k4 _ _ nb (k3 _ _ nb (k2 _ _ nb e))) s4
abbrev zrF:Str:=(envOfC ("search_for_key" : Str) (zah zaX) 0 0 .none).qual ++ "<lambda>"
abbrev zm0:Pos:=⟨160,48,160,89⟩
structure TabS (mF mS:Addr)(H:Hp):Prop where
 f:zaC H mF zdC ziK
 s:zaC H mS zm0 zrF
 n:mF≠mS
theorem TabS.ext {mF mS:Addr}{H H':Hp}(x:TabS mF mS H)(e:Ext H H'):TabS mF mS H':=⟨x.f.ext e,x.s.ext e,x.n⟩
theorem zgM {bs:Heap}{g c' mF pf:Addr}{H4:Hp}{ps:List Nat}{rows:List (List Int)}{key:Int}{qs:List Addr}{nm:List Str}{qn:Str}(hV:FV P w K mg bs 2 g nm (zje 2 (tOp (rI0 fun i j=>.bl (decide (i < j))) (tOp (rIxT K) (tOp (rIxL K) (tOp (rIxL K) (tVar 3) (tVar 0)) (tVar 1)) (tC (.int 0))) (tVar 2)) [.int key,.ref pf] c' qn))(hC:zei H4 c' qn)(t4:zaC H4 mF zdC ziK)(h4:H4 pf=some (.lst (qs.map V.ref)))(hF4:zaB K H4 ps rows (List.range (ps.length+1)) qs):AskF P w K mg bs g [] mF (fun b=>b≠mF∧H4 b≠none) (fun _ H'=>Gro mF H4 H') ps rows key:=by
 have nm1:∀{x:Addr} {o:HO},H4 x=some o→(∀ tab,o≠.tbl tab)→x≠mF:=fun {x o} e n z=>by
  obtain ⟨tab,e2⟩:=zaM t4;rw[← z,e]at e2;exact n _ (yae e2)
 refine ⟨fun L Ha Hb hR hk b o n e=>hk b o ⟨n,by rw[e];exact fun z=>nomatch z⟩ (hR b o n e),fun L Ha b hR hb=>?_,fun L Ha hR a ha=>absurd ha yax,fun z=>z.1 rfl,_,_,hV,fun kn i L Ha Q hkn hi _ hR hQ=>⟨rfl,hR _ _ (nm1 hC (fun _ z=>nomatch z)) hC,?_⟩⟩
 ·cases e:H4 b with
  | none=>exact absurd e hb.2
  | some o=>
   rw[hR b o hb.1 e];exact fun z=>nomatch z
 ·obtain ⟨qk,hqk,wk,hwk,hak⟩:=za8 hF4 hkn;have hge:(zak ps rows kn)[i]?=some ((zak ps rows kn).getD i (0,0)):=by
   rw[yad,yac hi];rfl
  obtain ⟨v,hv,bb,x1,x2,rfl,hb,e1,e2⟩:∃ v,wk[i]?=some v∧hasP K H4 ((zak ps rows kn).getD i (0,0)) v:=zaS hak hge;have e1':x1=.int ((zak ps rows kn).getD i (0,0)).1:=e1;subst e1';have ha:=hR _ _ (nm1 h4 (fun _ z=>nomatch z)) h4;have hwa:=hR _ _ (nm1 hwk (fun _ z=>nomatch z)) hwk;have hba:=hR _ _ (nm1 hb (fun _ z=>nomatch z)) hb;refine ⟨_,rfl,_,rfl,_,_,_,_,rfl,rfl,SqL.of ha,zaP (v:=.ref qk) (by rw[yal,hqk];rfl),_,rfl,_,_,_,_,rfl,rfl,SqL.of hwa,zaP hv,_,_,_,_,rfl,rfl,SqT.of hba,rfl,_,rfl,_,_,rfl,rfl,?_⟩;exact hQ _ hR fun _ _ _ h=>h
def Kp2 (mF mS:Addr)(H H':Hp):Prop:=∀ b o,b≠mF→b≠mS→H b=some o→H' b=some o
theorem Kp2.kp0 {mF mS:Addr}{H H':Hp}(k:Kp2 mF mS H H')(x:TabS mF mS H):Kp0 H H':=fun b o n e=>k b o (fun z=>by
 obtain ⟨tab,e2⟩:=zaM x.f;rw[← z,e]at e2;exact n _ (yae e2)) (fun z=>by
 obtain ⟨tab,e2⟩:=zaM x.s;rw[← z,e]at e2;exact n _ (yae e2)) e
def zhu (K:Frag)(mF mS:Addr):Sp:=fun vs H Q _=>∃(st t rs pf wa:Addr) (key:Int) (ps:List Nat) (rows:List (List Int)) (as qs:List Addr) (wy:List Nat),vs=[.ref t,.ref pf,.ref wa,.int key]∧zaO H st ps rows t rs as∧H pf=some (.lst (qs.map V.ref))∧zaB K H ps rows (List.range (ps.length+1)) qs∧zbp H wa ps wy∧TabS mF mS H∧
 ∀(D:Addr) (zs:List V) (H':Hp),H D=none→Kp2 mF mS H H'→TabS mF mS H'→H' D=some (.lst zs)→zao K H' (wy.map fun k=>(((zal (zak ps rows k) key:Nat):Int),((ownB rows k key:Nat):Int))) zs→Q (.ref D) H'
theorem zmJ (T:Txt K mg){mc mp mF:Addr}(qaj:DFT K mg "search_for_key" zaX za9 mc mp)(hBM:BMAt mg base)(qau:FC P w K mg base 2 "bridges_of" zbD (zkd K))(qcd:∀ b,Sub K mg base b→FC P w K mg b 6 "search" zdv (zhs P w K mg b mF)):FC P w K mg base 7 "search_for_key" za9 (zhu K mF mp):=by
 refine qaj.ok qbl (fun vs H Q E h=>?_) (fun f A outer s H vs Q E hr h=>?_)
 ·obtain ⟨st,t,rs,pf,wa,key,ps,rows,as,qs,wy,rfl,_⟩:=h;rfl
 obtain ⟨st,t,rs,pf,wa,key,ps,rows,as,qs,wy,rfl,S,hpf,hF,W,TT,q⟩:=h;refine ⟨_,(zag (zas (zit (kf:=1) qcd hr (zav qau hr (zaa (pv 0) (zaa (pv 1) zad))) (pv 2) (ziJ (osc:=zah zaX) (N:=["tree","fulls","way","key"]) (ps:=["knot","at"]) (caps:=["key","fulls"]) (cap:=[3,1]) ⟨rfl,rfl,rfl,by decide +kernel,by decide +kernel,by decide +kernel,by decide +kernel⟩ (by decide +kernel) (by decide +kernel) rfl rfl rfl rfl (fun _ _ _ _ us hl=>match us,hl with | [_,_],_=>rfl) (fun _=>rfl)) rfl qaj.hd hBM (fun b _ _ _ _ _ _ _ S hr=>(zdf zgm (zaq (zbr (K:=K)) (zaq (zcu (K:=K)) (zaq (zcu (K:=K)) (pv 3) (pv 0) (fun _ _=>rfl)) (pv 1) (fun _ _=>rfl)) zae (fun _ _=>rfl)) (pv 2) (zaA _)))))),?_⟩
 refine ⟨_,rfl,_,rfl,st,ps,rows,t,rs,as,pf,qs,rfl,S,hpf,hF,fun br xs H3 hbr s3 h3 hB=>?_⟩;have T3:=TT.ext s3.ext;refine ⟨_,rfl,T3.s,[.int key,.ref pf],rfl,?_,fun bs g c' H4 hg hT4 hC SB hV=>?_⟩
 ·intro j i v h1 h2;rcases j with _ | _ | j
  ·cases h1;cases h2;rfl
  ·cases h1;cases h2;rfl
  ·cases h1
 have nmS:∀{x:Addr} {o:HO},H3 x=some o→(∀ tab,o≠.tbl tab)→x≠mp:=fun {x o} e n z=>by
  obtain ⟨tab,e2⟩:=zaM T3.s;rw[← z,e]at e2;exact n _ (yae e2)
 have k34:Kp0 H3 H4:=fun b o n e=>hg _ _ (nmS e n) e;have t4:zaC H4 mF zdC ziK:=T3.f.gro hg T3.n (zaM T3.s);have nm1:∀{x:Addr} {o:HO},H4 x=some o→(∀ tab,o≠.tbl tab)→x≠mF:=fun {x o} e n z=>by
  obtain ⟨tab,e2⟩:=zaM t4;rw[← z,e]at e2;exact n _ (yae e2)
 have kp04:Kp0 H H4:=Kp0.trans (.of s3) k34;have h4:=kp04.lst hpf;have hF4:=ze4 kp04 hF;have AF:=zgM hV hC t4 h4 hF4;have SE:zbe [] mF (fun _ H'=>Gro mF H4 H') ps rows br xs [] H4:=⟨Gro.refl _ _,fun a ha=>absurd ha yax,k34.lst h3,yax,zqK k34 hB,t4⟩;refine ⟨br,wa,g,xs,ps,rows,wy,key,[],_,_,[],rfl,AF,SE,S.T,S.R,S.few,zf9 kp04 W,yax,yaC _,(fun k hk=>by have:=zdG S.T S.len (rows:=rows) hk;have:=S.keys;omega),fun D zs H5 L' S5 k5 hDn h5 hA _=>?_⟩;have k45:Gro mF H4 H5:=fun b o n e=>k5 b o yax n e;have kp45:Kp0 H4 H5:=fun b o n e=>k45 _ _ (nm1 e n) e;refine q D zs H5 ?_ (fun b o n1 n2 e=>k45 _ _ n1 (hg _ _ n2 (s3 _ _ e))) ⟨S5.tb,hT4.gro k45 (Ne.symm TT.n) (zaM t4),TT.n⟩ h5 hA;cases e:H D with
 | none=>rfl
 | some o=>
  by_cases z:D=mp
  ·obtain ⟨tab,e2⟩:=zaM hT4;rw[z,e2]at hDn;cases hDn
  ·have:=hg _ _ z (s3 _ _ e);rw[hDn]at this;cases this
def zht (K:Frag)(mF mS:Addr):Sp:=fun vs H Q _=>∃(st wa:Addr) (key:Int) (ps:List Nat) (rows:List (List Int)) (t rs:Addr) (as:List Addr) (wy:List Nat),vs=[.ref st,.ref wa,.int key]∧zaO H st ps rows t rs as∧zbp H wa ps wy∧TabS mF mS H∧
 ∀(D:Addr) (zs:List V) (H':Hp),H D=none→Kp2 mF mS H H'→TabS mF mS H'→H' D=some (.lst zs)→Paired (zbJ H' ps rows key) wy zs→Q (.ref D) H'
theorem zi8 {K:Frag}{wa D D2:Addr}{H2:Hp}{ps:List Nat}{rows:List (List Int)}{key:Int}{wy:List Nat}{zs:List V}{y0 y1:Option V}{Q:Hp→Prop}(W2:zbp H2 wa ps wy)(h2:H2 D=some (.lst zs))(hA:zao K H2 (wy.map fun k=>(((zal (zak ps rows k) key:Nat):Int),((ownB rows k key:Nat):Int))) zs)(hD2:H2 D2=none)(q:∀ us H3,Same H2 H3→H3 D2=some (.lst us)→Paired (zbJ H3 ps rows key) wy us→Q H3) :
  ∃ W:Nat→Nat→L2.St→Hp→Prop,(∃ m,W 0 m [y0,y1] (upd H2 D2 (.lst [])))∧∀ i m σ H,W i m σ H→((Itz K wa D).stop i H∧Q H)∨((Itz K wa D).go i H∧∀ x H',(Itz K wa D).yld i H x H'→gTup K 2 (zqA (zgR 0) (zqA (zgR 1) gNil)) x σ H' fun σ2 H2=>tYes σ2 H2 fun b H3=>if b=true then tTup (zn1 (tVar 0) (zn1 (tOp (rIxT K) (tVar 1) (tC (.int 0))) (zn1 (tOp (rIxT K) (tVar 1) (tC (.int 1))) tNil))) σ2 H3 fun y H4=>∃ xs,H4 D2=some (.lst xs)∧xs.length < sizeLine∧∃ m',m' < m∧W (i+1) m' σ2 (upd H4 D2 (.lst (xs++[y]))) else ∃ m',m' < m∧W (i+1) m' σ2 H3):=by
 have hwl:=W2.len;have hzl:=hA.length;rw[yaa]at hzl;refine zkS (xs:=wy.map nV) (ys:=zs) (by rw[yaa];exact hzl) (fun i σ H3=>∃(x0 x1:Option V) (us:List V),σ=[x0,x1]∧H3 D2=some (.lst us)∧Paired (zbJ H3 ps rows key) (wy.take i) us∧But D2 H2 H3) ?_ ?_ ?_ ?_
 ·exact ⟨_,_,[],rfl,zac,.nil,fun b o n e=>by rw[zaf n];exact e⟩
 ·rintro i σ H3 _ ⟨x0,x1,us,rfl,_,_,k3⟩;exact ⟨k3.sq (SqL.of W2.at_) hD2,k3.sq (SqL.of h2) hD2⟩
 ·rintro i m x y σ H3 r hx hy hm ⟨x0,x1,us,rfl,h3,hP,k3⟩ hr;have hi:=(yah.mp hx).1;rw[yaa]at hi hm;rw[zfk hi]at hx;obtain rfl:=yae hx;have s23:Same H2 H3:=fun b o e=>k3 b o (zab e hD2) e;obtain ⟨e,he,hh⟩:=hA.get hy;rw[yal,yac hi]at he;obtain rfl:=yae he;obtain ⟨a,y1,y2,rfl,ha,e1,e2⟩:=(show hasP K H2 _ y from hh);have e1':y1=.int ((zal (zak ps rows wy[i]) key:Nat):Int):=e1;have e2':y2=.int ((ownB rows wy[i] key:Nat):Int):=e2;subst e1' e2';have hul:=Paired.length hP;rw[yao]at hul;have sr:=zai hr (.tup [nV (wy.getD i 0),.ref a]);refine ⟨r,_,rfl,SqT.of zac,rfl,_,_,rfl,_,_,rfl,rfl,?_⟩;have h4a:=sr _ _ (s23 _ _ ha);refine zjb (iteT ?_);refine ⟨_,rfl,_,rfl,_,_,_,_,rfl,rfl,SqT.of h4a,rfl,_,rfl,_,_,_,_,rfl,rfl,SqT.of h4a,rfl,(by show 3≤sizeLine;decide),fun p hp=>?_⟩;have eg:wy.getD i 0=wy[i]:=by rw[yad,yac hi];rfl
  have hpp:upd (upd H3 r (.tup [nV (wy.getD i 0),.ref a])) p (.tup [nV (wy.getD i 0),.int ((zal (zak ps rows wy[i]) key:Nat):Int),.int ((ownB rows wy[i] key:Nat):Int)]) p=some (.tup [nV (wy.getD i 0),.int ((zal (zak ps rows wy[i]) key:Nat):Int),.int ((ownB rows wy[i] key:Nat):Int)]):=zac;have s35:=sr.trans (zai hp (.tup [nV (wy.getD i 0),.int ((zal (zak ps rows wy[i]) key:Nat):Int),.int ((ownB rows wy[i] key:Nat):Int)]));generalize upd (upd H3 r (.tup [nV (wy.getD i 0),.ref a])) p (.tup [nV (wy.getD i 0),.int ((zal (zak ps rows wy[i]) key:Nat):Int),.int ((ownB rows wy[i] key:Nat):Int)])=H5 at hpp s35 ⊢;have h5D:=s35 _ _ h3;have nD:∀{x:Addr} {us:List V},H5 x=some (.tup us)→x≠D2:=fun {x us} h z=>by
   rw[z,h5D]at h;cases h
  refine ⟨_,h5D,zam (by omega),m - 1,by omega,by rw[yaa];omega,_,_,us++[.ref p],rfl,zac,?_,fun b o n e=>by rw[zaf n];exact s35 _ _ (k3 b o n e)⟩;rw[yaA hi];refine zbl (zaJ (fun _ _ zq0=>(by obtain ⟨t,e1,e2⟩:=zq0;exact ⟨t,e1,by rw[zaf (nD (s35 _ _ e2))];exact s35 _ _ e2⟩)) hP) ⟨p,rfl,?_⟩;rw[zaf (nD hpp),hpp,eg]
 rintro σ H3 ⟨x0,x1,us,rfl,h3,hP,k3⟩;rw[yaa,yar (yab _)]at hP;exact q us H3 (fun b o e=>k3 b o (zab e hD2) e) h3 hP
theorem zot (T:Txt K mg){mF mS:Addr}(qbv:DF K mg "paper_of" zdM zcd)(qaq:FC P w K mg base 4 "need_way" zbT (zii K))(qaf:FC P w K mg base 8 "full_rows" zbf (zfb K))(qax:FC P w K mg base 7 "search_for_key" za9 (zhu K mF mS)):FC P w K mg base 9 "paper_of" zcd (zht K mF mS):=by
 refine qbv.ok qbE (fun vs H Q E h=>?_) (fun f cdv A outer s H vs Q E hr h=>?_)
 ·obtain ⟨st,wa,key,ps,rows,t,rs,as,wy,rfl,_⟩:=h;rfl
 obtain ⟨st,wa,key,ps,rows,t,rs,as,wy,rfl,S,W,TT,q⟩:=h;refine ⟨_,(zaj (zaW (zav qaq hr (zaa (zaq zaF (pv 0) zae (fun _ _=>rfl)) (zaa (pv 1) zad))))
   (zaj (zat (i:=3) qbE.nd rfl (Or.inl rfl) (zav qax hr (zaa (zaq zaF (pv 0) zae (fun _ _=>rfl)) (zaa (zav qaf hr (zaa (pv 0) zad)) (zaa (pv 1) (zaa (pv 2) zad))))))
   (zag (zas (zbd (N:=["knot","each"]) (own:=2) (cap:=[]) rfl (zgg rfl T.qcq (zaa (pv 1) (zaa (pv 3) zad))) ⟨rfl,rfl,rfl,rfl,rfl,rfl⟩ (fun _ _ _ _ _=>(zff (K:=K) (n:=2) rfl (zaG (zan (i:=0) (show List.Nodup (["knot","each"]:List Str) by decide +kernel) rfl (Or.inl rfl)) (zaG (zan (i:=1) (show List.Nodup (["knot","each"]:List Str) by decide +kernel) rfl (Or.inl rfl)) zce)))) (fun _ _ _ _ _=>zbj) (fun _ _ _ _ _=>(zbv (zaa (pv 0) (zaa (zaq (zbr (K:=K)) (pv 1) zae (fun _ _=>rfl)) (zaa (zaq (zbr (K:=K)) (pv 1) zae (fun _ _=>rfl)) zad)))))))))),?_⟩
 have hwl:=W.len;refine ⟨_,rfl,_,_,_,_,rfl,rfl,SqT.of S.st,rfl,_,rfl,t,wa,ps,wy,rfl,S.tr,by have:=S.few;omega,W,?_⟩;refine ⟨_,rfl,_,_,_,_,rfl,rfl,SqT.of S.st,rfl,_,rfl,st,ps,rows,t,rs,as,rfl,S,fun pf qs H1 hpf s1 h1 _ _ _ hF=>?_⟩;refine ⟨_,rfl,_,rfl,st,t,rs,pf,wa,key,ps,rows,as,qs,wy,rfl,S.same s1,h1,hF,W.same s1,TT.ext s1.ext,fun D zs H2 hDn k2 T2 h2 hA=>?_⟩;have kp2':Kp2 mF mS H H2:=fun b o n1 n2 e=>k2 b o n1 n2 (s1 _ _ e);have kp2:Kp0 H H2:=kp2'.kp0 TT;have W2:=zf9 kp2 W;have hzl:=hA.length;rw[yaa]at hzl;refine ⟨_,rfl,_,rfl,wa,D,rfl,⟨_,SqL.of W2.at_⟩,⟨_,SqL.of h2⟩,fun D2 hD2=>?_⟩;refine zi8 W2 h2 hA hD2 fun us H3 s23 h3 hP=>?_;refine q D2 us H3 ?_ (fun b o n1 n2 e=>s23 _ _ (kp2' b o n1 n2 e)) (T2.ext s23.ext) h3 hP;cases e:H D2 with
 | none=>rfl
 | some o=>
  have h:D2≠mF∧D2≠mS:=by
   constructor
   ·intro z;obtain ⟨tab,e2⟩:=zaM T2.f;rw[← z,hD2]at e2;cases e2
   ·intro z;obtain ⟨tab,e2⟩:=zaM T2.s;rw[← z,hD2]at e2;cases e2
  have:=kp2' _ _ h.1 h.2 e;rw[hD2]at this;cases this
def cntB (l:List Int)(key:Int):Nat:=(l.filter fun x=>decide (x < key)).length
def zj9 (K:Frag):Sp:=fun vs H Q _=>∃(r:Addr) (row:List Int) (key:Int),vs=[.ref r,.int key]∧(H r=some (.lst (row.map V.int))∨H r=some (.tup (row.map V.int)))∧row.length≤900∧∀ H',Same H H'→Q (.int (cntB row key:Nat)) H'
theorem zmE (T:Txt K mg)(qbO:DF K mg "_law_below" zeG zdY):FC P w K mg base 1 "_law_below" zdY (zj9 K):=by
 refine qbO.ok qcH (fun vs H Q E h=>?_) (fun f cdv A outer s H vs Q E hr h=>?_)
 ·obtain ⟨r,row,key,rfl,_⟩:=h;rfl
 obtain ⟨r,row,key,rfl,h0,hz,q⟩:=h;refine ⟨_,(zag (zas (zau zar rfl T.qat boot_len (zaa (zbd (N:=["_law_one","_law_key_here"]) (own:=1) (cap:=[1]) rfl (zrk (pv 0)) ⟨rfl,rfl,rfl,rfl,rfl,rfl⟩ (fun _ _ _ _ _=>(zan (i:=0) (show List.Nodup (["_law_one","_law_key_here"]:List Str) by decide +kernel) rfl (Or.inl rfl))) (fun _ _ _ _ _=>(zek (zay zgm (pv 0) (pv 1) (zaA _)))) (fun _ _ _ _ _=>(pv 0))) zad)))),?_⟩;have hs:∀(D:Addr) (i m:Nat) (x:V) (σ:L2.St) (H2:Hp),(row.map V.int)[i]?=some x→i+m=(row.map V.int).length→(∃ x0:Option V,σ=[x0,some (.int key)]∧H2 D=some (.lst (((row.take i).filter fun x=>decide (x < key)).map V.int))∧But D H H2)→zgR 0 x σ H2 fun σ2 H2=>zn0 (tOp (rI0 fun i j=>.bl (decide (i < j))) (tVar 0) (tVar 1)) σ2 H2 fun b H3=>if b=true then tVar 0 σ2 H3 fun y H4=>∃ zs,H4 D=some (.lst zs)∧zs.length < sizeLine∧∃ m',m' < m∧i+1+m'=(row.map V.int).length∧∃ x0:Option V,σ2=[x0,some (.int key)]∧upd H4 D (.lst (zs++[y])) D=some (.lst (((row.take (i+1)).filter fun x=>decide (x < key)).map V.int))∧But D H (upd H4 D (.lst (zs++[y]))) else ∃ m',m' < m∧i+1+m'=(row.map V.int).length∧∃ x0:Option V,σ2=[x0,some (.int key)]∧H3 D=some (.lst (((row.take (i+1)).filter fun x=>decide (x < key)).map V.int))∧But D H H3:=by
  rintro D i m x σ H2 hx hm ⟨x0,rfl,h2,k2⟩;rw[yal]at hx;obtain ⟨y,hy,rfl⟩:=ya8.mp hx;obtain ⟨hi,rfl⟩:=yah.mp hy;rw[yaa]at hm;have hfl:=ybb (fun x=>decide (x < key)) (row.take i);rw[yao]at hfl;rw[yaA hi,yaT];refine ⟨_,rfl,_,rfl,_,_,rfl,rfl,_,rfl,?_⟩;refine ite2 (fun c=>?_) (fun c=>?_)
  ·refine ⟨_,rfl,_,h2,zam (by rw[yaa];omega),m - 1,by omega,by rw[yaa];omega,_,rfl,?_,fun b o n e=>by rw[zaf n];exact k2 b o n e⟩;have ef:[row[i]].filter (fun x=>decide (x < key))=[row[i]]:=yaL (p:=fun x=>decide (x < key)) c;rw[zac,yan,ef];rfl
  ·refine ⟨m - 1,by omega,by rw[yaa];omega,_,rfl,?_,k2⟩;have ef:[row[i]].filter (fun x=>decide (x < key))=[]:=yaS (p:=fun x=>decide (x < key)) c;rw[h2,ef,yaN]
 have hd:∀(D:Addr),H D=none→∀(σ:L2.St) (H2:Hp),(∃ x0:Option V,σ=[x0,some (.int key)]∧H2 D=some (.lst (((row.take (row.map V.int).length).filter fun x=>decide (x < key)).map V.int))∧But D H H2)→∃ p ys,[V.ref D]=[.ref p]∧(SqL K H2 p ys∨SqT K H2 p ys)∧Q (.int (ys.length:Nat)) H2:=by
  rintro D hD σ H2 ⟨x0,rfl,h2,k2⟩;rw[yaa,yar (yab _)]at h2;refine ⟨D,_,rfl,.inl (SqL.of h2),?_⟩;have q2:=q H2 fun b o e=>k2 b o (zab e hD) e;unfold cntB at q2;rw[yaa];exact q2
 rcases h0 with h0 | h0
 ·refine ⟨_,rfl,r,rfl,.inl ⟨⟨_,SqL.of h0⟩,fun D hD=>?_⟩⟩;exact zaT (xs:=row.map V.int) (fun i σ H2=>∃ x0:Option V,σ=[x0,some (.int key)]∧H2 D=some (.lst (((row.take i).filter fun x=>decide (x < key)).map V.int))∧But D H H2) ⟨_,rfl,zac,fun b o n e=>by rw[zaf n];exact e⟩ (fun i σ H2 _ zq0=>(by obtain ⟨x0,_,_,k2⟩:=zq0;exact k2.sq (SqL.of h0) hD)) (hs D) (hd D hD)
 ·refine ⟨_,rfl,r,rfl,.inr ⟨⟨_,SqT.of h0⟩,fun D hD=>?_⟩⟩;exact zf7 (xs:=row.map V.int) (fun i σ H2=>∃ x0:Option V,σ=[x0,some (.int key)]∧H2 D=some (.lst (((row.take i).filter fun x=>decide (x < key)).map V.int))∧But D H H2) ⟨_,rfl,zac,fun b o n e=>by rw[zaf n];exact e⟩ (fun i σ H2 _ zq0=>(by obtain ⟨x0,_,_,k2⟩:=zq0;exact SqT.of (k2 _ _ (zab h0 hD) h0))) (hs D) (hd D hD)
abbrev Tr3:=Int×Int×Int
inductive zcn (K:Frag)(H:Hp):V→Option Tr3→Prop where
 | good (u:Addr) (a b c:Int) (h:H u=some (.tup [.int a,.int b,.int c])):zcn K H (.ref u) (some (a,b,c))
 | kind (x:V) (t:String) (ty:TyOf K H x (.type t)) (h:kitO t "tuple" = some false):zcn K H x none
 | long (u:Addr) (zs:List V) (h:H u=some (.tup zs)) (hz:zs.length≠3):zcn K H (.ref u) none
 | part (u:Addr) (x y z:V) (b1 b2 b3:Bool) (h:H u=some (.tup [x,y,z])) (h1:zb8 K H x b1) (h2:zb8 K H y b2) (h3:zb8 K H z b3) (hf:(b1 && b2 && b3)=false):zcn K H (.ref u) none
def zka (K:Frag):Sp:=fun vs H Q _=>∃(x:V) (o:Option Tr3),vs=[x]∧zcn K H x o∧∀ H',Same H H'→Q (.bl o.isSome) H'
theorem _root_.L2.TyOf.same {K:Frag}{H H':Hp}{x:V}{n:String}(s:Same H H')(h:TyOf K H x (.type n)):TyOf K H' x (.type n):=by
 cases h with
 | non=>exact .non
 | bl b=>exact .bl b
 | int i=>exact .int i
 | str y=>exact .str y
 | flt y=>exact .flt y
 | lst e=>exact .lst (s _ _ e)
 | frz e=>exact .frz (s _ _ e)
 | tup e=>exact .tup (s _ _ e)
 | dK e=>exact .dK (s _ _ e)
 | dT e=>exact .dT (s _ _ e)
theorem zb8.same {K:Frag}{H H':Hp}{x:V}{b:Bool}(s:Same H H')(h:zb8 K H x b):zb8 K H' x b:=by
 cases h with
 | int i=>exact .int i
 | bl b=>exact .bl b
 | oth x t ty h2=>exact .oth x t (ty.same s) h2
theorem zcn.same {K:Frag}{H H':Hp}{x:V}{o:Option Tr3}(s:Same H H')(h:zcn K H x o):zcn K H' x o:=by
 cases h with
 | good u a b c h=>exact .good u a b c (s _ _ h)
 | kind x t ty h=>exact .kind x t (ty.same s) h
 | long u zs h hz=>exact .long u zs (s _ _ h) hz
 | part u x y z b1 b2 b3 h h1 h2 h3 hf=>exact .part u x y z b1 b2 b3 (s _ _ h) (h1.same s) (h2.same s) (h3.same s) hf
theorem zqq {c A B:Prop}[Decidable c](hc:¬ c)(h:A):if (!decide c)=true then A else B:=by
 rw[yai hc];exact h
theorem zmH (T:Txt K mg)(qbP:DF K mg "is_line" zeI zd0)(qbr:FC P w K mg base 1 "is_whole" zcC (zjc K)):FC P w K mg base 2 "is_line" zd0 (zka K):=by
 refine qbP.ok qcE (fun vs H Q E h=>?_) (fun f cdv A outer s H vs Q E hr h=>?_)
 ·obtain ⟨x,o,rfl,_⟩:=h;rfl
 obtain ⟨x,o,rfl,hL,q⟩:=h;refine ⟨_,(zbk (zbu (PW.pt (ziq (zeb (zdo (zau ze6 rfl T.qas boot_isinstance (zaa (pv 0) (zaa (zgj (v:=.ty "tuple") rfl T.qb3 boot_tuple rfl) zad))))) (zfm (zay zop (zau zar rfl T.qat boot_len (zaa (pv 0) zad)) zae (zaA _))))) (zag (zas zcf)) zaI)
   (zag (zas (zau (zgI rfl) rfl T.qda boot_all (zaa (zbd (N:=["part"]) (own:=1) (cap:=[]) rfl (zg7 (pv 0)) ⟨rfl,rfl,rfl,rfl,rfl,rfl⟩ (fun _ _ _ _ _=>(zan (i:=0) (show List.Nodup (["part"]:List Str) by decide +kernel) rfl (Or.inl rfl))) (fun _ _ _ _ _=>zbj) (fun _ _ _ _ _=>(zav qbr hr (zaa (pv 0) zad)))) zad))))),?_⟩
 have key:(∃ t,TyOf K H x (.type t)∧kitO t "tuple" = some false∧o.isSome=false)∨(∃ u zs,x=.ref u∧H u=some (.tup zs)∧zs.length≠3∧o.isSome=false)∨∃ u x1 x2 x3 b1 b2 b3,x=.ref u∧H u=some (.tup [x1,x2,x3])∧zb8 K H x1 b1∧zb8 K H x2 b2∧zb8 K H x3 b3∧o.isSome=(b1 && b2 && b3):=by
  cases hL with
  | good u a b c h=>exact .inr (.inr ⟨u,_,_,_,true,true,true,rfl,h,.int a,.int b,.int c,rfl⟩)
  | kind x t ty h=>exact .inl ⟨t,ty,h,rfl⟩
  | long u zs h hz=>exact .inr (.inl ⟨u,zs,rfl,h,hz,rfl⟩)
  | part u x y z b1 b2 b3 h h1 h2 h3 hf=>exact .inr (.inr ⟨u,x,y,z,b1,b2,b3,rfl,h,h1,h2,h3,hf.symm⟩)
 clear hL;rcases key with ⟨t,ty,hk,e⟩ | ⟨u,zs,rfl,hu,hz,e⟩ | ⟨u,x1,x2,x3,b1,b2,b3,rfl,hu,h1,h2,h3,e⟩
 ·rw[e]at q;refine ⟨fun _ _=>False,?_,fun _ _ z=>z.elim⟩;refine ⟨_,rfl,_,_,_,_,rfl,ty,hk,_,rfl,?_⟩;exact iteT (q H fun _ _ e=>e)
 ·rw[e]at q;refine ⟨fun _ _=>False,?_,fun _ _ z=>z.elim⟩;refine ⟨_,rfl,_,_,_,_,rfl,.tup hu,zpz,_,rfl,?_⟩;refine iteF ?_;refine ⟨_,rfl,_,_,rfl,.inr (SqT.of hu),rfl,_,rfl,?_⟩;refine zqq (fun z=>hz (by have:=V.int.inj z;omega)) (q H fun _ _ e=>e)
 ·rw[e]at q;refine ⟨fun σ' H'=>σ'=[some (.ref u)]∧H=H',?_,?_⟩
  ·refine ⟨_,rfl,_,_,_,_,rfl,.tup hu,zpz,_,rfl,?_⟩;refine iteF ?_;refine ⟨_,rfl,_,_,rfl,.inr (SqT.of hu),rfl,_,rfl,?_⟩;exact zgQ rfl ⟨rfl,rfl⟩
  rintro _ _ ⟨rfl,rfl⟩;refine ⟨_,rfl,u,rfl,⟨_,SqT.of hu⟩,fun D hD=>?_⟩;have hget:∀(i:Nat) (v:V),[x1,x2,x3][i]?=some v→∃ b,[b1,b2,b3][i]?=some b∧zb8 K H v b:=fun i v hv=>by
   rcases i with _ | _ | _ | i
   ·cases hv;exact ⟨_,rfl,h1⟩
   ·cases hv;exact ⟨_,rfl,h2⟩
   ·cases hv;exact ⟨_,rfl,h3⟩
   ·cases hv
  refine zf7 (xs:=[x1,x2,x3]) (fun i σ H2=>∃ x0:Option V,σ=[x0]∧H2 D=some (.lst (([b1,b2,b3].take i).map V.bl))∧But D H H2) ?_ ?_ ?_ ?_
  ·exact ⟨_,rfl,zac,fun b o n e=>by rw[zaf n];exact e⟩
  ·rintro i σ H2 _ ⟨x0,rfl,_,k2⟩;exact SqT.of (k2 _ _ (zab hu hD) hu)
  ·rintro i m v σ H2 hv hm ⟨x0,rfl,h2',k2⟩;have hi:=(yah.mp hv).1;obtain ⟨b,hb,hw⟩:=hget i v hv;have s2:Same H H2:=fun b o e=>k2 b o (zab e hD) e;have hm3:i+m=3:=hm;have hi3:i < 3:=hi;refine zcU ?_;refine ⟨_,rfl,_,b,rfl,hw.same s2,_,h2',zam (by rw[yaa,yao];omega),m - 1,by omega,(by show i+1+(m - 1)=3;omega),_,rfl,?_,fun b o n e=>by rw[zaf n];exact k2 b o n e⟩;obtain ⟨hj,rfl⟩:=yah.mp hb;rw[zac,yaA hj,yan];rfl
  ·rintro σ H2 ⟨x0,rfl,h2',k2⟩;refine ⟨D,[b1,b2,b3],rfl,SqL.of h2',?_⟩;have:=q H2 fun b o e=>k2 b o (zab e hD) e;have e3:[b1,b2,b3].all id=(b1 && b2 && b3):=by cases b1 <;> cases b2 <;> cases b3 <;> rfl
   rw[e3];exact this
def zih (K:Frag):Sp:=fun vs H Q _=>∃(q:Addr) (at_ key:Int) (ws:List V) (es:List En),vs=[.ref q,.int at_,.int key]∧H q=some (.lst ws)∧zao K H es ws∧Rise es∧es.length≤2000∧Q (.bl (decide (at_=((zal es key:Nat):Int)))) H
theorem zlb (T:Txt K mg)(qaP:DF K mg "is_place_in" zcr zci):FC P w K mg base 1 "is_place_in" zci (zih K):=by
 refine qaP.ok qbV (fun vs H Q E h=>?_) (fun f cdv A outer s H vs Q E hr h=>?_)
 ·obtain ⟨q,a,key,ws,es,rfl,_⟩:=h;rfl
 obtain ⟨q,a,key,ws,es,rfl,hq,hw,hr',hz,Q0⟩:=h;refine ⟨_,(zbk (zbu (zeb (zod zmv zmv zae (pv 1) (zau zar rfl T.qat boot_len (zaa (pv 0) zad)))) (zag (zas zcf)) zaI)
   (zbk (zbu (PW.pt (zg5 (zay zjj (pv 1) zae (zaA _)) (zfe (zay zoq (zaq zaF (zaq zax (pv 0) (zaz zck (pv 1) zae) (fun _ _=>rfl)) zae (fun _ _=>rfl)) (pv 2) (zaA _))))) (zag (zas zcf)) zaI)
   (zag (zas (zsh (zdf zeo (pv 1) (zau zar rfl T.qat boot_len (zaa (pv 0) zad)) (zaA _)) (zkm (zdf zoq (zaq zaF (zaq zax (pv 0) (pv 1) (fun _ _=>rfl)) zae (fun _ _=>rfl)) (pv 2) (zaA _)))))))),?_⟩
 have wl:=hw.length;have hF:=zdR hr';have hle:=zb7 es key;have hget:∀ i,i < es.length→∃ b e y,ws[i]?=some (.ref b)∧es[i]?=some e∧H b=some (.tup [.int e.1,y])∧(e.1 < key↔i < zal es key):=fun i hi=>by
  obtain ⟨v,hv⟩:∃ v,ws[i]?=some v:=⟨_,yac (by omega)⟩;obtain ⟨e,he,b,y1,y2,rfl,hb,f1,f2⟩:=hw.get hv;have e1:y1=.int e.1:=f1;subst e1;refine ⟨b,e,y2,hv,he,hb,?_⟩;obtain ⟨hi',rfl⟩:=yah.mp he;obtain ⟨z1,z2⟩:=zcI (key:=key) hF;constructor
  ·intro h;refine ycc fun c=>?_;refine z2 es[i] ?_ h;rw[List.mem_drop_iff_getElem];exact ⟨i - zal es key,by omega,by congr 1;omega⟩
  ·intro h;refine z1 es[i] ?_;rw[ycl];exact ⟨i,by omega,rfl⟩
 have no:a≠((zal es key:Nat):Int)→Q (.bl false) H:=fun z=>by
  rw[yai z]at Q0;exact Q0
 refine ⟨fun σ' H'=>σ'=[some (.ref q),some (.int a),some (.int key)]∧H=H'∧0≤a∧a≤(es.length:Int),?_,?_⟩
 ·refine ⟨_,rfl,_,_,rfl,rfl,_,rfl,?_⟩;refine ite2 (fun c=>?_) (fun c=>?_)
  ·have c':(0:Int)≤a:=yaB c;refine ⟨_,rfl,_,_,rfl,.inl (SqL.of hq),_,_,rfl,rfl,_,rfl,?_⟩;rw[← wl];by_cases c2:a≤(es.length:Int)
   ·rw[yag c2];exact iteF ⟨rfl,rfl,c',c2⟩
   ·rw[yai c2];exact iteT (no (by omega))
  ·have c':¬ (0:Int)≤a:=fun z=>c (yag z);exact ⟨_,rfl,iteT (no (by omega))⟩
 rintro _ _ ⟨rfl,rfl,h0,h1⟩;obtain ⟨n,rfl⟩:∃ n:Nat,a=n:=⟨a.toNat,by omega⟩;refine ⟨fun σ' H'=>σ'=[some (.ref q),some (.int n),some (.int key)]∧H=H'∧n≤zal es key,?_,?_⟩
 ·refine ⟨_,rfl,_,_,rfl,rfl,_,rfl,?_⟩;refine ite2 (fun c=>?_) (fun c=>?_)
  ·have c':(0:Int) < (n:Int):=yaB c;obtain ⟨b,e,y,hb1,hb2,hb3,hb4⟩:=hget (n - 1) (by omega);have hat:atI ws ((n:Int) - 1)=some (.ref b):=by
    rw[show (n:Int) - 1=((n - 1:Nat):Int) by omega];exact zaP hb1
   refine ⟨_,rfl,_,rfl,_,_,rfl,rfl,_,_,_,_,rfl,rfl,SqL.of hq,hat,_,_,_,_,rfl,rfl,SqT.of hb3,rfl,_,rfl,_,_,rfl,rfl,_,rfl,?_⟩;by_cases c2:key≤e.1
   ·rw[yag c2];exact iteT (no (by omega))
   ·rw[yai c2];exact iteF ⟨rfl,rfl,by omega⟩
  ·have c':¬ (0:Int) < (n:Int):=fun z=>c (yag z);exact iteF ⟨rfl,rfl,by omega⟩
 rintro _ _ ⟨rfl,rfl,hn⟩;refine ⟨_,rfl,_,rfl,_,_,rfl,.inl (SqL.of hq),rfl,_,rfl,?_⟩;rw[← wl];by_cases c:n=es.length
 ·rw[yag (show V.int (n:Int)=V.int (es.length:Int) by rw[c])];refine iteT ?_;rw[yag (show (n:Int)=((zal es key:Nat):Int) by omega)]at Q0;exact Q0
 ·rw[yai (fun z=>c (by have:=V.int.inj z;omega))];refine iteF ?_;obtain ⟨b,e,y,hb1,hb2,hb3,hb4⟩:=hget n (by omega);refine ⟨_,rfl,_,rfl,_,_,_,_,rfl,rfl,SqL.of hq,zaP hb1,_,_,_,_,rfl,rfl,SqT.of hb3,rfl,_,rfl,_,_,rfl,rfl,?_⟩;have e1:decide (key≤e.1)=decide ((n:Int)=((zal es key:Nat):Int)):=by
   rw[ybP,decide_eq_true_iff,decide_eq_true_iff];omega
  show Q (.bl (decide (key≤e.1))) H;rw[e1];exact Q0
def zpk (K:Frag):Sp:=fun vs H Q _=>∃(br u v:Addr) (ps:List Nat) (rows:List (List Int)) (xs:List V) (k c:Nat) (key:Int),vs=[.ref br,.ref u,.ref v]∧H br=some (.lst xs)∧Paired (BrAt [] H ps rows) (List.range (ps.length+1)) xs∧zaE ps∧za5 rows∧ps.length≤40∧k < ps.length+1∧par ps c=some k∧zbJ H ps rows key k (.ref u)∧zbJ H ps rows key c (.ref v)∧∀ H',Same H H'→Q (.bl true) H'
theorem zqa (T:Txt K mg)(qaD:DF K mg "is_near_start" zbY zbQ)(qbu:FC P w K mg base 1 "start_in" zcB (zjd K)):FC P w K mg base 2 "is_near_start" zbQ (zpk K):=by
 refine qaD.ok qaR (fun vs H Q E h=>?_) (fun f cdv A outer s H vs Q E hr h=>?_)
 ·obtain ⟨br,u,v,ps,rows,xs,k,c,key,rfl,_⟩:=h;rfl
 obtain ⟨br,u,v,ps,rows,xs,k,c,key,rfl,hbr,hB,hT,hR,few,hk,hc,⟨u',e1,hu⟩,⟨v',e2,hv⟩,q⟩:=h;cases e1
 cases e2
 refine ⟨_,(zaj (zat (i:=3) qaR.nd rfl (Or.inl rfl) (zav qbu hr (zaa (pv 0) (zaa (zaq zaF (pv 1) zae (fun _ _=>rfl)) (zaa (zaq zaF (pv 1) zae (fun _ _=>rfl)) (zaa (zaq zaF (pv 2) zae (fun _ _=>rfl)) zad))))))
   (zag (zas (zkp zmv zmv (pv 3) (zaq zaF (pv 2) zae (fun _ _=>rfl)) (zaz za4 (pv 3) (zfW rfl T.qaB)))))),?_⟩
 refine ⟨_,rfl,_,rfl,_,_,_,_,rfl,rfl,SqT.of hu,rfl,_,rfl,_,_,_,_,rfl,rfl,SqT.of hu,rfl,_,rfl,_,_,_,_,rfl,rfl,SqT.of hv,rfl,[],br,ps,rows,xs,k,c,zal (zak ps rows k) key,rfl,hbr,hB,hT,hk,hc,zb7 _ _,fun H1 s1=>?_⟩;refine ⟨_,rfl,_,rfl,_,_,_,_,rfl,rfl,SqT.of (s1 _ _ hv),rfl,_,_,rfl,rfl,_,rfl,?_⟩;have NO:=zjm hT hR few hk hc (rows:=rows) key;have n1:=NO.lo;have n2:=NO.hi;rw[yag (show ((stN (zak ps rows c) ((zak ps rows k).take (zal (zak ps rows k) key)):Nat):Int)≤((zal (zak ps rows c) key:Nat):Int) by omega)];refine iteT ?_;refine ⟨_,rfl,_,_,rfl,rfl,_,_,rfl,rfl,?_⟩;show Q (.bl (decide _)) H1;rw[yag (show ((zal (zak ps rows c) key:Nat):Int)≤((stN (zak ps rows c) ((zak ps rows k).take (zal (zak ps rows k) key)):Nat):Int)+2 by omega)];exact q _ s1
theorem zo9 {os:List (Option Tr3)}(h:∀ o∈os,o.isSome=true):∃ ts:List Tr3,os=ts.map some:=by
 induction os with
 | nil=>exact ⟨[],rfl⟩
 | cons o os ih=>
  obtain ⟨ts,e⟩:=ih fun x hx=>h x (yau _ hx);obtain ⟨t,et⟩:=yb0.mp (h o yav);exact ⟨t::ts,by rw[e,et];rfl⟩
theorem zcn.some_at {K:Frag}{H:Hp}{x:V}{t:Tr3}(h:zcn K H x (some t)):∃ u,x=.ref u∧H u=some (.tup [.int t.1,.int t.2.1,.int t.2.2]):=by
 cases h with
 | good u a b c h=>exact ⟨u,rfl,h⟩
def zfB (ps:List Nat)(rows:List (List Int))(key:Int)(k:Nat):Tr3:=((k:Int),((zal (zak ps rows k) key:Nat):Int),((ownB rows k key:Nat):Int))
def dueO (ps:List Nat)(rows:List (List Int))(key:Int)(wy:List Nat):List (Option Tr3):=wy.map fun k=>some (zfB ps rows key k)
def zpl (K:Frag):Sp:=fun vs H Q _=>∃(st wa pp:Addr) (key:Int) (ps:List Nat) (rows:List (List Int)) (t rs:Addr) (as:List Addr) (wy:List Nat) (zs:List V) (os:List (Option Tr3)),vs=[.ref st,.ref wa,.int key,.ref pp]∧zaO H st ps rows t rs as∧zbp H wa ps wy∧H pp=some (.lst zs)∧Paired (zcn K H) zs os∧zs.length≤200∧∀ H',Same H H'→Q (.bl (decide (os=dueO ps rows key wy))) H'
theorem zqd (T:Txt K mg)(qbQ:DF K mg "lets_by" zeC zdU)(qaq:FC P w K mg base 4 "need_way" zbT (zii K))(qcT:FC P w K mg base 2 "is_line" zd0 (zka K))(qaf:FC P w K mg base 8 "full_rows" zbf (zfb K))(qau:FC P w K mg base 2 "bridges_of" zbD (zkd K))(qce:FC P w K mg base 1 "is_place_in" zci (zih K))(qbR:FC P w K mg base 2 "is_near_start" zbQ (zpk K)):FC P w K mg base 9 "lets_by" zdU (zpl K):=by
 refine qbQ.ok qa2 (fun vs H Q E h=>?_) (fun f cdv A outer s H vs Q E hr h=>?_)
 ·obtain ⟨st,wa,pp,key,ps,rows,t,rs,as,wy,zs,os,rfl,_⟩:=h;rfl
 obtain ⟨st,wa,pp,key,ps,rows,t,rs,as,wy,zs,os,rfl,S,W,hpp,hP,hz,q⟩:=h;refine ⟨_,(zaw (zaW (zav qaq hr (zaa (zaq zaF (pv 0) zae (fun _ _=>rfl)) (zaa (pv 1) zad))))
   (zbZ (zbu (PW.pt (ziq (zeb (zdo (zau ze6 rfl T.qas boot_isinstance (zaa (pv 3) (zaa (zgj (v:=.ty "list") rfl T.qby boot_list rfl) zad))))) (zfm (zeb (zdo (zau (zgI rfl) rfl T.qda boot_all (zaa (zbd (N:=["thing"]) (own:=1) (cap:=[]) rfl (za1 (pv 3)) ⟨rfl,rfl,rfl,rfl,rfl,rfl⟩ (fun _ _ _ _ _=>(zan (i:=0) (show List.Nodup (["thing"]:List Str) by decide +kernel) rfl (Or.inl rfl))) (fun _ _ _ _ _=>zbj) (fun _ _ _ _ _=>(zav qcT hr (zaa (pv 0) zad)))) zad))))))) (zag (zas zcf)) zaI)
   (zbZ (zbu (zay (zgl (List Int) (huD hr)) (zbd (N:=["line"]) (own:=1) (cap:=[]) rfl (za1 (pv 3)) ⟨rfl,rfl,rfl,rfl,rfl,rfl⟩ (fun _ _ _ _ _=>(zan (i:=0) (show List.Nodup (["line"]:List Str) by decide +kernel) rfl (Or.inl rfl))) (fun _ _ _ _ _=>zbj) (fun _ _ _ _ _=>(zaq (zbr (K:=K)) (pv 0) zae (fun _ _=>rfl)))) (pv 1) (zaA _)) (zag (zas zcf)) zaI)
   (zaw (zat (i:=4) qa2.nd rfl (Or.inl rfl) (zav qaf hr (zaa (pv 0) zad)))
   (zaw (zat (i:=5) qa2.nd rfl (Or.inr rfl) (zav qau hr (zaa (zaq zaF (pv 0) zae (fun _ _=>rfl)) (zaa (pv 4) zad))))
   (zaw (zbb PassesOwn.never rfl (za1 (pv 3)) (zan (i:=6) qa2.nd rfl (Or.inl rfl)) (zag (zbu (PW.pt (ziq (zeb (zdo (zav qce hr (zaa (zaq zax (pv 4) (zaq zaF (pv 6) zae (fun _ _=>rfl)) (fun _ _=>rfl)) (zaa (zaq zaF (pv 6) zae (fun _ _=>rfl)) (zaa (pv 2) zad)))))) (zfm (zay zop (zaq zaF (pv 6) zae (fun _ _=>rfl)) (zaq zax (zaq zaF (zaq zax (pv 5) (zaq zaF (pv 6) zae (fun _ _=>rfl)) (fun _ _=>rfl)) zae (fun _ _=>rfl)) (zaq zaF (pv 6) zae (fun _ _=>rfl)) (fun _ _=>rfl)) (zaA _))))) (zag (zas zcf)) zaI)))
   (zag (zas (zau (zgI rfl) rfl T.qda boot_all (zaa (zbd (N:=["line","below","bridges"]) (own:=2) (cap:=[5]) rfl (zgg rfl T.qcq (zaa (pv 3) (zaa (zbR zco (pv 3) (zb3 zae) zcX) zad))) ⟨rfl,rfl,rfl,rfl,rfl,rfl⟩ (fun _ _ _ _ _=>(zff (K:=K) (n:=2) rfl (zaG (zan (i:=0) (show List.Nodup (["line","below","bridges"]:List Str) by decide +kernel) rfl (Or.inl rfl)) (zaG (zan (i:=1) (show List.Nodup (["line","below","bridges"]:List Str) by decide +kernel) rfl (Or.inl rfl)) zce)))) (fun _ _ _ _ _=>zbj) (fun _ _ _ _ _=>(zav qbR hr (zaa (pv 2) (zaa (pv 0) (zaa (pv 1) zad)))))) zad)))))))))),?_⟩
 intro N1 n1;have few:=S.few;have hlen:=S.len;have hkeys:=S.keys;have wl:=W.len;have zl:=hP.length;refine ⟨_,rfl,_,_,_,_,rfl,rfl,SqT.of S.st,rfl,_,rfl,t,wa,ps,wy,rfl,S.tr,by omega,W,n1 _ _ ?_⟩;have no:∀ H',Same H H'→os≠dueO ps rows key wy→Q (.bl false) H':=fun H' s' z=>by
  have:=q H' s';rw[yai z]at this;exact this
 refine ⟨fun σ' H'=>σ'=[some (.ref st),some (.ref wa),some (.int key),some (.ref pp),none,none,none]∧Same H H'∧∀ o∈os,o.isSome=true,?_,?_⟩
 ·intro N2 n2;refine ⟨_,rfl,_,_,_,_,rfl,.lst hpp,zpA,_,rfl,iteF ?_⟩;refine ⟨_,rfl,pp,rfl,⟨_,SqL.of hpp⟩,fun D hD=>?_⟩;refine zaT (xs:=zs) (fun i σ H2=>∃ x0:Option V,σ=[x0]∧H2 D=some (.lst (((os.take i).map Option.isSome).map V.bl))∧But D H H2) ?_ ?_ ?_ ?_
  ·exact ⟨_,rfl,zac,fun b o n e=>by rw[zaf n];exact e⟩
  ·rintro i σ H2 _ ⟨x0,rfl,_,k2⟩;exact SqL.of (k2 _ _ (zab hpp hD) hpp)
  ·rintro i m v σ H2 hv hm ⟨x0,rfl,h2,k2⟩;have hi:=(yah.mp hv).1;obtain ⟨o,ho,hL⟩:=zaS hP hv;have s2:Same H H2:=fun b o e=>k2 b o (zab e hD) e;refine zcU ?_;refine ⟨_,rfl,v,o,rfl,hL.same s2,fun H3 s3=>?_⟩;refine ⟨_,s3 _ _ h2,zam (by rw[yaa,yaa,yao];omega),m - 1,by omega,by omega,_,rfl,?_,fun b o n e=>by rw[zaf n];exact s3 _ _ (k2 b o n e)⟩;obtain ⟨hj,rfl⟩:=yah.mp ho;rw[zac,yaA hj,yan,yan];rfl
  ·rintro σ H2 ⟨x0,rfl,h2,k2⟩;have s2:Same H H2:=fun b o e=>k2 b o (zab e hD) e;rw[zl,yar (yab _)]at h2;refine ⟨D,os.map Option.isSome,rfl,SqL.of h2,_,rfl,?_⟩;by_cases c:∀ o∈os,o.isSome=true
   ·have e1:(os.map Option.isSome).all id=true:=yaQ.mpr fun b hb=>by
     obtain ⟨o,ho,rfl⟩:=yaF.mp hb;exact c o ho
    rw[e1];exact iteF (n2 _ _ ⟨rfl,s2,c⟩)
   ·have e1:(os.map Option.isSome).all id=false:=by
     refine ybH.mpr fun z=>c fun o ho=>?_;exact yaQ.mp z _ (List.mem_map_of_mem ho)
    rw[e1];refine iteT (no H2 s2 fun z=>c fun o ho=>?_);rw[z]at ho;obtain ⟨k,_,rfl⟩:=yaF.mp ho;rfl
 rintro _ H1 ⟨rfl,s1,hsome⟩;obtain ⟨ts,rfl⟩:=zo9 hsome;clear hsome;rw[yaa]at zl;have tl:ts.length=zs.length:=zl.symm;have hG:∀(i:Nat) (v:V),zs[i]?=some v→∃(u:Addr) (h:i < ts.length),v=.ref u∧H u=some (.tup [.int ts[i].1,.int ts[i].2.1,.int ts[i].2.2]):=fun i v hv=>by
  obtain ⟨o,ho,hL⟩:=zaS hP hv;rw[yal]at ho;obtain ⟨t,ht,rfl⟩:=ya8.mp ho;obtain ⟨hi,rfl⟩:=yah.mp ht;obtain ⟨u,e,hu⟩:=hL.some_at;exact ⟨u,hi,e,hu⟩
 clear hP;have hpp1:=s1 _ _ hpp;refine ⟨fun σ' H'=>σ'=[some (.ref st),some (.ref wa),some (.int key),some (.ref pp),none,none,none]∧Same H H'∧ts.map (·.1)=wy.map (fun n:Nat=>(n:Int)),?_,?_⟩
 ·intro N2 n2;refine ⟨_,rfl,pp,rfl,⟨_,SqL.of hpp1⟩,fun D hD=>?_⟩;refine zaT (xs:=zs) (fun i σ H2=>∃ x0:Option V,σ=[x0]∧H2 D=some (.lst (((ts.take i).map (·.1)).map V.int))∧But D H1 H2) ?_ ?_ ?_ ?_
  ·exact ⟨_,rfl,zac,fun b o n e=>by rw[zaf n];exact e⟩
  ·rintro i σ H2 _ ⟨x0,rfl,_,k2⟩;exact SqL.of (k2 _ _ (zab hpp1 hD) hpp1)
  ·rintro i m v σ H2 hv hm ⟨x0,rfl,h2,k2⟩;obtain ⟨u,hi,rfl,hu⟩:=hG i v hv;have hu1:=s1 _ _ hu;refine zcU ?_;refine ⟨_,rfl,_,_,_,_,rfl,rfl,SqT.of (k2 _ _ (zab hu1 hD) hu1),rfl,?_⟩;refine ⟨_,h2,zam (by rw[yaa,yaa,yao];omega),m - 1,by omega,by omega,_,rfl,?_,fun b o n e=>by rw[zaf n];exact k2 b o n e⟩;rw[zac,yaA hi,yan,yan];rfl
  ·rintro σ H2 ⟨x0,rfl,h2,k2⟩;have s2:Same H1 H2:=fun b o e=>k2 b o (zab e hD) e;have s02:=s1.trans s2;rw[← tl,yar (yab _)]at h2;refine ⟨_,rfl,ts.map (·.1),wy.map (fun n:Nat=>(n:Int)),⟨D,_,rfl,SqL.of h2,zao.ints⟩,⟨_,_,rfl,SqL.of (s02 _ _ W.at_),zkx⟩,_,rfl,?_⟩;by_cases c:ts.map (·.1)=wy.map (fun n:Nat=>(n:Int))
   ·exact zgQ c (n2 _ _ ⟨rfl,s02,c⟩)
   ·refine zqq c (no H2 s02 fun z=>c ?_);have z2:ts=wy.map (zfB ps rows key):=by
     have e0:dueO ps rows key wy=(wy.map (zfB ps rows key)).map some:=by unfold dueO;rw[yaZ];rfl
     rw[e0]at z;exact List.map_inj_right (fun a b h=>yae h) |>.mp z
    rw[z2,yaZ];rfl
 clear hpp1 s1;rintro _ H1 ⟨rfl,s1,hfst⟩;have el:ts.length=wy.length:=by have:=congrArg List.length hfst;rwa[yaa,yaa]at this
 have hk:∀ i (h:i < ts.length),ts[i].1=((wy.getD i 0:Nat):Int)∧wy.getD i 0 < ps.length+1:=fun i h=>by
  have h2:i < wy.length:=by omega
  have:=congrArg (fun l=>l[i]?) hfst;simp only[yal,yac h,yac h2,ybd]at this;refine ⟨?_,W.kn _ (zgW h2)⟩;rw[yad,yac h2];exact yae this
 intro N3 n3;refine ⟨_,rfl,st,ps,rows,t,rs,as,rfl,S.same s1,fun pf qf H2 hpf s2 h2f nd hqf np F=>n3 _ _ ?_⟩;have s02:=s1.trans s2;intro N4 n4;refine ⟨_,rfl,_,_,_,_,rfl,rfl,SqT.of (s02 _ _ S.st),rfl,_,rfl,st,ps,rows,t,rs,as,pf,qf,rfl,S.same s02,h2f,F,fun br xs H3 hbr s3 h3b hB=>n4 _ _ ?_⟩;have s03:=s02.trans s3;have F3:=ze4 (.of s3) F;have h3f:=s3 _ _ h2f;have hpp3:=s03 _ _ hpp;intro N5 n5;refine ⟨_,rfl,pp,rfl,⟨_,SqL.of hpp3⟩,?_⟩;refine zdk (xs:=zs) (fun i σ H'=>∃ x6:Option V,σ=[some (.ref st),some (.ref wa),some (.int key),some (.ref pp),some (.ref pf),some (.ref br),x6]∧H3=H'∧∀ j (h:j < ts.length),j < i→ts[j]=zfB ps rows key (wy.getD j 0)) ?_ ?_ ?_ ?_
 ·exact ⟨_,rfl,rfl,fun j _ hj=>absurd hj (ybD _)⟩
 ·rintro i σ H' _ ⟨x6,rfl,rfl,_⟩;exact SqL.of hpp3
 ·rintro i v σ H' hv ⟨x6,rfl,rfl,old⟩;refine zoT fun N B R hN hB' hR=>?_;obtain ⟨u,hi,rfl,hu⟩:=hG i v hv;have hu3:=s03 _ _ hu;obtain ⟨ek,hkn⟩:=hk i hi;rw[ek]at hu3;obtain ⟨qk,hqk,wk,hwk,hak⟩:=za8 F3 hkn;obtain ⟨xb,hxb,bb,ob,jb,yb,rfl,_,_,hbb,hob,_,_⟩:=za8 hB hkn;have hfl:=zdG S.T S.len (rows:=rows) hkn;have hri:=zaY S.T S.R hkn (rows:=rows);have bad:ts[i]≠zfB ps rows key (wy.getD i 0)→Q (.bl false) H3:=fun z=>no H3 s03 fun w=>z (by
   have:=congrArg (fun l=>l[i]?) w;unfold dueO at this;have h2:i < wy.length:=by omega
   simp only[yal,yac hi,yac h2,ybd]at this;rw[yad,yac h2];exact yae (yae this))
  obtain ⟨k,ek0⟩:∃ k,wy.getD i 0=k:=⟨_,rfl⟩;rw[ek0]at ek hkn hu3 hqk hak hxb hbb hob hfl hri bad;refine ⟨_,rfl,_,rfl,_,_,_,_,rfl,rfl,SqT.of hu3,rfl,_,_,_,_,rfl,rfl,SqL.of h3f,zhl hqk,_,rfl,_,_,_,_,rfl,rfl,SqT.of hu3,rfl,_,rfl,qk,ts[i].2.1,key,wk,_,rfl,hwk,hak,hri,by omega,_,rfl,?_⟩;by_cases c:ts[i].2.1=((zal (zak ps rows k) key:Nat):Int)
  ·rw[yag c];rw[c]at hu3;refine iteF ?_;refine ⟨_,rfl,_,_,_,_,rfl,rfl,SqT.of hu3,rfl,_,rfl,_,rfl,_,_,_,_,rfl,rfl,SqT.of hu3,rfl,_,_,_,_,rfl,rfl,SqL.of h3b,zaP hxb,_,_,_,_,rfl,rfl,SqT.of hbb,rfl,_,rfl,_,_,_,_,rfl,rfl,SqT.of hu3,rfl,_,_,_,_,rfl,rfl,SqL.of hob,zfZ S.T S.R hkn key,rfl,_,rfl,?_⟩;by_cases c2:ts[i].2.2=((ownB rows k key:Nat):Int)
   ·refine zgQ (show V.int _=V.int _ by rw[c2]) (hN _ _ ⟨_,rfl,rfl,fun j hj hji=>?_⟩);rcases Nat.lt_or_ge j i with z | z
    ·exact old j hj z
    ·have:j=i:=by omega
     subst this;rw[ek0];exact Prod.ext ek (Prod.ext c c2)
   ·refine zqq (fun z=>c2 (V.int.inj z)) (hR _ _ (bad fun z=>c2 ?_));rw[z];rfl
  ·rw[yai c];refine iteT (hR _ _ (bad fun z=>c ?_));rw[z];rfl
 ·rintro σ H' ⟨x6,rfl,rfl,old⟩;refine n5 _ _ ?_;have ets:ts=wy.map (zfB ps rows key):=by
   refine List.ext_getElem (by rw[yaa];exact el) fun i h1 h2=>?_;rw[old i h1 (by omega),List.getElem_map,yad,yac (by omega)];rfl
  have yes:∀ H',Same H H'→Q (.bl true) H':=fun H' s'=>by
   have:=q H' s';rw[yag (show ts.map some=dueO ps rows key wy by rw[ets];unfold dueO;rw[yaZ];rfl)]at this;exact this
  have trip:∀(i:Nat) (v:V),zs[i]?=some v→zbJ H3 ps rows key (wy.getD i 0) v:=fun i v hv=>by
   obtain ⟨u,hi,rfl,hu⟩:=hG i v hv;refine ⟨u,rfl,?_⟩;have:=s03 _ _ hu;rw[old i hi (by omega)]at this;exact this
  refine ⟨_,rfl,_,rfl,1,rfl,pp,_,rfl,SqL.of hpp3,fun p hp=>?_⟩;rw[show (1:Int)=((1:Nat):Int) from rfl,zgB];have g4:=zai hp (.lst (zs.drop 1));have w4:upd H3 p (.lst (zs.drop 1)) p=some (.lst (zs.drop 1)):=zac;generalize upd H3 p (.lst (zs.drop 1))=H4 at g4 w4 ⊢;have hpp4:=g4 _ _ hpp3;refine ⟨pp,p,rfl,⟨_,SqL.of hpp4⟩,⟨_,SqL.of w4⟩,fun D hD=>?_⟩;have hdl:(zs.drop 1).length=zs.length - 1:=yaY;refine znB (xs:=zs) (ys:=zs.drop 1) (by omega) (fun i σ H5=>∃ x0 x1:Option V,σ=[x0,x1,some (.ref br)]∧H5 D=some (.lst ((List.replicate i true).map V.bl))∧But D H4 H5) ?_ ?_ ?_ ?_
  ·exact ⟨_,_,rfl,zac,fun b o n e=>by rw[zaf n];exact e⟩
  ·rintro i σ H5 _ ⟨x0,x1,rfl,_,k5⟩;exact ⟨SqL.of (k5 _ _ (zab hpp4 hD) hpp4),SqL.of (k5 _ _ (zab w4 hD) w4)⟩
  ·rintro i m x y σ H5 r hx hy hm ⟨x0,x1,rfl,h5,k5⟩ hr0;rw[ybJ]at hy;obtain ⟨u,eu,hu⟩:=trip i x hx;obtain ⟨v,ev,hv⟩:=trip (1+i) y hy;subst eu ev;have hi1:1+i < zs.length:=(yah.mp hy).1;have gr:=zai hr0 (.tup [V.ref u,V.ref v]);have wr:upd H5 r (.tup [V.ref u,V.ref v]) r=some (.tup [V.ref u,V.ref v]):=zac;generalize upd H5 r (.tup [V.ref u,V.ref v])=H6 at gr wr ⊢;have s36:Same H3 H6:=g4.trans (Same.trans (fun b o e=>k5 b o (zab e hD) e) gr);refine ⟨r,_,rfl,SqT.of wr,rfl,_,_,rfl,_,_,rfl,rfl,?_⟩;refine zjb (iteT ?_);have hpar:par ps (wy.getD (1+i) 0)=some (wy.getD i 0):=by rw[Nat.add_comm];exact W.ch i (by omega)
   refine ⟨_,rfl,_,rfl,_,rfl,br,u,v,ps,rows,xs,wy.getD i 0,wy.getD (1+i) 0,key,rfl,s36 _ _ h3b,zqK (.of s36) hB,S.T,S.R,few,W.kn _ (zgW (by omega)),hpar,⟨u,rfl,s36 _ _ hu⟩,⟨v,rfl,s36 _ _ hv⟩,fun H7 s7=>?_⟩;refine ⟨_,s7 _ _ (gr _ _ h5),zam (by rw[yaa,ya1];omega),m - 1,by omega,by omega,_,_,rfl,?_,fun b o n e=>by rw[zaf n];exact s7 _ _ (gr _ _ (k5 b o n e))⟩;rw[zac,List.replicate_succ',yan];rfl
  ·rintro σ H5 ⟨x0,x1,rfl,h5,k5⟩;refine ⟨D,List.replicate (zs.drop 1).length true,rfl,SqL.of h5,?_⟩;have e1:(List.replicate (zs.drop 1).length true).all id=true:=yaQ.mpr fun b hb=>List.eq_of_mem_replicate hb;rw[e1];exact yes H5 (s03.trans (g4.trans fun b o e=>k5 b o (zab e hD) e))
def zhj (row:List Int)(key:Int):Nat:=(row.filter fun x=>decide (x < key)).length
theorem zo7 {row:List Int}{key:Int}{m:Nat}(hm:m≤row.length)(h1:∀ i,i < m→decide (row.getD i 0 < key)=true)(h2:∀ i,m≤i→i < row.length→decide (row.getD i 0 < key)=false):zhj row key=m:=by
 unfold zhj
 conv=>lhs;rw[← ybf m row]
 rw[yaT,yak];have e1:(row.take m).filter (fun x=>decide (x < key))=row.take m:=by
  rw[yb9];intro x hx;obtain ⟨i,hi,rfl⟩:=ya4 hx;rw[yao]at hi;have:=h1 i (by omega);rw[yad,yac (by omega)]at this;rw[List.getElem_take];exact this
 have e2:(row.drop m).filter (fun x=>decide (x < key))=[]:=by
  rw[ybu];intro x hx;obtain ⟨i,hi,rfl⟩:=ya4 hx;rw[yaY]at hi;have:=h2 (m+i) (by omega) (by omega);rw[yad,yac (by omega)]at this;rw[List.getElem_drop];intro z;rw[show decide (row[m+i] < key)=false from this]at z;cases z
 rw[e1,e2,yao,ybn];omega
abbrev lamQ:Str:=(envOfC ("place" : Str) (zah zfc) 0 0 .none).qual ++ "<lambda>"
abbrev zfu:Pos:=⟨30,36,30,60⟩
def zl4 (K:Frag)(mp:Addr):Sp:=fun vs H Q _=>∃(r:Addr) (row:List Int) (key:Int),vs=[.ref r,.int key]∧H r=some (.tup (row.map V.int))∧row.Pairwise (· < ·)∧zaC H mp zfu lamQ∧
 ∀ H':Hp,Gro mp H H'→zaC H' mp zfu lamQ→Q (.int (zhj row key:Nat)) H'
theorem zos (T:Txt K mg){mc mp:Addr}(qcf:DFT K mg "place" zfc zfR mc mp)(hBM:BMAt mg base)(qav:∀ base,FC P w K mg base 4 "how_many_below" zba (zma P w K mg base)):FC P w K mg base 5 "place" zfR (zl4 K mp):=by
 refine qcf.ok qcY (fun vs H Q E h=>?_) (fun f A outer s H vs Q E hr h=>?_)
 ·obtain ⟨r,row,key,rfl,_⟩:=h;rfl
 obtain ⟨r,row,key,rfl,h0,hup,hT,q⟩:=h;refine ⟨_,(zag (zas (zk5 (kf:=0) qav hr (zau zar rfl T.qat boot_len (zaa (pv 0) zad)) (ziJ (osc:=zah zfc) (N:=["row","key"]) (ps:=["at"]) (caps:=["key","row"]) (cap:=[1,0]) ⟨rfl,rfl,rfl,by decide +kernel,by decide +kernel,by decide +kernel,by decide +kernel⟩ (by decide +kernel) (by decide +kernel) rfl rfl rfl rfl (fun _ _ _ _ us hl=>match us,hl with | [_],_=>rfl) (fun _=>rfl)) rfl qcf.hd hBM (fun _ _ _ _ _ _ _ _ _=>(zdf zgm (zaq (zbr (K:=K)) (pv 2) (pv 0) (fun _ _=>rfl)) (pv 1) (zaA _)))))),?_⟩
 refine ⟨_,rfl,_,_,rfl,.inr (SqT.of h0),hT,[.int key,.ref r],rfl,?_,fun base f c' H2 hg hT2 hC hV=>?_⟩
 ·intro j i v h1 h2;rcases j with _ | _ | j
  ·cases h1;cases h2;rfl
  ·cases h1;cases h2;rfl
  ·cases h1
 have nmp:r≠mp:=fun z=>by
  obtain ⟨tab,e,_⟩:=hT.ex;rw[← z,h0]at e;cases e
 have h2r:=hg _ _ nmp h0;rw[yaa];refine ⟨row.length,f,_,_,fun i=>decide (row.getD i 0 < key),fun _ H'=>H'=H2,rfl,FV.mono hV (by decide),rfl,fun i L1 H1 Q1 hi _ hR hQ=>?_,fun i j hij hj hb=>?_,fun m L1 H' hm hb1 hb2 _ hR=>?_⟩
 ·subst hR;refine ⟨rfl,hC,?_⟩;have hat:atI (row.map V.int) ((i:Nat):Int)=some (.int (row.getD i 0)):=zaP (by rw[yal,yac hi,yad,yac hi];rfl);refine ⟨_,rfl,_,rfl,_,_,_,_,rfl,rfl,SqT.of h2r,hat,_,rfl,_,_,rfl,rfl,?_⟩;exact hQ _ rfl
 ·refine yag ?_;have hb:=yaB hb;by_cases e:i=j
  ·subst e;exact hb
  ·have:=ya6.mp hup i j (by omega) hj (by omega);rw[yad,yac (by omega)]at hb ⊢;exact Int.lt_trans this hb
 ·subst hR;have e:=zo7 hm hb1 hb2;have q2:=q _ hg hT2;rw[e]at q2;exact q2
def zj3 (K:Frag):Sp:=fun vs H Q _=>∃(st wa:Addr) (ps:List Nat) (rows:List (List Int)) (t rs:Addr) (as:List Addr) (w:List Nat),vs=[.ref st,.ref wa]∧zaO H st ps rows t rs as∧zbp H wa ps w∧
 ∀(p:Addr) (bs:List Addr) (H':Hp),H p=none→Same H H'→H' p=some (.lst (bs.map V.ref))→zaU H' bs (w.map (zbF rows))→Q (.ref p) H'
theorem zmA (T:Txt K mg)(qbS:DF K mg "rows_on" zeA zdS)(qaq:FC P w K mg base 4 "need_way" zbT (zii K)):FC P w K mg base 5 "rows_on" zdS (zj3 K):=by
 refine qbS.ok qcF (fun vs H Q E h=>?_) (fun f cdv A outer s H vs Q E hr h=>?_)
 ·obtain ⟨st,wa,ps,rows,t,rs,as,w,rfl,_⟩:=h;rfl
 obtain ⟨st,wa,ps,rows,t,rs,as,w,rfl,S,W,q⟩:=h;have hwl:=W.len;refine ⟨_,(zaj (zaW (zav qaq hr (zaa (zaq zaF (pv 0) zae (fun _ _=>rfl)) (zaa (pv 1) zad))))
   (zag (zas (zbd (N:=["knot","stand"]) (own:=1) (cap:=[0]) rfl (za1 (pv 1)) ⟨rfl,rfl,rfl,rfl,rfl,rfl⟩ (fun _ _ _ _ _=>(zan (i:=0) (show List.Nodup (["knot","stand"]:List Str) by decide +kernel) rfl (Or.inl rfl))) (fun _ _ _ _ _=>zbj) (fun _ _ _ _ _=>(zaq (zbr (K:=K)) (zaq (zbr (K:=K)) (pv 1) zae (fun _ _=>rfl)) (pv 0) (fun _ _=>rfl))))))),?_⟩
 refine ⟨_,rfl,_,_,_,_,rfl,rfl,SqT.of S.st,rfl,_,rfl,t,wa,ps,w,rfl,S.tr,by have:=S.few;omega,W,?_⟩;refine ⟨_,rfl,wa,rfl,⟨_,SqL.of W.at_⟩,fun D hD=>?_⟩;refine zaT (xs:=w.map nV) (fun i σ H2=>∃(bs:List Addr) (x0:Option V),σ=[x0,some (.ref st)]∧H2 D=some (.lst (bs.map V.ref))∧zaU H2 bs ((w.take i).map (zbF rows))∧But D H H2) ?_ ?_ ?_ ?_
 ·exact ⟨[],_,rfl,zac,.nil,fun b o n e=>by rw[zaf n];exact e⟩
 ·rintro i σ H2 _ ⟨bs,x0,rfl,_,_,k2⟩;exact k2.sq (SqL.of W.at_) hD
 ·rintro i m x σ H2 hx hm ⟨bs,x0,rfl,h2,hB,k2⟩;obtain ⟨hi,rfl⟩:=zhd hx;have hbl:=hB.length;rw[yaa,yao]at hbl;have s2:Same H H2:=fun b o e=>k2 b o (zab e hD) e;have S2:=S.same s2;have hk:=W.kn _ (zhq hi);rw[zfD hi,yan];generalize w.getD i 0=k at hk ⊢;obtain ⟨b,hb1,hb2⟩:=S2.at_.get (k:=k) (by rw[S.len];exact hk);rw[yaa]at hm;refine zcU ?_;refine ⟨_,rfl,_,_,_,_,rfl,rfl,SqT.of S2.st,rfl,_,rfl,_,_,_,_,rfl,rfl,SqT.of S2.rs,zhl hb1,_,h2,zam (by rw[yaa];omega),m - 1,by omega,by rw[yaa];omega,bs++[b],_,rfl,?_,?_,fun b o n e=>by rw[zaf n];exact k2 b o n e⟩
  ·rw[zac,yan];rfl
  ·have kD:∀ b o,b≠D→H2 b=some o→upd H2 D (.lst (bs.map V.ref++[.ref b])) b=some o:=fun b o n e=>by rw[zaf n];exact e
   have nT:∀{x:Addr} {o:List V},H2 x=some (.tup o)→x≠D:=fun {x o} e z=>by
    rw[z,h2]at e;cases e
   refine zaU.snoc (zaU.keep (p:=D) (d:=D) (fun a row e=>nT e) (fun c o n e=>by rw[zaf n];exact e) hB) ?_;rw[zaf (nT hb2)];exact hb2
 ·rintro σ H2 ⟨bs,x0,rfl,h2,hB,k2⟩;rw[yaa,yar (yab _)]at hB;exact q D bs H2 hD (fun b o e=>k2 b o (zab e hD) e) h2 hB
def zj4 (K:Frag)(mp:Addr):Sp:=fun vs H Q _=>∃(st wa:Addr) (ps:List Nat) (rows:List (List Int)) (t rs:Addr) (as:List Addr) (w:List Nat) (key:Int),vs=[.ref st,.ref wa,.int key]∧zaO H st ps rows t rs as∧zbp H wa ps w∧zaC H mp zfu lamQ∧
 ∀(p:Addr) (H':Hp),H p=none→Gro mp H H'→zaC H' mp zfu lamQ→H' p=some (.lst ((w.map fun k=>zhj (zbF rows k) key).map nV))→Q (.ref p) H'
theorem zmB (T:Txt K mg){mp:Addr}(qcg:DF K mg "places" zfI zeN)(qcU:FC P w K mg base 5 "rows_on" zdS (zj3 K))(qde:FC P w K mg base 5 "place" zfR (zl4 K mp)):FC P w K mg base 6 "places" zeN (zj4 K mp):=by
 refine qcg.ok qcM (fun vs H Q E h=>?_) (fun f cdv A outer s H vs Q E hr h=>?_)
 ·obtain ⟨st,wa,ps,rows,t,rs,as,w,key,rfl,_⟩:=h;rfl
 obtain ⟨st,wa,ps,rows,t,rs,as,w,key,rfl,S,W,hT,q⟩:=h;have hwl:=W.len;refine ⟨_,(zag (zas (zbd (N:=["row","key"]) (own:=1) (cap:=[2]) rfl (za1 (zav qcU hr (zaa (pv 0) (zaa (pv 1) zad)))) ⟨rfl,rfl,rfl,rfl,rfl,rfl⟩ (fun _ _ _ _ _=>(zan (i:=0) (show List.Nodup (["row","key"]:List Str) by decide +kernel) rfl (Or.inl rfl))) (fun _ _ _ _ _=>zbj) (fun _ _ _ _ _=>(zav qde hr (zaa (pv 0) (zaa (pv 1) zad))))))),?_⟩;refine ⟨_,rfl,_,rfl,st,wa,ps,rows,t,rs,as,w,rfl,S,W,fun p bs H1 hp s1 h1 hB=>?_⟩;have hbl:=hB.length;rw[yaa]at hbl;have hT1:=hT.ext s1.ext;have nmp:∀{H':Hp} {x:Addr} {o:HO},zaC H' mp zfu lamQ→H' x=some o→(∀ tab,o≠.tbl tab)→x≠mp:=fun {H' x o} hT e n z=>by
  obtain ⟨tab,e2,_⟩:=hT.ex;rw[← z,e]at e2;exact n _ (yae e2)
 refine ⟨p,rfl,⟨_,SqL.of h1⟩,fun D hD=>?_⟩;have hDm:D≠mp:=fun z=>by
  obtain ⟨tab,e2,_⟩:=hT1.ex;rw[← z,hD]at e2;cases e2
 refine zaT (xs:=bs.map V.ref) (fun i σ H2=>∃ x0:Option V,σ=[x0,some (.int key)]∧H2 D=some (.lst (((w.take i).map fun k=>zhj (zbF rows k) key).map nV))∧(∀ b o,b≠D→b≠mp→H1 b=some o→H2 b=some o)∧zaC H2 mp zfu lamQ) ?_ ?_ ?_ ?_
 ·refine ⟨_,rfl,zac,fun b o n _ e=>by rw[zaf n];exact e,hT1.ext (zai hD _).ext⟩
 ·rintro i σ H2 _ ⟨x0,rfl,_,k2,_⟩;exact SqL.of (k2 _ _ (zab h1 hD) (nmp hT1 h1 (fun _ z=>nomatch z)) h1)
 ·rintro i m x σ H2 hx hm ⟨x0,rfl,h2,k2,hT2⟩;rw[yal]at hx;obtain ⟨b,hb,rfl⟩:=ya8.mp hx;obtain ⟨row,hrow,h1b⟩:=zaS hB hb;have hi:i < w.length:=by
   have:=(yah.mp hb).1;omega
  rw[yal]at hrow;obtain ⟨k,hk,rfl⟩:=ya8.mp hrow;have hke:w.getD i 0=k:=by rw[yad,hk];rfl
  rw[zfD hi,yan,hke];have h2b:=k2 _ _ (zab h1b hD) (nmp hT1 h1b (fun _ z=>nomatch z)) h1b;rw[yaa]at hm;refine zcU ?_;refine ⟨_,rfl,_,rfl,b,zbF rows k,key,rfl,h2b,S.R.at_up k,hT2,fun H3 hg3 hT3=>?_⟩;have h3:=hg3 _ _ hDm h2;refine ⟨_,h3,zam (by rw[yaa,yaa,yao];omega),m - 1,by omega,by rw[yaa];omega,_,rfl,?_,fun b o n n2 e=>by rw[zaf n];exact hg3 _ _ n2 (k2 b o n n2 e),zlV hT3 h3⟩;rw[zac,yan];rfl
 ·rintro σ H2 ⟨x0,rfl,h2,k2,hT2⟩;rw[yaa,hbl,yar (yab _)]at h2;exact q D H2 (s1.free hD) (fun b o n e=>k2 b o (zab (s1 _ _ e) hD) n (s1 _ _ e)) hT2 h2
structure FA (K:Frag)(H:Hp)(p:Addr)(qs:List Addr)(n:Nat)(f:Nat→List En):Prop where
 at_:H p=some (.lst (qs.map V.ref))
 len:qs.length=n
 nd:qs.Nodup
 np:p∉qs
 get:∀(j:Nat) (q:Addr),qs[j]?=some q→∃ ws,H q=some (.lst ws)∧zao K H (f j) ws
section
variable {K:Frag}{H H':Hp}{p:Addr}{qs:List Addr}{n:Nat}{f g:Nat→List En}
theorem FA.ext (h:FA K H p qs n f)(e:Ext H H'):FA K H' p qs n f:=
 ⟨e _ _ h.at_ (fun _ z=>nomatch z),h.len,h.nd,h.np,fun j q hq=>by
  obtain ⟨ws,h1,h2⟩:=h.get j q hq;exact ⟨ws,e _ _ h1 (fun _ z=>nomatch z),h2.mono e⟩⟩
end
theorem zkP {K:Frag}{H:Hp}{p:Addr}{ps:List Nat}{rows:List (List Int)}:∀{n:Nat} {qs:List Addr} (m:Nat),qs.length=n→(∀(j:Nat) (q:Addr),qs[j]?=some q→∃ ws,H q=some (.lst ws)∧zao K H (zak ps rows (m+j)) ws)→zaB K H ps rows (List.range' m n) qs
 | _,[],_,rfl,_=>.nil
 | _,q::qs,m,rfl,h=>by
  refine .cons (h 0 q rfl) (zkP (p:=p) (m+1) rfl fun j q' hj=>?_);have:=h (j+1) q' hj;rwa[show m+(j+1)=m+1+j by omega]at this
theorem FA.fulls {K:Frag}{H:Hp}{p:Addr}{ps:List Nat}{rows:List (List Int)}{n:Nat}{qs:List Addr}(h:FA K H p qs n (zak ps rows)):zaB K H ps rows (List.range n) qs:=by
 rw[List.range_eq_range'];exact zkP (p:=p) 0 h.len fun j q hj=>by
  rw[ybM];exact h.get j q hj
structure zb9 (K:Frag)(CS:Addr)(H:Hp)(sh dx st p:Addr)(qs:List Addr)(ps:List Nat)(rows:List (List Int))(t rs:Addr)(as:List Addr):Prop where
 own:H dx=some (.own sh)
 ins:H sh=some (.ins CS dx [("kept",.ref st),("fulls",.ref p)])
 stand:zaO H st ps rows t rs as
 full:FA K H p qs (ps.length+1) (zak ps rows)
def Tp (H H':Hp):Prop:=∀ b us,H b=some (.tup us)→H' b=some (.tup us)
theorem zpW {H H':Hp}(e:Tp H H'){as:List Addr}{rows:List (List Int)}(h:zaU H as rows):zaU H' as rows:=pImp (fun _ _=>e _ _) h
theorem zfF {H H':Hp}{st t rs:Addr}{ps:List Nat}{rows:List (List Int)}{as:List Addr}(e:Tp H H')(S:zaO H st ps rows t rs as):zaO H' st ps rows t rs as:=
 ⟨e _ _ S.st,e _ _ S.tr,e _ _ S.rs,zpW e S.at_,S.len,S.T,S.R,S.few,S.keys⟩
theorem But.tp {H H':Hp}{p:Addr}(k:But p H H')(n:∀ us,H p≠some (.tup us)):Tp H H':=fun b us e=>k b _ (fun z=>n us (z ▸ e)) e
theorem zfX {K:Frag}{H H':Hp}(k:Tp H H'){es:List (Int×Int)}{ws:List V}(h:zao K H es ws):zao K H' es ws:=pImp (fun _ _ h=>by
  obtain ⟨a,x1,x2,rfl,hT,e1,e2⟩:=(show hasP K H _ _ from h);exact ⟨a,x1,x2,rfl,k _ _ hT,e1,e2⟩) h
theorem FA.tp {K:Frag}{H H':Hp}{p:Addr}{qs:List Addr}{n:Nat}{f:Nat→List En}(h:FA K H p qs n f)(e:Tp H H')(l:∀ b us,H b=some (.lst us)→H' b=some (.lst us)):FA K H' p qs n f:=
 ⟨l _ _ h.at_,h.len,h.nd,h.np,fun j q hq=>by
  obtain ⟨ws,h1,h2⟩:=h.get j q hq;exact ⟨ws,l _ _ h1,zfX e h2⟩⟩
def zkb (K:Frag)(CS:Addr):Sp:=fun vs H Q _=>∃(sh dx st:Addr) (ps:List Nat) (rows:List (List Int)) (t rs:Addr) (as:List Addr),vs=[.ref sh,.ref st]∧H dx=some (.own sh)∧H sh=some (.ins CS dx [])∧zaO H st ps rows t rs as∧
 ∀(p:Addr) (qs:List Addr) (H':Hp),H p=none→(∀ q∈qs,H q=none)→But sh H H'→zb9 K CS H' sh dx st p qs ps rows t rs as→Q .non H'
theorem zrW {K:Frag}{H:Hp}{ps:List Nat}{rows:List (List Int)}:∀{n:Nat} {qs:List Addr} (m:Nat),zaB K H ps rows (List.range' m n) qs→qs.length=n∧∀(j:Nat) (q:Addr),qs[j]?=some q→∃ ws,H q=some (.lst ws)∧zao K H (zak ps rows (m+j)) ws
 | 0,_,_,.nil=>⟨rfl,fun j q h=>by simp at h⟩
 | n+1,_,m,.cons (b:=q) h r=>by
  obtain ⟨l,g⟩:=zrW (m+1) r;refine ⟨by rw[yaI,l],fun j q' hj=>?_⟩;cases j with
  | zero=>
   obtain rfl:=yae hj;exact h
  | succ j=>
   have:=g j q' hj;rwa[show m+1+j=m+(j+1) by omega]at this
theorem zaB.fa {K:Frag}{H:Hp}{p:Addr}{ps:List Nat}{rows:List (List Int)}{n:Nat}{qs:List Addr}(h:zaB K H ps rows (List.range n) qs)(hp:H p=some (.lst (qs.map V.ref)))(nd:qs.Nodup)(np:p∉qs):FA K H p qs n (zak ps rows):=by
 rw[List.range_eq_range']at h;obtain ⟨l,g⟩:=zrW 0 h;exact ⟨hp,l,nd,np,fun j q hj=>by
  have:=g j q hj;rwa[ybM]at this⟩
theorem zqe (T:Txt K mg){CS:Addr}(O:OwnC K mg CS)(qay:DI K CS "Shelf.__init__" zbO zbc)(qaf:FC P w K mg base 8 "full_rows" zbf (zfb K)):FI P w K mg base CS 9 zbc (zkb K CS):=by
 refine qay.ok qbn (fun vs H Q E h=>?_) (fun f cdv A outer s H vs Q E hr h=>?_)
 ·obtain ⟨sh,dx,st,ps,rows,t,rs,as,rfl,_⟩:=h;rfl
 obtain ⟨sh,dx,st,ps,rows,t,rs,as,rfl,h1,h2,S,q⟩:=h;refine ⟨_,(zaj (zpr (pv 0) (pv 1) rfl)
   (zag (zpr (pv 0) (zav qaf hr (zaa (pv 1) zad)) rfl))),?_⟩
 refine ⟨_,rfl,_,rfl,sh,CS,dx,[],rfl,h2,O.cl,O.n_kept,by decide,?_⟩;have k1:But sh H (upd H sh (.ins CS dx (putF "kept" (.ref st) []))):=fun b o n e=>by rw[zaf n];exact e
 have hsd:dx≠sh:=fun z=>by rw[z,h2]at h1;cases h1
 have a1:=k1 _ _ hsd h1;have a2:upd H sh (.ins CS dx (putF "kept" (.ref st) [])) sh=some (.ins CS dx [("kept",.ref st)]):=zac;have S1:=zfF (k1.tp fun us z=>by rw[h2]at z;cases z) S
 have hn:∀ b,upd H sh (.ins CS dx (putF "kept" (.ref st) [])) b=none→H b=none:=fun b e=>by
  by_cases z:b=sh
  ·subst z;rw[a2]at e;cases e
  ·rwa[zaf z]at e
 generalize upd H sh (.ins CS dx (putF "kept" (.ref st) []))=H1 at k1 a1 a2 S1 hn ⊢;refine ⟨_,rfl,st,ps,rows,t,rs,as,rfl,S1,fun p qs H2 hp s2 g2 nd hq np F=>?_⟩;have b2:=s2 _ _ a2;refine ⟨_,rfl,sh,CS,dx,_,rfl,b2,O.cl,O.n_fulls,(by show 1 < 1000;decide),?_⟩;have k2:But sh H2 (upd H2 sh (.ins CS dx (putF "fulls" (.ref p) [("kept",.ref st)]))):=fun b o n e=>by rw[zaf n];exact e
 have F2:FA K (upd H2 sh (.ins CS dx (putF "fulls" (.ref p) [("kept",.ref st)]))) p qs (ps.length+1) (zak ps rows):=by
  exact (F.fa g2 nd np).tp (k2.tp fun us z=>by rw[b2]at z;cases z) fun b us e=>k2 b _ (fun z=>by rw[z,b2]at e;cases e) e
 refine q p qs _ (hn _ hp) (fun x hx=>hn _ (hq x hx)) (fun b o n e=>k2 b o n (s2 _ _ (k1 b o n e))) ⟨k2 _ _ hsd (s2 _ _ a1),by rw[zac];rfl,zfF (k2.tp fun us z=>by rw[b2]at z;cases z) (S1.same s2),F2⟩
theorem zg9 {K:Frag}{CS:Addr}{H:Hp}{sh dx st:Addr}{ps:List Nat}{rows:List (List Int)}{t rs:Addr}{as:List Addr}{Q:VK}{E:XK}(S:zaO H st ps rows t rs as)(hsh:H sh=none)(hdx:H dx=none)(hne:dx≠sh)
  (q:∀(p:Addr) (qs:List Addr) (H':Hp),H p=none→(∀ q∈qs,H q=none)→Same H H'→zb9 K CS H' sh dx st p qs ps rows t rs as→Q .non H'):zkb K CS [.ref sh,.ref st] (upd (upd H dx (.own sh)) sh (.ins CS dx [])) Q E:=by
 have s1:=zai hdx (.own sh);have hsh1:upd H dx (.own sh) sh=none:=by rw[zaf (Ne.symm hne)];exact hsh
 have s2:=zai hsh1 (.ins CS dx []);have s12:=s1.trans s2;refine ⟨sh,dx,st,ps,rows,t,rs,as,rfl,s2 _ _ zac,zac,S.same s12,fun p qs H' hp hq hb S'=>?_⟩;exact q p qs H' (s12.free hp) (fun x hx=>s12.free (hq x hx)) (fun b o e=>hb b o (zab e hsh) (s12 _ _ e)) S'
def zmb (K:Frag)(CS mF mS:Addr):Sp:=fun vs H Q _=>∃(sh dx st p wa:Addr) (key:Int) (qs:List Addr) (ps:List Nat) (rows:List (List Int)) (t rs:Addr) (as:List Addr) (wy:List Nat),vs=[.ref sh,.ref wa,.int key]∧zb9 K CS H sh dx st p qs ps rows t rs as∧zbp H wa ps wy∧TabS mF mS H∧
 ∀(D:Addr) (zs:List V) (H':Hp),H D=none→Kp2 mF mS H H'→TabS mF mS H'→H' D=some (.lst zs)→zao K H' (wy.map fun k=>(((zal (zak ps rows k) key:Nat):Int),((ownB rows k key:Nat):Int))) zs→Q (.ref D) H'
theorem zqf (T:Txt K mg){mF mS:Addr}{CS:Addr}(O:OwnC K mg CS)(qa0:DM K CS "find" "Shelf.find" zcP zb2)(qaq:FC P w K mg base 4 "need_way" zbT (zii K))(qax:FC P w K mg base 7 "search_for_key" za9 (zhu K mF mS)):FM P w K mg base CS 8 "find" zb2 (zmb K CS mF mS):=by
 refine qa0.ok qb2 (fun vs H Q E h=>?_) (fun f cdv A outer s H vs Q E hr h=>?_)
 ·obtain ⟨sh,dx,st,p,wa,key,qs,ps,rows,t,rs,as,wy,rfl,_⟩:=h;rfl
 obtain ⟨sh,dx,st,p,wa,key,qs,ps,rows,t,rs,as,wy,rfl,S,W,TT,q⟩:=h;refine ⟨_,(zaj (zaW (zav qaq hr (zaa (zaq zaF (zmq (pv 0) rfl) zae (fun _ _=>rfl)) (zaa (pv 1) zad))))
   (zag (zas (zav qax hr (zaa (zaq zaF (zmq (pv 0) rfl) zae (fun _ _=>rfl)) (zaa (zmq (pv 0) rfl) (zaa (pv 1) (zaa (pv 2) zad)))))))),?_⟩
 refine ⟨_,rfl,sh,CS,dx,_,_,rfl,S.ins,O.cl,O.n_kept,rfl,_,_,_,_,rfl,rfl,SqT.of S.stand.st,rfl,_,rfl,t,wa,ps,wy,rfl,S.stand.tr,by have:=S.stand.few;omega,W,?_⟩;refine ⟨_,rfl,sh,CS,dx,_,_,rfl,S.ins,O.cl,O.n_kept,rfl,_,_,_,_,rfl,rfl,SqT.of S.stand.st,rfl,_,rfl,sh,CS,dx,_,_,rfl,S.ins,O.cl,O.n_fulls,rfl,_,rfl,_,rfl,st,t,rs,p,wa,key,ps,rows,as,qs,wy,rfl,S.stand,S.full.at_,S.full.fulls,W,TT,?_⟩;exact q
def dl (Av:List Addr)(H:Hp):Hp:=fun b=>if b∈Av then none else H b
section
variable {Av:List Addr}{H H':Hp}
theorem zrY {b:Addr}(h:b∉Av):dl Av H b=H b:=if_neg h
theorem zgA:Same (dl Av H) H:=fun b o e=>by
 unfold dl at e;split at e
 ·cases e
 ·exact e
theorem zhX {b:Addr}{o:HO}(e:H b=some o)(h:b∉Av):dl Av H b=some o:=by rw[zrY h];exact e
def zi7 (Av:List Addr)(H:Hp):Prop:=∀ a∈Av,∀ us,H a≠some (.tup us)
theorem zi7.out (n:zi7 Av H){b:Addr}{us:List V}(e:H b=some (.tup us)):b∉Av:=fun z=>n b z us e
theorem zi7.dl (n:zi7 Av H){b:Addr}{us:List V}(e:H b=some (.tup us)):dl Av H b=some (.tup us):=zhX e (n.out e)
theorem zi7.tp (n:zi7 Av H):Tp H (My.dl Av H):=fun _ _ e=>n.dl e
end
abbrev zoN:Str:=(envOfC ("_law_papers" : Str) (zah zcc) 0 0 .none).qual ++ "<lambda>"
abbrev zm2:Pos:=⟨321,56,321,132⟩
abbrev zm1:Pos:=⟨323,67,323,143⟩
structure Tab4 (m0 mF mS mL:Addr)(H:Hp):Prop where
 p:zaC H m0 zfu lamQ
 f:zaC H mF zdC ziK
 s:zaC H mS zm0 zrF
 a:zaC H mL zm2 zoN
 b:zaC H mL zm1 zoN
 n:[m0,mF,mS,mL].Nodup
def K4 (m0 mF mS mL:Addr)(H H':Hp):Prop:=∀ b o,b∉[m0,mF,mS,mL]→H b=some o→H' b=some o
section
variable {m0 mF mS mL:Addr}{H H1 H':Hp}
theorem K4.trans (a:K4 m0 mF mS mL H H1)(b:K4 m0 mF mS mL H1 H'):K4 m0 mF mS mL H H':=fun c o n h=>b c o n (a c o n h)
theorem K4.of (a:Same H H'):K4 m0 mF mS mL H H':=fun c o _ h=>a c o h
theorem zlW {m:Addr}{pos:Pos}{q:Str}(x:zaC H m pos q)(k:Kp0 H H')(e:∀ o,H m=some o→H' m=some o):zaC H' m pos q:=by
 obtain ⟨tab,h1,h2,h3⟩:=x.ex;refine ⟨tab,e _ h1,h2,?_⟩;rcases h3 with h3 | ⟨c,h3,h4⟩
 ·exact .inl h3
 ·exact .inr ⟨c,h3,k _ _ (fun _ z=>nomatch z) h4⟩
theorem Tab4.nt (x:Tab4 m0 mF mS mL H){b:Addr}{o:HO}(h:H b=some o)(n:∀ tab,o≠.tbl tab):b∉[m0,mF,mS,mL]:=fun z=>by
 simp only[yaj,yax,or_false]at z;have:∃ tab,H b=some (.tbl tab):=by
  rcases z with rfl | rfl | rfl | rfl
  ·exact zaM x.p
  ·exact zaM x.f
  ·exact zaM x.s
  ·exact zaM x.a
 obtain ⟨tab,e⟩:=this;rw[h]at e;exact n _ (yae e)
theorem Tab4.free (x:Tab4 m0 mF mS mL H){b:Addr}(h:H b=none):b∉[m0,mF,mS,mL]:=fun z=>by
 simp only[yaj,yax,or_false]at z;have:∃ tab,H b=some (.tbl tab):=by
  rcases z with rfl | rfl | rfl | rfl
  ·exact zaM x.p
  ·exact zaM x.f
  ·exact zaM x.s
  ·exact zaM x.a
 obtain ⟨tab,e⟩:=this;rw[h]at e;cases e
theorem Tab4.k0 (x:Tab4 m0 mF mS mL H)(k:K4 m0 mF mS mL H H'):Kp0 H H':=fun b o n e=>k b o (x.nt e n) e
theorem Tab4.same (x:Tab4 m0 mF mS mL H)(e:Same H H'):Tab4 m0 mF mS mL H':=⟨x.p.ext e.ext,x.f.ext e.ext,x.s.ext e.ext,x.a.ext e.ext,x.b.ext e.ext,x.n⟩
theorem Tab4.ts (x:Tab4 m0 mF mS mL H):TabS mF mS H:=⟨x.f,x.s,fun z=>by
 have:=x.n;simp[z]at this⟩
theorem Tab4.gS (x:Tab4 m0 mF mS mL H)(k:Kp2 mF mS H H')(t:TabS mF mS H'):Tab4 m0 mF mS mL H'∧K4 m0 mF mS mL H H':=by
 have n:=x.n;simp only[yaK,yaj,yax,or_false,not_or]at n;have k0:=k.kp0 x.ts;exact ⟨⟨zlW x.p k0 fun o e=>k _ _ n.1.1 n.1.2.1 e,t.f,t.s,zlW x.a k0 fun o e=>k _ _ (Ne.symm n.2.1.2) (Ne.symm n.2.2.1) e,zlW x.b k0 fun o e=>k _ _ (Ne.symm n.2.1.2) (Ne.symm n.2.2.1) e,x.n⟩,fun b o nb e=>k b o (fun z=>nb (by simp[z])) (fun z=>nb (by simp[z])) e⟩
theorem Tab4.g0 (x:Tab4 m0 mF mS mL H)(g:Gro m0 H H')(t:zaC H' m0 zfu lamQ):Tab4 m0 mF mS mL H'∧K4 m0 mF mS mL H H':=by
 have n:=x.n;simp only[yaK,yaj,yax,or_false,not_or]at n;exact ⟨⟨t,x.f.gro g (Ne.symm n.1.1) (zaM x.p),x.s.gro g (Ne.symm n.1.2.1) (zaM x.p),x.a.gro g (Ne.symm n.1.2.2) (zaM x.p),x.b.gro g (Ne.symm n.1.2.2) (zaM x.p),x.n⟩,fun b o nb e=>g b o (fun z=>nb (by simp[z])) e⟩
theorem Tab4.gF (x:Tab4 m0 mF mS mL H)(g:Gro mF H H')(t:zaC H' mF zdC ziK):Tab4 m0 mF mS mL H'∧K4 m0 mF mS mL H H':=by
 have n:=x.n;simp only[yaK,yaj,yax,or_false,not_or]at n;exact ⟨⟨x.p.gro g n.1.1 (zaM x.f),t,x.s.gro g (Ne.symm n.2.1.1) (zaM x.f),x.a.gro g (Ne.symm n.2.1.2) (zaM x.f),x.b.gro g (Ne.symm n.2.1.2) (zaM x.f),x.n⟩,fun b o nb e=>g b o (fun z=>nb (by simp[z])) e⟩
theorem Tab4.gL (x:Tab4 m0 mF mS mL H)(g:Gro mL H H')(a:zaC H' mL zm2 zoN)(b:zaC H' mL zm1 zoN):Tab4 m0 mF mS mL H'∧K4 m0 mF mS mL H H':=by
 have n:=x.n;simp only[yaK,yaj,yax,or_false,not_or]at n;exact ⟨⟨x.p.gro g n.1.2.2 (zaM x.a),x.f.gro g n.2.1.2 (zaM x.a),x.s.gro g n.2.2.1 (zaM x.a),a,b,x.n⟩,fun b o nb e=>g b o (fun z=>nb (by simp[z])) e⟩
end
structure zca (H:Hp)(ps:List Nat)(rows:List (List Int))(key:Int)(wy:List Nat)(D:Addr):Prop where
 ex:∃ zs,H D=some (.lst zs)∧Paired (zbJ H ps rows key) wy zs
theorem zca.kp {H H':Hp}{ps:List Nat}{rows:List (List Int)}{key:Int}{wy:List Nat}{D:Addr}(h:zca H ps rows key wy D)(k:Kp0 H H'):zca H' ps rows key wy D:=by
 obtain ⟨zs,h1,h2⟩:=h.ex;exact ⟨zs,k.lst h1,zbn (fun b us e=>k.tup e) h2⟩
def papD (ps:List Nat)(rows:List (List Int))(key:Int)(wy:List Nat):List (Tri Int Int Int):=wy.map fun k:Nat=>⟨(k:Int),((zal (zak ps rows k) key:Nat):Int),((ownB rows k key:Nat):Int)⟩
theorem zca.has {K:Frag}{H:Hp}{ps:List Nat}{rows:List (List Int)}{key:Int}{wy:List Nat}{D:Addr}(h:zca H ps rows key wy D):Rep.has K H (papD ps rows key wy) (.ref D):=by
 obtain ⟨zs,h1,h2⟩:=h.ex;refine ⟨D,zs,rfl,SqL.of h1,?_⟩;clear h1 h;unfold papD
 induction h2 with
 | nil=>exact .nil
 | cons g _ ih=>
  obtain ⟨t,rfl,e⟩:=g;exact .cons ⟨t,_,_,_,rfl,e,rfl,rfl,rfl⟩ ih
theorem zog {X:Cx}{K:Frag}{tg l:Expr}{tl:TE}(hl:PE X l tl)(h:X.K=K:=by rfl):PI X tg l (zqs K tl):=by
 subst h;exact za1 hl
structure PNow (K:Frag)(H:Hp)(st wa pf br:Addr)(ps:List Nat)(rows:List (List Int))(t rs:Addr)(as qs:List Addr)(xs:List V)(wy:List Nat):Prop where
 S:zaO H st ps rows t rs as
 W:zbp H wa ps wy
 hpf:H pf=some (.lst (qs.map V.ref))
 hF:zaB K H ps rows (List.range (ps.length+1)) qs
 hbr:H br=some (.lst xs)
 hB:Paired (BrAt [] H ps rows) (List.range (ps.length+1)) xs
section
variable {K:Frag}{H H':Hp}{st wa pf br t rs:Addr}{ps:List Nat}{rows:List (List Int)}{as qs:List Addr}{xs:List V}{wy:List Nat}{key:Int}
theorem PNow.kp (h:PNow K H st wa pf br ps rows t rs as qs xs wy)(k:Kp0 H H'):PNow K H' st wa pf br ps rows t rs as qs xs wy:=⟨zey k h.S,zf9 k h.W,k.lst h.hpf,ze4 k h.hF,k.lst h.hbr,zqK k h.hB⟩
theorem zm6 {Av:List Addr}(k:Kp0 H H'):Kp0 (dl Av H) (dl Av H'):=fun b o n e=>by
 unfold dl at e ⊢;split at e
 ·cases e
 ·rename_i z;rw[if_neg z];exact k b o n e
theorem zbq {Av:List Addr}:Kp0 (dl Av H) H:=fun b o _ e=>zgA b o e
theorem zgz {d:Addr}{o:HO}:Same (dl [d] H) (dl [d] (upd H d o)):=fun b x e=>by
 unfold dl at e ⊢;split at e
 ·cases e
 ·rename_i z;rw[if_neg z,zaf (fun q=>z (yap.mpr q))];exact e
theorem zca.dl {d D:Addr}{us:List V}(h:zca H ps rows key wy D)(n:D≠d)(hd:H d=some (.lst us)):zca (My.dl [d] H) ps rows key wy D:=by
 obtain ⟨zs,h1,h2⟩:=h.ex;exact ⟨zs,zhX h1 (fun z=>n (yap.mp z)),zbn (fun b xs e=>zhX e fun z=>by
  rw[yap.mp z,hd]at e;cases e) h2⟩
end
theorem Tab4.put {m0 mF mS mL d:Addr}{H:Hp}{us vs:List V}(x:Tab4 m0 mF mS mL H)(h:H d=some (.lst us)):Tab4 m0 mF mS mL (upd H d (.lst vs)):=by
 have one:∀{m:Addr} {pos:Pos} {q:Str},zaC H m pos q→zaC (upd H d (.lst vs)) m pos q:=fun {m pos q} x=>by
  obtain ⟨tab,h1,h2,h3⟩:=x.ex;refine ⟨tab,?_,h2,?_⟩
  ·rw[zaf (fun z=>by rw[z,h]at h1;cases h1)]
   exact h1
  rcases h3 with h3 | ⟨c,h3,h4⟩
  ·exact .inl h3
  ·refine .inr ⟨c,h3,?_⟩;have h4':H c=_:=h4;show upd H d (.lst vs) c=_;rw[zaf (fun z=>by rw[z,h]at h4';cases h4')]
   exact h4'
 exact ⟨one x.p,one x.f,one x.s,one x.a,one x.b,x.n⟩
structure FNow (K:Frag)(m0 mF mS mL:Addr)(H0 H:Hp)(st wa pf br:Addr)(ps:List Nat)(rows:List (List Int))(t rs:Addr)(as qs:List Addr)(xs:List V)(wy:List Nat)(key:Int)(dF:Addr)(Ds:List Addr):Prop where
 P:PNow K (dl [dF] H) st wa pf br ps rows t rs as qs xs wy
 T:Tab4 m0 mF mS mL H
 e:H dF=some (.lst (Ds.map V.ref))
 k:K4 m0 mF mS mL H0 H
 n:H0 dF=none
 A:∀ X∈Ds,zca (dl [dF] H) ps rows key wy X
section
variable {K:Frag}{m0 mF mS mL:Addr}{H0 H H':Hp}{st wa pf br t rs dF:Addr}{ps:List Nat}{rows:List (List Int)}{as qs Ds:List Addr}{xs:List V}{wy:List Nat}{key:Int}
theorem FNow.kp (h:FNow K m0 mF mS mL H0 H st wa pf br ps rows t rs as qs xs wy key dF Ds)(k:K4 m0 mF mS mL H H')(T':Tab4 m0 mF mS mL H'):FNow K m0 mF mS mL H0 H' st wa pf br ps rows t rs as qs xs wy key dF Ds:=
 have k0:=h.T.k0 k
 ⟨h.P.kp (zm6 k0),T',k0.lst h.e,h.k.trans k,h.n,fun X hX=>(h.A X hX).kp (zm6 k0)⟩
theorem FNow.same (h:FNow K m0 mF mS mL H0 H st wa pf br ps rows t rs as qs xs wy key dF Ds)(s:Same H H'):FNow K m0 mF mS mL H0 H' st wa pf br ps rows t rs as qs xs wy key dF Ds:=h.kp (.of s) (h.T.same s)
theorem FNow.p (h:FNow K m0 mF mS mL H0 H st wa pf br ps rows t rs as qs xs wy key dF Ds):PNow K H st wa pf br ps rows t rs as qs xs wy:=h.P.kp zbq
theorem FNow.add {D:Addr}(h:FNow K m0 mF mS mL H0 H st wa pf br ps rows t rs as qs xs wy key dF Ds)(hD:zca H ps rows key wy D)(ne:D≠dF):FNow K m0 mF mS mL H0 (upd H dF (.lst (Ds.map V.ref++[.ref D]))) st wa pf br ps rows t rs as qs xs wy key dF (Ds++[D]):=by
 refine ⟨h.P.kp (.of zgz),h.T.put h.e,by rw[zac,yan];rfl,fun b o n e=>?_,h.n,fun X hX=>?_⟩
 ·rw[zaf (zab e h.n)];exact h.k b o n e
 ·rcases yaH.mp hX with z | z
  ·exact (h.A X z).kp (.of zgz)
  ·rw[yap.mp z];exact (hD.dl ne h.e).kp (.of zgz)
end
theorem zi1 {ps:List Nat}(T:zaE ps){wy:List Nat}(h:zgV ps wy):∀(i:Nat),i < wy.length→isB ps (wy.getD 0 0) (wy.getD i 0)=true
 | 0,_=>zcv
 | i+1,hi=>zkJ T (zi1 T h i (by omega)) (h i hi)
theorem zof {K:Frag}{D2:Addr}{H:Hp}{ps:List Nat}{rows:List (List Int)}{key:Int}{bs:List Nat}{zs:List V}{kn:Nat}{Q:VK}(h2:H D2=some (.lst zs))(hP:Paired (zbJ H ps rows key) bs zs)(hk:kn∈bs)(hl:zs.length≤900)(q:∀ v H',Same H H'→zbJ H' ps rows key kn v→Q v H') :
  tOp (rIxL K) (zn2 1 [0] (zqs K (tVar 1)) (zgR 0) (zn0 (tOp rEq (tOp (rIxT K) (tVar 0) (tC (.int 0))) (tVar 1))) (tVar 0)) (tC (.int 0)) [some (.int (kn:Int)),some (.ref D2)] H Q:=by
 refine ⟨_,rfl,D2,rfl,⟨_,SqL.of h2⟩,fun E hE=>?_⟩;refine zaT (xs:=zs) (fun i σ H3=>∃(x0:Option V) (us:List V),σ=[x0,some (.int (kn:Int))]∧H3 E=some (.lst us)∧Paired (zbJ H3 ps rows key) ((bs.take i).filter fun b=>decide (b=kn)) us∧us.length≤i∧But E H H3) ?_ ?_ ?_ ?_
 ·exact ⟨_,[],rfl,zac,.nil,yab _,fun b o n e=>by rw[zaf n];exact e⟩
 ·rintro i σ H3 _ ⟨x0,us,rfl,_,_,_,k3⟩;exact k3.sq (SqL.of h2) hE
 ·rintro i m x σ H3 hx hm ⟨x0,us,rfl,h3,hP3,hul,k3⟩;have s3:Same H H3:=fun b o e=>k3 b o (zab e hE) e;have hi:=(yah.mp hx).1;have hbl:=hP.length;have hib:i < bs.length:=by omega
  obtain ⟨v,hv,tr⟩:=zaS hP (yac hib);rw[hx]at hv;cases hv
  obtain ⟨t,rfl,ht⟩:=tr;have h3t:=s3 _ _ ht;have et:(bs.take (i+1)).filter (fun b=>decide (b=kn))=(bs.take i).filter (fun b=>decide (b=kn))++(if bs[i]=kn then [bs[i]] else []):=by
   rw[yaA hib,yaT];congr 1;by_cases z:bs[i]=kn
   ·rw[if_pos z,yaL (by simp[z])];rfl
   ·rw[if_neg z,yaS (by simp[z])];rfl
  refine ⟨_,rfl,_,_,_,_,rfl,rfl,SqT.of h3t,rfl,_,rfl,rfl,_,rfl,?_⟩;rw[et];refine ite2 (fun z=>?_) (fun z=>?_)
  ·have zk:bs[i]=kn:=by
    have:=V.int.inj (yaB z);omega
   rw[if_pos zk];have nt:t≠E:=fun q=>by rw[q,h3]at h3t;cases h3t
   refine ⟨_,rfl,us,h3,zam (by omega),m - 1,by omega,by omega,_,us++[.ref t],rfl,zac,zbl (zaJ (fun _ _ zq0=>(by obtain ⟨u,e1,e2⟩:=zq0;exact ⟨u,e1,by rw[zaf (fun q=>by rw[q,h3]at e2;cases e2)];exact e2⟩)) hP3) ⟨t,rfl,by rw[zaf nt];exact h3t⟩,by rw[yak,yaE];omega,fun b o n e=>by rw[zaf n];exact k3 b o n e⟩
  ·have zk:¬ bs[i]=kn:=fun q=>z (yag (congrArg V.int (by omega)));rw[if_neg zk,yaN];exact ⟨m - 1,by omega,by omega,_,us,rfl,h3,hP3,by omega,k3⟩
 ·rintro σ H3 ⟨x0,us,rfl,h3,hP3,_,k3⟩;have hbl:=hP.length;rw[yar (by omega)]at hP3;have hm:kn∈bs.filter fun b=>decide (b=kn):=yaV.mpr ⟨hk,yag rfl⟩;generalize hl2:(bs.filter fun b=>decide (b=kn))=l at hP3 hm;cases hP3 with
  | nil=>cases hm
  | @cons b0 v0 l0 u0 g _=>
   have hb0:b0=kn:=by
    have:b0∈bs.filter fun b=>decide (b=kn):=by rw[hl2];exact yav
    exact yaB (yaV.mp this).2
   rw[hb0]at g;exact ⟨_,_,_,_,rfl,rfl,SqL.of h3,zaP (j:=0) rfl,q _ _ (fun b o e=>k3 b o (zab e hE) e) g⟩
theorem zb9.same {K:Frag}{CS:Addr}{H H':Hp}{sh dx st p:Addr}{qs:List Addr}{ps:List Nat}{rows:List (List Int)}{t rs:Addr}{as:List Addr}(S:zb9 K CS H sh dx st p qs ps rows t rs as)(s:Same H H'):zb9 K CS H' sh dx st p qs ps rows t rs as:=⟨s _ _ S.own,s _ _ S.ins,S.stand.same s,S.full.ext s.ext⟩
def zj5 (K:Frag)(m0 mF mS mL:Addr):Sp:=fun vs H Q _=>∃(st wa:Addr) (key:Int) (ps:List Nat) (rows:List (List Int)) (t rs:Addr) (as:List Addr) (wy:List Nat),vs=[.ref st,.ref wa,.int key]∧zaO H st ps rows t rs as∧zbp H wa ps wy∧Tab4 m0 mF mS mL H∧
 ∀(D D0 D1 D2 D3 D4:Addr) (H':Hp),H D=none→K4 m0 mF mS mL H H'→Tab4 m0 mF mS mL H'→H' D=some (.lst [.ref D0,.ref D1,.ref D2,.ref D3,.ref D4])→(∀ X∈[D0,D1,D2,D3,D4],zca H' ps rows key wy X)→Q (.ref D) H'
theorem zmC (T:Txt K mg){mc mp m0 mF mS:Addr}{CS:Addr}(O:OwnC K mg CS)(qaL:DFT K mg "_law_papers" zcc zdd mc mp)(hBM:BMAt mg base)(qaf:FC P w K mg base 8 "full_rows" zbf (zfb K))(qcV:FC P w K mg base 9 "bridges" zd2 (spBr K))(qah:FC P w K mg base 9 "paper_of" zcd (zht K mF mS))(qcy:FI P w K mg base CS 9 zbc (zkb K CS))(qaG:FM P w K mg base CS 8 "find" zb2 (zmb K CS mF mS))(qci:FC P w K mg base 1 "_law_below" zdY (zj9 K))(qcd:∀ b,Sub K mg base b→FC P w K mg b 6 "search" zdv (zhs P w K mg b mF))(qbA:∀ b,Sub K mg base b→FC P w K mg b 6 "search_beneath" zbC (zmd P w K mg b mF)):FC P w K mg base 11 "_law_papers" zdd (zj5 K m0 mF mS mp):=by
 refine qaL.ok qae (fun vs H Q E h=>?_) (fun f A outer s H vs Q E hr h=>?_)
 ·obtain ⟨st,wa,key,ps,rows,t,rs,as,wy,rfl,_⟩:=h;rfl
 obtain ⟨st,wa,key,ps,rows,t,rs,as,wy,rfl,S,W,TT,q⟩:=h;refine ⟨_,(zaw (zat (i:=3) qae.nd rfl (Or.inr rfl) (zav qaf hr (zaa (pv 0) zad)))
   (zaw (zat (i:=4) qae.nd rfl (Or.inl rfl) (zav qcV hr (zaa (pv 0) zad)))
   (zaw (zat (i:=5) qae.nd rfl (Or.inl rfl) (zbg (zaa (zav qah hr (zaa (pv 0) (zaa (pv 1) (zaa (pv 2) zad)))) zad)))
   (zaw (zat (i:=6) qae.nd rfl (Or.inl rfl) (zgi (kf:=1) qcd hr (pv 4) (zbI zcm rfl T.qby boot_list (zaa (pv 1) zad)) (ziJ (osc:=zah zcc) (N:=["_law_stand_here","_law_way_here","_law_key_here","_law_fulls","_law_spans","_law_found","_law_told","_law_beneath_it","_law_plain","_law_knot","_law_spot"]) (ps:=["_law_knot","_law_at"]) (caps:=["_law_key_here","_law_fulls"]) (cap:=[2,3]) ⟨rfl,rfl,rfl,by decide +kernel,by decide +kernel,by decide +kernel,by decide +kernel⟩ (by decide +kernel) (by decide +kernel) rfl rfl rfl rfl (fun _ _ _ _ us hl=>match us,hl with | [_,_],_=>rfl) (fun _=>rfl)) rfl qaL.hd hBM (fun b _ _ _ _ _ _ _ S hr=>(zdf zgm (zaq (zbr (K:=K)) (zaq (zcu (K:=K)) (zaq (zcu (K:=K)) (pv 3) (pv 0) (fun _ _=>rfl)) (pv 1) (fun _ _=>rfl)) zae (fun _ _=>rfl)) (pv 2) (zaA _)))))
   (zaw (zaW (zdz F.plainAttrs_list F.slot_list_append F.type_list_append zaN (pv 5) (zaa (zbd (N:=["_law_knot","_law_pair"]) (own:=2) (cap:=[]) rfl (zgg rfl T.qcq (zaa (pv 1) (zaa (pv 6) zad))) ⟨rfl,rfl,rfl,rfl,rfl,rfl⟩ (fun _ _ _ _ _=>(zff (K:=K) (n:=2) rfl (zaG (zan (i:=0) (show List.Nodup (["_law_knot","_law_pair"]:List Str) by decide +kernel) rfl (Or.inl rfl)) (zaG (zan (i:=1) (show List.Nodup (["_law_knot","_law_pair"]:List Str) by decide +kernel) rfl (Or.inl rfl)) zce)))) (fun _ _ _ _ _=>zbj) (fun _ _ _ _ _=>(zbv (zaa (pv 0) (zaa (zaq (zbr (K:=K)) (pv 1) zae (fun _ _=>rfl)) (zaa (zaq (zbr (K:=K)) (pv 1) zae (fun _ _=>rfl)) zad)))))) zad)))
   (zaw (zat (i:=7) qae.nd rfl (Or.inr rfl) (zgi (kf:=1) qbA hr (pv 4) (zaq zax (pv 1) zae (fun _ _=>rfl)) (ziJ (osc:=zah zcc) (N:=["_law_stand_here","_law_way_here","_law_key_here","_law_fulls","_law_spans","_law_found","_law_told","_law_beneath_it","_law_plain","_law_knot","_law_spot"]) (ps:=["_law_knot","_law_at"]) (caps:=["_law_key_here","_law_fulls"]) (cap:=[2,3]) ⟨rfl,rfl,rfl,by decide +kernel,by decide +kernel,by decide +kernel,by decide +kernel⟩ (by decide +kernel) (by decide +kernel) rfl rfl rfl rfl (fun _ _ _ _ us hl=>match us,hl with | [_,_],_=>rfl) (fun _=>rfl)) rfl qaL.hd hBM (fun b _ _ _ _ _ _ _ S hr=>(zdf zgm (zaq (zbr (K:=K)) (zaq (zcu (K:=K)) (zaq (zcu (K:=K)) (pv 3) (pv 0) (fun _ _=>rfl)) (pv 1) (fun _ _=>rfl)) zae (fun _ _=>rfl)) (pv 2) (zaA _)))))
   (zaw (zaW (zdz F.plainAttrs_list F.slot_list_append F.type_list_append zaN (pv 5) (zaa (zoj "_law_knot" (N:=["_law_knot","_law_beneath_it"]) (own:=1) (cap:=[7]) rfl (za1 (pv 1)) ⟨rfl,rfl,rfl,rfl,rfl,rfl,rfl⟩ (fun _ _ _ _ _=>(zan (i:=0) (show List.Nodup (["_law_knot","_law_beneath_it"]:List Str) by decide +kernel) rfl (Or.inr rfl))) (fun _ _ _ _ _=>zbj) (fun _ _ _ _ _=>(zaq (zcu (K:=K)) (zbd (N:=["_law_line","_law_knot"]) (own:=1) (cap:=[0]) rfl (zog (K:=K) (pv 1)) ⟨rfl,rfl,rfl,rfl,rfl,rfl⟩ (fun _ _ _ _ _=>(zan (i:=0) (show List.Nodup (["_law_line","_law_knot"]:List Str) by decide +kernel) rfl (Or.inl rfl))) (fun _ _ _ _ _=>(zek (zay zeo (zaq (zbr (K:=K)) (pv 0) zae (fun _ _=>rfl)) (pv 1) (zaA _)))) (fun _ _ _ _ _=>(pv 0))) zae (fun _ _=>rfl)))) zad)))
   (zaw (zaW (zdz F.plainAttrs_list F.slot_list_append F.type_list_append zaN (pv 5) (zaa (zbd (N:=["_law_knot","_law_pair"]) (own:=2) (cap:=[]) rfl (zgg rfl T.qcq (zaa (pv 1) (zaa (zp4 qaG O.cl hr (zro qcy hr O.mgC (zaa (pv 0) zad)) (zaa (zbI zcm rfl T.qby boot_list (zaa (pv 1) zad)) (zaa (pv 2) zad))) zad))) ⟨rfl,rfl,rfl,rfl,rfl,rfl⟩ (fun _ _ _ _ _=>(zff (K:=K) (n:=2) rfl (zaG (zan (i:=0) (show List.Nodup (["_law_knot","_law_pair"]:List Str) by decide +kernel) rfl (Or.inl rfl)) (zaG (zan (i:=1) (show List.Nodup (["_law_knot","_law_pair"]:List Str) by decide +kernel) rfl (Or.inl rfl)) zce)))) (fun _ _ _ _ _=>zbj) (fun _ _ _ _ _=>(zbv (zaa (pv 0) (zaa (zaq (zbr (K:=K)) (pv 1) zae (fun _ _=>rfl)) (zaa (zaq (zbr (K:=K)) (pv 1) zae (fun _ _=>rfl)) zad)))))) zad)))
   (zaw (zat (i:=8) qae.nd rfl (Or.inl rfl) (zbg zad))
   (zaw (zbb PassesOwn.never rfl (za1 (pv 1)) (zan (i:=9) qae.nd rfl (Or.inl rfl)) (zaw (zat (i:=10) qae.nd rfl (Or.inl rfl) (zav qci hr (zaa (zbd (N:=["_law_entry"]) (own:=1) (cap:=[]) rfl (za1 (zaq zax (pv 3) (pv 9) (fun _ _=>rfl))) ⟨rfl,rfl,rfl,rfl,rfl,rfl⟩ (fun _ _ _ _ _=>(zan (i:=0) (show List.Nodup (["_law_entry"]:List Str) by decide +kernel) rfl (Or.inl rfl))) (fun _ _ _ _ _=>zbj) (fun _ _ _ _ _=>(zaq (zbr (K:=K)) (pv 0) zae (fun _ _=>rfl)))) (zaa (pv 2) zad))))
   (zag (zaW (zdz F.plainAttrs_list F.slot_list_append F.type_list_append zaN (pv 8) (zaa (zbv (zaa (pv 9) (zaa (pv 10) (zaa (zav qci hr (zaa (zaq zaF (zaq zaF (pv 0) zae (fun _ _=>rfl)) (pv 9) (fun _ _=>rfl)) (zaa (pv 2) zad))) zad)))) zad))))))
   (zag (zas (zaz zix (pv 5) (zbg (zaa (pv 8) zad))))))))))))))),?_⟩
 intro N1 n1;refine ⟨_,rfl,st,ps,rows,t,rs,as,rfl,S,fun pf qs H1 hpf s1 h1 _ _ _ hF=>n1 _ _ ?_⟩;intro N2 n2;refine ⟨_,rfl,st,ps,rows,t,rs,as,rfl,S.same s1,fun br xs H2 hbr s2 h2 hB=>n2 _ _ ?_⟩;have P2:PNow K H2 st wa pf br ps rows t rs as qs xs wy:=⟨(S.same s1).same s2,(W.same s1).same s2,s2 _ _ h1,ze4 (.of s2) hF,h2,hB⟩;have T2:=(TT.same s1).same s2;have k2:K4 m0 mF mS mp H H2:=.of (s1.trans s2);clear hF h1 hB h2;intro N3 n3;refine ⟨_,rfl,_,rfl,_,rfl,st,wa,key,ps,rows,t,rs,as,wy,rfl,P2.S,P2.W,T2.ts,fun D0 zs0 H3 hD0 kk3 t3 h3 hP0=>⟨(by show 1≤sizeLine;decide),fun dF hdF=>n3 _ _ ?_⟩⟩;obtain ⟨T3,k3⟩:=T2.gS kk3 t3;have P3:=P2.kp (T2.k0 k3);have A3:zca H3 ps rows key wy D0:=⟨zs0,h3,hP0⟩;have sF:=zai hdF (.lst [.ref D0]);have hdF0:H dF=none:=by
  cases e:H dF with
  | none=>rfl
  | some o=>
   have:=(k2.trans k3) _ _ (T3.free hdF) e;rw[hdF]at this;cases this
 have sd:Same H3 (dl [dF] (upd H3 dF (.lst [.ref D0]))):=fun b o e=>by
  have n:=zab e hdF;rw[zrY (fun z=>n (yap.mp z)),zaf n];exact e
 have F4:FNow K m0 mF mS mp H (upd H3 dF (.lst [.ref D0])) st wa pf br ps rows t rs as qs xs wy key dF [D0]:=⟨P3.kp (.of sd),T3.same sF,zac,(k2.trans k3).trans (.of sF),hdF0,fun X hX=>by rw[yap.mp hX];exact A3.kp (.of sd)⟩;generalize upd H3 dF (.lst [.ref D0])=H4 at F4 ⊢;clear P3 A3 T3 P2 T2 sF sd hP0 h3;intro N5 n5;refine ⟨_,rfl,_,rfl,wa,_,rfl,.inl (SqL.of F4.p.W.at_),fun y hy=>?_⟩;have sy:=zai hy (.lst (wy.map nV));have W4:=F4.P.W;have F5:=F4.same sy;have Wy:zbp (upd H4 y (.lst (wy.map nV))) y ps wy:=⟨zac,W4.len,W4.ne,W4.ch,W4.kn⟩;generalize upd H4 y (.lst (wy.map nV))=H5 at F5 Wy ⊢;have cap3:∀(σ:L2.St),σ[2]?=some (some (.int key))→σ[3]?=some (some (.ref pf))→∀(j i:Nat) (v:V),([2,3]:List Nat)[j]?=some i→([.int key,.ref pf]:List V)[j]?=some v→σ[i]?=some (some v):=fun σ a1 a2 j i v e1 e2=>by
  rcases j with _ | _ | j
  ·cases e1;cases e2;exact a1
  ·cases e1;cases e2;exact a2
  ·cases e1
 have hfl:∀ k,k < ps.length+1→(zak ps rows k).length≤1000:=fun k hk=>by
  have:=zdG S.T S.len (rows:=rows) hk;have:=S.keys;omega
 refine ⟨F5.T.a,[.int key,.ref pf],rfl,cap3 _ rfl rfl,fun bs g c' H6 hg hT6 hC hO SB hV=>?_⟩;obtain ⟨T6,k6⟩:=F5.T.gL hg hT6 (hO _ _ rfl F5.T.b);have F6:=F5.kp k6 T6;have AF:=zgM hV hC T6.f F6.p.hpf F6.p.hF;have SE:zbe [] mF (fun _ H'=>Gro mF H6 H') ps rows br xs [] H6:=⟨Gro.refl _ _,fun a ha=>absurd ha yax,F6.p.hbr,yax,F6.p.hB,T6.f⟩;refine ⟨br,y,g,xs,ps,rows,wy,key,[],_,_,[],rfl,AF,SE,S.T,S.R,S.few,zf9 (F5.T.k0 k6) Wy,yax,yaC _,hfl,fun D1 zs1 H7 L' S7 kk7 hD1 h7 hA7 _=>n5 _ _ ?_⟩;obtain ⟨T7,k7⟩:=T6.gF (fun b o n e=>kk7 b o yax n e) S7.tb;have F7:=F6.kp k7 T7;clear AF SE F6 F5 F4 Wy hV hC SB hO hT6 hg T6 k6 k7;intro N6 n6;have W7:=F7.p.W;refine ⟨_,rfl,.inl ⟨rfl,_,SqL.of F7.e⟩,_,rfl,_,rfl,wa,D1,rfl,⟨_,SqL.of W7.at_⟩,⟨_,SqL.of h7⟩,fun E1 hE1=>?_⟩;refine zi8 W7 h7 hA7 hE1 fun us1 H8 s8 h8 hP8=>?_;have F8:=F7.same s8;refine ⟨_,_,_,rfl,rfl,F8.e,zam (by simp),n6 _ _ ?_⟩;have F9:=F8.add ⟨us1,h8,hP8⟩ (Ne.symm (zab F7.e hE1));generalize upd H8 dF (.lst (List.map V.ref [D0]++[.ref E1]))=H9 at F9 ⊢;clear F8 F7 W7 hA7 h7 hP8 h8 s8;intro N7 n7;have W9:=F9.p.W;have hw0:0 < wy.length:=ybg.mpr W.ne;have hk0:wy.getD 0 0 < ps.length+1:=W.kn _ (zhq hw0);refine ⟨_,rfl,_,rfl,_,_,_,_,rfl,rfl,SqL.of W9.at_,zaP (zfk hw0),?_⟩;refine ⟨F9.T.b,[.int key,.ref pf],rfl,cap3 _ rfl rfl,fun bs g c' HA hg hTA hC hO SB hV=>?_⟩;obtain ⟨TA,kA⟩:=F9.T.gL hg (hO _ _ rfl F9.T.a) hTA;have FA:=F9.kp kA TA;have AF:=zgM hV hC TA.f FA.p.hpf FA.p.hF;have SE:zbe [] mF (fun _ H'=>Gro mF HA H') ps rows br xs [] HA:=⟨Gro.refl _ _,fun a ha=>absurd ha yax,FA.p.hbr,yax,FA.p.hB,TA.f⟩;refine ⟨br,g,xs,ps,rows,wy.getD 0 0,key,[],_,_,[],rfl,AF,SE,S.T,S.R,S.few,hk0,yaC _,hfl,fun D2 zs2 HB L' SB2 kkB hD2 hB2 hPB _=>n7 _ _ ?_⟩;obtain ⟨TB,kB⟩:=TA.gF (fun b o n e=>kkB b o yax n e) SB2.tb;have FB:=FA.kp kB TB;clear AF SE FA F9 hV hC SB hO hTA hg TA kA kB SB2;intro N8 n8;have WB:=FB.p.W;refine ⟨_,rfl,.inl ⟨rfl,_,SqL.of FB.e⟩,_,rfl,wa,rfl,⟨_,SqL.of WB.at_⟩,fun E2 hE2=>?_⟩;have hzl:zs2.length≤900:=by
  have l1:=hPB.length;have l2:(benL ps (wy.getD 0 0) (ps.length+1)).length≤ps.length+1:=yat (ybb _ _) (by rw[yaR];exact yab _);have:=S.few;omega
 refine zaT (xs:=wy.map nV) (fun i σ HC=>∃(x0:Option V) (us:List V),σ=[x0,some (.ref D2)]∧HC E2=some (.lst us)∧Paired (zbJ HC ps rows key) (wy.take i) us∧But E2 HB HC) ?_ ?_ ?_ ?_
 ·exact ⟨_,[],rfl,zac,.nil,fun b o n e=>by rw[zaf n];exact e⟩
 ·rintro i σ HC _ ⟨x0,us,rfl,_,_,kC⟩;exact kC.sq (SqL.of WB.at_) hE2
 ·rintro i m x σ HC hx hm ⟨x0,us,rfl,hC,hPC,kC⟩;have sC:Same HB HC:=fun b o e=>kC b o (zab e hE2) e;have hi:=(yah.mp hx).1;rw[yaa]at hi hm;rw[zfk hi]at hx;obtain rfl:=yae hx;have hul:=Paired.length hPC;rw[yao]at hul;have hwl:=W.len;refine zcU ?_;refine zof (kn:=wy.getD i 0) (sC _ _ hB2) (zbn (fun b us e=>sC _ _ e) hPB) (zcj.mpr ⟨W.kn _ (zhq hi),zi1 S.T W.ch i hi⟩) hzl fun v HD sD hv=>?_;obtain ⟨u,rfl,hu⟩:=hv;have hD:=sD _ _ hC;have nu:∀{x:Addr} {us:List V},HD x=some (.tup us)→x≠E2:=fun {x us} h z=>by
   rw[z,hD]at h;cases h
  refine ⟨us,hD,zam (by omega),m - 1,by omega,by rw[yaa];omega,_,us++[.ref u],rfl,zac,?_,fun b o n e=>by rw[zaf n];exact sD _ _ (kC b o n e)⟩;rw[zfD hi];exact zbl (zaJ (fun _ _ zq0=>(by obtain ⟨t,e1,e2⟩:=zq0;exact ⟨t,e1,by rw[zaf (nu (sD _ _ e2))];exact sD _ _ e2⟩)) hPC) ⟨u,rfl,by rw[zaf (nu hu)];exact hu⟩
 rintro σ HC ⟨x0,us2,rfl,hC,hPC,kC⟩;rw[yaa,yar (yab _)]at hPC;have sC:Same HB HC:=fun b o e=>kC b o (zab e hE2) e;have FC:=FB.same sC;refine ⟨_,_,_,rfl,rfl,FC.e,zam (by simp),n8 _ _ ?_⟩;have FD:=FC.add ⟨us2,hC,hPC⟩ (Ne.symm (zab FB.e hE2));generalize upd HC dF (.lst (List.map V.ref ([D0]++[E1])++[.ref E2]))=HD at FD ⊢;clear FC FB WB hPC hC kC sC hPB hB2 hE2;intro N9 n9;refine ⟨_,rfl,.inl ⟨rfl,_,SqL.of FD.e⟩,_,rfl,_,rfl,?_⟩;intro sh dx hsh hdx hne;refine zg9 FD.p.S hsh hdx hne fun p qs' HE hp _ sE SE=>⟨rfl,sh,dx,_,rfl,SE.ins,rfl,_,rfl,?_⟩;have FE:=FD.same sE;refine ⟨wa,_,rfl,.inl (SqL.of FE.p.W.at_),fun y2 hy2=>?_⟩;have sy2:=zai hy2 (.lst (wy.map nV));have Wy2:zbp (upd HE y2 (.lst (wy.map nV))) y2 ps wy:=⟨zac,W.len,W.ne,W.ch,W.kn⟩;have FG:=FE.same sy2;have SG:zb9 K CS (upd HE y2 (.lst (wy.map nV))) sh dx st p qs' ps rows t rs as:=SE.same sy2;generalize upd HE y2 (.lst (wy.map nV))=HG at FG SG Wy2 ⊢;refine ⟨_,rfl,sh,dx,st,p,y2,key,qs',ps,rows,t,rs,as,wy,rfl,SG,Wy2,FG.T.ts,fun D3 zs3 HI hD3 kI tI hI hAI=>?_⟩;obtain ⟨TI,kI'⟩:=FG.T.gS kI tI;have FI:=FG.kp kI' TI;refine ⟨wa,D3,rfl,⟨_,SqL.of FI.p.W.at_⟩,⟨_,SqL.of hI⟩,fun E3 hE3=>?_⟩;refine zi8 FI.p.W hI hAI hE3 fun us3 HJ sJ hJ hPJ=>?_;have FJ:=FI.same sJ;refine ⟨_,_,_,rfl,rfl,FJ.e,zam (by simp),n9 _ _ ?_⟩;have FK:=FJ.add ⟨us3,hJ,hPJ⟩ (Ne.symm (zab FI.e hE3));generalize upd HJ dF (.lst (List.map V.ref ([D0]++[E1]++[E2])++[.ref E3]))=HK at FK ⊢;clear FJ FI FG FE FD SG SE Wy2 hPJ hJ sJ hE3 hAI hI tI kI TI kI';intro N10 n10;refine ⟨(by show 0≤sizeLine;decide),fun dP hdP=>n10 _ _ ?_⟩;have sP:=zai hdP (.lst []);have PK:=FK.p;have hwl:=W.len;intro N11 n11;refine ⟨_,rfl,wa,rfl,⟨_,SqL.of (sP _ _ PK.W.at_)⟩,?_⟩;refine zdk (xs:=wy.map nV) (fun i σ H2=>∃(x9 x10:Option V) (us:List V),σ=[some (.ref st),some (.ref wa),some (.int key),some (.ref pf),some (.ref br),some (.ref dF),some (.ref D1),some (.ref D2),some (.ref dP),x9,x10]∧H2 dP=some (.lst us)∧Paired (zbJ H2 ps rows key) (wy.take i) us∧But dP HK H2) ?_ ?_ ?_ ?_
 ·exact ⟨_,_,[],rfl,zac,.nil,fun b o n e=>by rw[zaf n];exact e⟩
 ·rintro i σ H2 _ ⟨x9,x10,us,rfl,_,_,k2⟩;exact k2.sq (SqL.of PK.W.at_) hdP
 ·rintro i x σ H2 hx ⟨x9,x10,us,rfl,h2,hP,k2⟩;have hi:=(yah.mp hx).1;rw[yaa]at hi;rw[zfk hi]at hx;obtain rfl:=yae hx;have hkn:=W.kn _ (zhq hi);have ewy:wy.take (i+1)=wy.take i++[wy.getD i 0]:=zfD hi;have hul:=Paired.length hP;rw[yao]at hul;rw[ewy];generalize wy.getD i 0=k at hkn ⊢;have s2:Same HK H2:=fun b o e=>k2 b o (zab e hdP) e;have hF2:=ze4 (.of s2) PK.hF;have S2:=PK.S.same s2;obtain ⟨qk,hqk,wk,hwk,hak⟩:=za8 hF2 hkn;have hwk2:=hak.length;have hfl:=zdG S.T S.len (rows:=rows) hkn;have hkeys:=S.keys;refine zoT fun N' B' R' hN' hB' hR'=>?_;intro N12 n12;refine ⟨_,rfl,_,rfl,_,_,_,_,rfl,rfl,SqL.of (s2 _ _ PK.hpf),zaP (v:=.ref qk) (by rw[yal,hqk];rfl),qk,rfl,⟨_,SqL.of hwk⟩,fun D hD=>?_⟩;refine zaT (xs:=wk) (fun j σ H5=>∃(x0:Option V),σ=[x0]∧H5 D=some (.lst ((((zak ps rows k).take j).map (·.1)).map V.int))∧But D H2 H5) ?_ ?_ ?_ ?_
  ·exact ⟨_,rfl,zac,fun b o n e=>by rw[zaf n];exact e⟩
  ·rintro j σ H5 _ ⟨x0,rfl,_,k5⟩;exact k5.sq (SqL.of hwk) hD
  ·rintro j m x σ H5 hx hm ⟨x0,rfl,h5,k5⟩;have hj:=(yah.mp hx).1;obtain ⟨e,he,bb,x1,x2,rfl,hb,e1,e2⟩:∃ e,(zak ps rows k)[j]?=some e∧hasP K H2 e x:=zem hak hx;have e1':x1=.int e.1:=e1;subst e1';have h5b:=k5 _ _ (zab hb hD) hb;refine zcU ?_;refine ⟨_,rfl,_,_,_,_,rfl,rfl,SqT.of h5b,rfl,_,h5,zam (by rw[yaa,yaa,yao];omega),m - 1,by omega,by omega,_,rfl,?_,fun b o n e=>by rw[zaf n];exact k5 b o n e⟩;rw[zac,yaA (by omega),yan,yan,(yah.mp he).2];rfl
  rintro σ H5 ⟨x0,rfl,h5,k5⟩;rw[← hwk2,yar (yab _)]at h5;have s5:Same H2 H5:=fun b o e=>k5 b o (zab e hD) e;refine ⟨_,rfl,D,(zak ps rows k).map (·.1),key,rfl,.inl h5,by rw[yaa];omega,fun H6 s6=>n12 _ _ ?_⟩;have eb:cntB ((zak ps rows k).map (·.1)) key=zal (zak ps rows k) key:=by
   unfold cntB zal;rw[List.filter_map,yaa];rfl
  rw[eb];have s26:=s5.trans s6;have S6:=S2.same s26;obtain ⟨b,hb1,hb2⟩:=S6.at_.get (k:=k) (by rw[S.len];exact hkn);have hrl:(zbF rows k).length≤900:=yat (zob (zre (by rw[S.len];exact hkn))) (by omega);refine ⟨_,rfl,.inl ⟨rfl,_,SqL.of (s26 _ _ h2)⟩,_,rfl,_,rfl,_,rfl,_,_,_,_,rfl,rfl,SqT.of S6.st,rfl,_,rfl,_,_,_,_,rfl,rfl,SqT.of S6.rs,zhl hb1,_,rfl,b,zbF rows k,key,rfl,.inr hb2,hrl,fun H7 s7=>?_⟩;have s27:=s26.trans s7;have eo:cntB (zbF rows k) key=ownB rows k key:=rfl;rw[eo];refine ⟨(by show 3≤sizeLine;decide),fun a1 ha1=>?_⟩;have h7p:=s27 _ _ h2;have na:dP≠a1:=zab h7p ha1;have sa:=zai ha1 (.tup [nV k,.int ((zal (zak ps rows k) key:Nat):Int),.int ((ownB rows k key:Nat):Int)]);have haa:upd H7 a1 (.tup [nV k,.int ((zal (zak ps rows k) key:Nat):Int),.int ((ownB rows k key:Nat):Int)]) a1=some (.tup [nV k,.int ((zal (zak ps rows k) key:Nat):Int),.int ((ownB rows k key:Nat):Int)]):=zac;generalize upd H7 a1 (.tup [nV k,.int ((zal (zak ps rows k) key:Nat):Int),.int ((ownB rows k key:Nat):Int)])=H8 at sa haa ⊢;have s28:=s27.trans sa;have h8p:=sa _ _ h7p;have nD:∀{x:Addr} {us:List V},H8 x=some (.tup us)→x≠dP:=fun {x us} h z=>by
   rw[z,h8p]at h;cases h
  refine ⟨_,_,_,rfl,rfl,h8p,zam (by omega),hN' _ _ ?_⟩;refine ⟨_,_,us++[.ref a1],rfl,zac,?_,fun b o n e=>by rw[zaf n];exact s28 _ _ (k2 b o n e)⟩;exact zbl (zaJ (fun _ _ zq0=>(by obtain ⟨t,e1,e2⟩:=zq0;exact ⟨t,e1,by rw[zaf (nD (s28 _ _ e2))];exact s28 _ _ e2⟩)) hP) ⟨a1,rfl,by rw[zaf (nD haa)];exact haa⟩
 rintro σ HL ⟨x9,x10,us,rfl,hL,hPL,kL⟩;rw[yaa,yar (yab _)]at hPL;have sL:Same HK HL:=fun b o e=>kL b o (zab e hdP) e;have FL:=FK.same sL;refine n11 _ _ ?_;refine ⟨_,rfl,_,rfl,(by show 1≤sizeLine;decide),fun u hu=>?_⟩;have su:=zai hu (.lst [.ref dP]);have FM:=FL.same su;refine ⟨dF,u,_,_,rfl,rfl,FM.e,zac,ya5 (zam (by simp)),fun D hD=>?_⟩;have sD:=zai hD (.lst (List.map V.ref ([D0]++[E1]++[E2]++[E3])++[.ref dP]));have FN:=FM.same sD;refine q D D0 E1 E2 E3 dP _ ?_ FN.k FN.T zac fun X hX=>?_
 ·cases e:H D with
  | none=>rfl
  | some o=>
   have:=FM.k _ _ (FM.T.free hD) e;rw[hD]at this;cases this
 ·have hX':X∈[D0]++[E1]++[E2]++[E3]∨X=dP:=by
   simp only[yaj,yaH,yax,or_false]at hX ⊢;rcases hX with z | z | z | z | z <;> simp[z]
  rcases hX' with z | rfl
  ·exact (FN.A X z).kp zbq
  ·exact zca.kp (H:=HL) ⟨us,hL,hPL⟩ (.of (su.trans sD))
theorem ziB {K:Frag}{L d a:Addr}{H:Hp}{o:HO}(s:LS K L d H)(e:H a=some o)(n:∀ kvs,o≠.dK kvs):a≠d:=fun z=>by
 obtain ⟨_,_,_,e2,_⟩:=s.ex;rw[← z,e]at e2;exact n _ (yae e2)
theorem zmW {H:Hp}{ps:List Nat}{rows:List (List Int)}{key:Int}{k:Nat}{z:V}(h:zbJ H ps rows key k z):zcn K H z (some (zfB ps rows key k)):=by
 obtain ⟨t,rfl,e⟩:=h;exact .good t _ _ _ e
theorem zf0 {H:Hp}{ps:List Nat}{rows:List (List Int)}{key:Int}:∀{wy:List Nat} {zs:List V},Paired (zbJ H ps rows key) wy zs→Paired (zcn K H) zs (dueO ps rows key wy)
 | _,_,.nil=>.nil
 | _,_,.cons h t=>.cons (zmW h) (zf0 t)
theorem ziH {H:Hp}{ps:List Nat}{rows:List (List Int)}{key:Int}{v:V}{o:Option Tr3}(hv:zcn K H v o):∀{wy:List Nat} {zs:List V} (i:Nat),Paired (zbJ H ps rows key) wy zs→i < wy.length→Paired (zcn K H) (zs.take i++[v]++zs.drop (i+1)) ((dueO ps rows key wy).take i++[o]++(dueO ps rows key wy).drop (i+1))
 | _,_,0,.cons h t,_=>.cons hv (zf0 t)
 | _,_,i+1,.cons h t,hi=>.cons (zmW h) (ziH hv i t (Nat.lt_of_succ_lt_succ hi))
def zil (K:Frag):Sp:=fun vs H Q _=>∃(d L D:Addr) (ps:List Nat) (rows:List (List Int)) (key:Int) (wy:List Nat),vs=[.ref d,.ref D]∧LS K L d H∧zca H ps rows key wy D∧wy≠[]∧wy.length≤900∧
 ∀(E:Addr) (zs:List V) (os:List (Option Tr3)) (H':Hp),H' E=some (.lst zs)→Paired (zcn K H') zs os→zs.length=wy.length→os≠dueO ps rows key wy→Keep d H H'→LS K L d H'→Q (.ref E) H'
theorem zle (T:Txt K mg)(qbb:DF K mg "_law_changed" zc9 zcR)(qaa:FC P w K mg base 2 "_law_take" zbo (zea K)):FC P w K mg base 3 "_law_changed" zcR (zil K):=by
 refine qbb.ok qag (fun vs H Q E h=>?_) (fun f cdv A outer s H vs Q E hr h=>?_)
 ·obtain ⟨d,L,D,ps,rows,key,wy,rfl,_⟩:=h;rfl
 obtain ⟨d,L,D,ps,rows,key,wy,rfl,hs,hD,hw,hwl,q⟩:=h;refine ⟨_,(zaw (zat (i:=2) qag.nd rfl (Or.inl rfl) (zav qaa hr (zaa (pv 0) (zaa (zau zar rfl T.qat boot_len (zaa (pv 1) zad)) zad))))
   (zaw (zkl (zaq zax (pv 1) (pv 2) (fun _ _=>rfl)) (zfn rfl (zaG (zan (i:=3) qag.nd rfl (Or.inl rfl)) (zaG (zan (i:=4) qag.nd rfl (Or.inl rfl)) (zaG (zan (i:=5) qag.nd rfl (Or.inl rfl)) zce)))))
   (zaw (zat (i:=6) qag.nd rfl (Or.inl rfl) (zaq zax (zbg (zaa zae (zaa (zgh zdt zae) zad))) (zav qaa hr (zaa (pv 0) (zaa zae zad))) (fun _ _=>rfl)))
   (zaw (zat (i:=7) qag.nd rfl (Or.inl rfl) (zaq zax (zbg (zaa (zbv (zaa (pv 3) (zaa (zaz za4 (pv 4) (pv 6)) (zaa (pv 5) zad)))) (zaa (zbv (zaa (pv 3) (zaa (pv 4) (zaa (zaz za4 (pv 5) (pv 6)) zad)))) (zaa (zbv (zaa (pv 3) (zaa (zaz za4 (pv 4) (pv 6)) (zaa (zaz za4 (pv 5) (pv 6)) zad)))) zad)))) (zav qaa hr (zaa (pv 0) (zaa zae zad))) (fun _ _=>rfl)))
   (zag (zas (zaz zix (zaz zix (zbR zco (pv 1) zcX (zb3 (pv 2))) (zbg (zaa (pv 7) zad))) (zbR zco (pv 1) (zb3 (zaz za4 (pv 2) zae)) zcX)))))))),?_⟩
 obtain ⟨zs,hz,hP⟩:=hD.ex;have hzl:=hP.length;have hw0:0 < wy.length:=ybg.mpr hw;intro N1 n1;refine ⟨_,rfl,_,rfl,_,_,rfl,.inl (SqL.of hz),d,L,_,rfl,⟨by omega,by omega⟩,hs,fun at_ H1 a0 a1 k1 s1=>n1 _ _ ?_⟩;obtain ⟨i,rfl⟩:∃ i:Nat,at_=i:=⟨at_.toNat,by omega⟩;have hi:i < zs.length:=by omega
 have hiw:i < wy.length:=by omega
 obtain ⟨v,hv,u,rfl,hu⟩:∃ v,zs[i]?=some v∧zbJ H ps rows key wy[i] v:=zaS hP (yac hiw);have nD:D≠d:=ziB hs hz (fun _ z=>nomatch z);have nu:u≠d:=ziB hs hu (fun _ z=>nomatch z);have hz1:=k1 _ _ nD hz;have hu1:=k1 _ _ nu hu;intro N2 n2;refine ⟨_,rfl,_,rfl,_,_,_,_,rfl,rfl,SqL.of hz1,zaP (v:=.ref u) hv,?_⟩;refine ⟨u,_,rfl,SqT.of hu1,rfl,_,_,rfl,_,_,rfl,_,_,rfl,rfl,n2 _ _ ?_⟩;intro N3 n3;unfold tAsg tOp;refine ⟨_,rfl,(by show 2≤sizeLine;decide),fun l hl=>?_⟩;have sl:=zai hl (.lst [.int 1,.int (-1)]);have ll:upd H1 l (.lst [.int 1,.int (-1)]) l=some (.lst [.int 1,.int (-1)]):=zac;have k1':Keep d H (upd H1 l (.lst [.int 1,.int (-1)])):=fun b o n e=>sl _ _ (k1 b o n e);have s1':=s1.same sl;generalize upd H1 l (.lst [.int 1,.int (-1)])=G1 at ll k1' s1' ⊢;refine ⟨_,rfl,d,L,2,rfl,by decide,s1',fun v H2 v0 v1 k2 s2=>?_⟩;obtain ⟨by_,hby,hb0⟩:∃ by_:Int,atI [V.int 1,.int (-1)] v=some (.int by_)∧by_≠0:=by
  obtain rfl | rfl:v=0∨v=1:=by omega
  ·exact ⟨1,rfl,by decide⟩
  ·exact ⟨-1,rfl,by decide⟩
 refine ⟨_,_,_,_,rfl,rfl,SqL.of (k2 _ _ (ziB s1' ll (fun _ z=>nomatch z)) ll),hby,n3 _ _ ?_⟩;have k02:=k1'.trans k2;clear k1 k1' k2 s1 s1' ll hby hz1 hu1 sl hl;intro N4 n4;unfold tAsg tOp;generalize hbe:((zal (zak ps rows wy[i]) key:Nat):Int)=be;generalize hoe:((ownB rows wy[i] key:Nat):Int)=oe;refine ⟨_,rfl,_,rfl,_,rfl,_,_,rfl,rfl,_,rfl,(by show 3≤sizeLine;decide),fun t1 h1=>?_⟩;have e1:=zai h1 (.tup [.int (wy[i]:Nat),.int (be+by_),.int oe]);have f1:upd H2 t1 (.tup [.int (wy[i]:Nat),.int (be+by_),.int oe]) t1=some (.tup [.int (wy[i]:Nat),.int (be+by_),.int oe]):=zac;generalize upd H2 t1 (.tup [.int (wy[i]:Nat),.int (be+by_),.int oe])=G1 at e1 f1 ⊢;refine ⟨_,rfl,_,rfl,_,rfl,_,rfl,_,_,rfl,rfl,(by show 3≤sizeLine;decide),fun t2 h2=>?_⟩;have e2:=zai h2 (.tup [.int (wy[i]:Nat),.int be,.int (oe+by_)]);have f2:upd G1 t2 (.tup [.int (wy[i]:Nat),.int be,.int (oe+by_)]) t2=some (.tup [.int (wy[i]:Nat),.int be,.int (oe+by_)]):=zac;generalize upd G1 t2 (.tup [.int (wy[i]:Nat),.int be,.int (oe+by_)])=G2 at e2 f2 ⊢;refine ⟨_,rfl,_,rfl,_,rfl,_,_,rfl,rfl,_,rfl,_,rfl,_,_,rfl,rfl,(by show 3≤sizeLine;decide),fun t3 h3=>?_⟩;have e3:=zai h3 (.tup [.int (wy[i]:Nat),.int (be+by_),.int (oe+by_)]);have f3:upd G2 t3 (.tup [.int (wy[i]:Nat),.int (be+by_),.int (oe+by_)]) t3=some (.tup [.int (wy[i]:Nat),.int (be+by_),.int (oe+by_)]):=zac;generalize upd G2 t3 (.tup [.int (wy[i]:Nat),.int (be+by_),.int (oe+by_)])=G3 at e3 f3 ⊢;refine ⟨(by show 3≤sizeLine;decide),fun l hl=>?_⟩;have e4:=zai hl (.lst [.ref t1,.ref t2,.ref t3]);have f4:upd G3 l (.lst [.ref t1,.ref t2,.ref t3]) l=some (.lst [.ref t1,.ref t2,.ref t3]):=zac;generalize upd G3 l (.lst [.ref t1,.ref t2,.ref t3])=G4 at e4 f4 ⊢;have s24:=e1.trans (Same.trans e2 (Same.trans e3 e4));have sG:=s2.same s24;refine ⟨_,rfl,d,L,3,rfl,by decide,sG,fun v H3 v0 v1 k3 s3=>?_⟩;have kk:∀{b:Addr} {us:List V},G4 b=some (.tup us)→H3 b=some (.tup us):=fun {b us} e=>k3 _ _ (ziB sG e (fun _ z=>nomatch z)) e;obtain ⟨u',x,y,hat,hu',hxy⟩:∃(u':Addr) (x y:Int),atI [V.ref t1,.ref t2,.ref t3] v=some (.ref u')∧H3 u'=some (.tup [.int (wy[i]:Nat),.int x,.int y])∧¬ (x=be∧y=oe):=by
  obtain rfl | rfl | rfl:v=0∨v=1∨v=2:=by omega
  ·exact ⟨t1,_,_,rfl,kk (e4 _ _ (e3 _ _ (e2 _ _ f1))),by omega⟩
  ·exact ⟨t2,_,_,rfl,kk (e4 _ _ (e3 _ _ f2)),by omega⟩
  ·exact ⟨t3,_,_,rfl,kk (e4 _ _ f3),by omega⟩
 refine ⟨_,_,_,_,rfl,rfl,SqL.of (k3 _ _ (ziB sG f4 (fun _ z=>nomatch z)) f4),hat,n4 _ _ ?_⟩;have k03:Keep d H H3:=fun b o n e=>k3 _ _ n (s24 _ _ (k02 b o n e));clear f1 f2 f3 f4 e1 e2 e3 e4 s24 sG k3 k02 hat kk;have hz3:=k03 _ _ nD hz;have nx:∀{b:Addr} {H':Hp},Same H3 H'→H' D=some (.lst zs):=fun {b H'} e=>e _ _ hz3;refine ⟨_,rfl,_,rfl,_,rfl,_,_,rfl,SqL.of hz3,fun p1 hp1=>?_⟩;rw[zhY];have g1:=zai hp1 (.lst (zs.take i));have j1:upd H3 p1 (.lst (zs.take i)) p1=some (.lst (zs.take i)):=zac;generalize upd H3 p1 (.lst (zs.take i))=G1 at g1 j1 ⊢;refine ⟨_,rfl,(by show 1≤sizeLine;decide),fun p2 hp2=>?_⟩;have g2:=zai hp2 (.lst [.ref u']);have tl:(zs.take i).length≤900:=yat (List.length_take_le _ _) (by omega);refine ⟨p1,p2,_,_,rfl,rfl,g2 _ _ j1,zac,ya5 (zam (by rw[yaE];omega)),fun p3 hp3=>?_⟩;have g3:=zai hp3 (.lst (zs.take i++[.ref u']));have j3:upd (upd G1 p2 (.lst [.ref u'])) p3 (.lst (zs.take i++[.ref u'])) p3=some (.lst (zs.take i++[.ref u'])):=zac;have g13:=g1.trans (g2.trans g3);generalize upd (upd G1 p2 (.lst [.ref u'])) p3 (.lst (zs.take i++[.ref u']))=G3 at g13 j3 ⊢;refine ⟨_,rfl,_,rfl,_,_,rfl,rfl,_,rfl,_,_,rfl,SqL.of (g13 _ _ hz3),fun p4 hp4=>?_⟩;rw[show ((i:Int)+1)=((i+1:Nat):Int) from rfl,zgB];have g4:=zai hp4 (.lst (zs.drop (i+1)));have dl_:(zs.drop (i+1)).length≤900:=by rw[yaY];omega
 refine ⟨p3,p4,_,_,rfl,rfl,g4 _ _ j3,zac,ya5 (zam ?_),fun p5 hp5=>?_⟩
 ·rw[yak,yaE,yao,yaY];omega
 have g5:=zai hp5 (.lst (zs.take i++[.ref u']++zs.drop (i+1)));have g35:=g13.trans (g4.trans g5);refine q p5 _ ((dueO ps rows key wy).take i++[some (((wy[i]:Nat):Int),x,y)]++(dueO ps rows key wy).drop (i+1)) _ zac ?_ ?_ ?_ (fun b o n e=>g35 _ _ (k03 b o n e)) (s3.same g35)
 ·refine ziH (.good u' _ _ _ (g35 _ _ hu')) i (zbn (fun b us e=>g35 _ _ (k03 _ _ (ziB hs e (fun _ z=>nomatch z)) e)) hP) hiw
 ·rw[yak,yak,yao,yaY,yaE];omega
 ·intro z;have hdl:(dueO ps rows key wy).length=wy.length:=yaa ..;have z2:=congrArg (fun l:List (Option Tr3)=>l[i]?) z;have e1:((dueO ps rows key wy).take i++[some (((wy[i]:Nat):Int),x,y)]++(dueO ps rows key wy).drop (i+1))[i]?=some (some (((wy[i]:Nat):Int),x,y)):=by
   have l1:((dueO ps rows key wy).take i).length=i:=by rw[yao,hdl];omega
   rw[ybY,ya0 (by omega),l1,ybK];rfl
  have e2:(dueO ps rows key wy)[i]?=some (some (zfB ps rows key wy[i])):=by
   unfold dueO;rw[yal,yac hiw];rfl
  have z3:some (some (((wy[i]:Nat):Int),x,y))=some (some (zfB ps rows key wy[i])):=by rw[← e1,← e2];exact z2
  have z4:=yae (yae z3);unfold zfB at z4;rw[hbe,hoe]at z4;exact hxy ⟨congrArg (·.2.1) z4,congrArg (·.2.2) z4⟩
theorem zsn {K:Frag}{H:Hp}{p:Addr}{qs:List Addr}{n:Nat}{f:Nat→List En}{Av:List Addr}(F:FA K H p qs n f)(A:zi7 Av H)(h1:p∉Av)(h2:∀ q∈qs,q∉Av):FA K (dl Av H) p qs n f:=
 ⟨zhX F.at_ h1,F.len,F.nd,F.np,fun j q hq=>by
  obtain ⟨ws,g1,g2⟩:=F.get j q hq;exact ⟨ws,zhX g1 (h2 q (yaP hq)),zfX A.tp g2⟩⟩
section
variable {K:Frag}{CS sh dx st p t rs:Addr}{H H':Hp}{qs as:List Addr}{ps:List Nat}{rows:List (List Int)}
theorem FA.kp {n:Nat}{f:Nat→List En}(h:FA K H p qs n f)(k:Kp0 H H'):FA K H' p qs n f:=⟨k.lst h.at_,h.len,h.nd,h.np,fun j q hq=>by
 obtain ⟨ws,h1,h2⟩:=h.get j q hq;exact ⟨ws,k.lst h1,zdg k h2⟩⟩
theorem zb9.kp (S:zb9 K CS H sh dx st p qs ps rows t rs as)(k:Kp0 H H'):zb9 K CS H' sh dx st p qs ps rows t rs as:=⟨k _ _ (fun _ z=>nomatch z) S.own,k _ _ (fun _ z=>nomatch z) S.ins,zey k S.stand,S.full.kp k⟩
theorem zb9.dl {g:Addr}{us:List V}(S:zb9 K CS H sh dx st p qs ps rows t rs as)(hg:H g=some (.lst us))(n1:g≠p)(n2:g∉qs):zb9 K CS (My.dl [g] H) sh dx st p qs ps rows t rs as:=by
 have nt:zi7 [g] H:=fun a ha xs e=>by
  rw[yap.mp ha,hg]at e;cases e
 refine ⟨zhX S.own fun z=>?_,zhX S.ins fun z=>?_,zfF nt.tp S.stand,zsn S.full nt (fun z=>n1 (yap.mp z).symm) fun q hq z=>n2 (yap.mp z ▸ hq)⟩
 ·have:=S.own;rw[yap.mp z,hg]at this;cases this
 ·have:=S.ins;rw[yap.mp z,hg]at this;cases this
end
structure GNow (K:Frag)(CS m0 mF mS mL:Addr)(H0 H:Hp)(sh dx st p:Addr)(qs:List Addr)(ps:List Nat)(rows:List (List Int))(t rs:Addr)(as:List Addr)(key:Int)(wy:List Nat)(D B:Addr)(us:List V)(g:Addr):Prop where
 S:zb9 K CS (dl [g] H) sh dx st p qs ps rows t rs as
 D_:zca (dl [g] H) ps rows key wy D
 B_:dl [g] H B=some (.lst us)
 A:zao K (dl [g] H) (wy.map fun k=>(((zal (zak ps rows k) key:Nat):Int),((ownB rows k key:Nat):Int))) us
 T:Tab4 m0 mF mS mL H
 k:∀ b o,b≠g→b∉[m0,mF,mS,mL]→H0 b=some o→H b=some o
theorem GNow.kp {K:Frag}{CS m0 mF mS mL:Addr}{H0 H H':Hp}{sh dx st p:Addr}{qs:List Addr}{ps:List Nat}{rows:List (List Int)}{t rs:Addr}{as:List Addr}{key:Int}{wy:List Nat}{D B:Addr}{us:List V}{g:Addr}(h:GNow K CS m0 mF mS mL H0 H sh dx st p qs ps rows t rs as key wy D B us g)(k:K4 m0 mF mS mL H H')(T':Tab4 m0 mF mS mL H'):GNow K CS m0 mF mS mL H0 H' sh dx st p qs ps rows t rs as key wy D B us g:=
 have k0:=zm6 (Av:=[g]) (h.T.k0 k)
 ⟨h.S.kp k0,h.D_.kp k0,k0.lst h.B_,zdg k0 h.A,T',fun b o n1 n2 e=>k b o n2 (h.k b o n1 n2 e)⟩
theorem zfY {K:Frag}{H:Hp}{B:Addr}{us:List V}{es:List (Int×Int)}(h:H B=some (.lst us))(A:zao K H es us):Rep.has K H es (.ref B):=⟨B,us,rfl,SqL.of h,A⟩
theorem ziW (xs:List V):cutV xs none (some (-1))=xs.take (xs.length - 1):=by
 unfold cutV;rw[show HT.sIx xs.length 0 none=0 from rfl,List.drop_zero,Nat.sub_zero];congr 1;show (if (-1:Int) < 0 then ((-1:Int)+(xs.length:Int)).toNat else min (-1:Int).toNat xs.length)=_
 rw[if_pos (by decide)];omega
theorem zeW {α β:Type}{F:α→β→Prop}:∀{l:List α} {m:List β} (n:Nat),Paired F l m→Paired F (l.take n) (m.take n)
 | _,_,0,_=>.nil
 | _,_,_+1,.nil=>.nil
 | _,_,n+1,.cons h t=>.cons h (zeW n t)
theorem zbp.cut {H:Hp}{wa wb:Addr}{ps wy:List Nat}(W:zbp H wa ps wy){n:Nat}(hn:0 < n){H':Hp}(h:H' wb=some (.lst ((wy.take n).map nV))):zbp H' wb ps (wy.take n):=by
 refine ⟨h,by rw[yao];have:=W.len;omega,fun z=>?_,znF W.ch 0 n,fun x hx=>W.kn x (List.mem_of_mem_take hx)⟩;have h1:0 < wy.length:=ybg.mpr W.ne;have:=congrArg List.length z;rw[yao,ybn]at this;omega
def zig (K:Frag)(m0 mF mS mL:Addr):Sp:=fun vs H Q _=>∃(st g D:Addr) (key:Int) (ps:List Nat) (rows:List (List Int)) (t rs:Addr) (as:List Addr) (wy:List Nat),vs=[.ref st,.ref g,.int key,.ref D]∧zaO H st ps rows t rs as∧zbp H g ps wy∧1 < wy.length∧g≠D∧zca H ps rows key wy D∧Tab4 m0 mF mS mL H∧
 ∀ H',(∀ b o,b≠g→b∉[m0,mF,mS,mL]→H b=some o→H' b=some o)→Tab4 m0 mF mS mL H'→Q (.bl true) H'
theorem zla (T:Txt K mg){m0 mF mS mL:Addr}{CS:Addr}(O:OwnC K mg CS)(qar:DF K mg "_law_shorter_right" zbz zbs)(qah:FC P w K mg base 9 "paper_of" zcd (zht K mF mS))(qcy:FI P w K mg base CS 9 zbc (zkb K CS))(qaG:FM P w K mg base CS 8 "find" zb2 (zmb K CS mF mS)):FC P w K mg base 11 "_law_shorter_right" zbs (zig K m0 mF mS mL):=by
 refine qar.ok qan (fun vs H Q E h=>?_) (fun f cdv A outer s H vs Q E hr h=>?_)
 ·obtain ⟨st,g,D,key,ps,rows,t,rs,as,wy,rfl,_⟩:=h;rfl
 obtain ⟨st,g,D,key,ps,rows,t,rs,as,wy,rfl,S,W,hw,ngD,hD,TT,q⟩:=h;refine ⟨_,(zaw (zat (i:=4) qan.nd rfl (Or.inl rfl) (zro qcy hr O.mgC (zaa (pv 0) zad)))
   (zaw (zgd (i:=5) (N:=["_law_knot","_law_spot","_law_own"]) (own:=3) (cap:=[]) qan.nd rfl rfl rfl (za1 (pv 3)) ⟨rfl,rfl,rfl,rfl,rfl,rfl⟩ (fun _ _ _ _ _=>(zff (K:=K) (n:=3) rfl (zaG (zan (i:=0) (show List.Nodup (["_law_knot","_law_spot","_law_own"]:List Str) by decide +kernel) rfl (Or.inl rfl)) (zaG (zan (i:=1) (show List.Nodup (["_law_knot","_law_spot","_law_own"]:List Str) by decide +kernel) rfl (Or.inl rfl)) (zaG (zan (i:=2) (show List.Nodup (["_law_knot","_law_spot","_law_own"]:List Str) by decide +kernel) rfl (Or.inl rfl)) zce))))) (fun _ _ _ _ _=>zbj) (fun _ _ _ _ _=>(zbv (zaa (pv 1) (zaa (pv 2) zad)))))
   (zbZ (zbu (PW.pt (ziq (zay (zgl (List (Tri Int Int Int)) (huD hr)) (zav qah hr (zaa (pv 0) (zaa (pv 1) (zaa (pv 2) zad)))) (pv 3) (zaA _)) (zfm (zay (zgl (List (Int×Int)) (huD hr)) (zp4 qaG O.cl hr (pv 4) (zaa (pv 1) (zaa (pv 2) zad))) (pv 5) (zaA _))))) (zag (zas zcf)) zaI)
   (zaw (zaW (zpt F.plainAttrs_list F.slot_list_pop F.type_list_pop zrA (pv 1)))
   (zag (zas (zms (zdf (zku (List (Tri Int Int Int)) (huD hr)) (zav qah hr (zaa (pv 0) (zaa (pv 1) (zaa (pv 2) zad)))) (zbR zco (pv 3) zcX (zb3 (zgh zdt zae))) (zaA _)) (zkm (zdf (zku (List (Int×Int)) (huD hr)) (zp4 qaG O.cl hr (pv 4) (zaa (pv 1) (zaa (pv 2) zad))) (zbR zco (pv 5) zcX (zb3 (zgh zdt zae))) (zaA _)))))))))),?_⟩
 intro N1 n1;refine ⟨_,rfl,?_⟩;intro sh dx hsh hdx hne;refine zg9 S hsh hdx hne fun p qs H1 hp hqs s1 S1=>⟨rfl,n1 _ _ ?_⟩;intro N2 n2;obtain ⟨zs,hz,hP⟩:=hD.ex;have hzl:=hP.length;have hwl:=W.len;have hz1:=s1 _ _ hz;have hP1:=zbn (fun b us e=>s1 _ _ e) hP;refine ⟨_,rfl,D,rfl,⟨_,SqL.of hz1⟩,fun B hB=>?_⟩;refine zaT (xs:=zs) (fun i σ H3=>∃(x0 x1 x2:Option V) (us:List V),σ=[x0,x1,x2]∧H3 B=some (.lst us)∧zao K H3 ((wy.take i).map fun k=>(((zal (zak ps rows k) key:Nat):Int),((ownB rows k key:Nat):Int))) us∧us.length=i∧But B H1 H3) ?_ ?_ ?_ ?_
 ·exact ⟨_,_,_,[],rfl,zac,.nil,rfl,fun b o n e=>by rw[zaf n];exact e⟩
 ·rintro i σ H3 _ ⟨x0,x1,x2,us,rfl,_,_,_,k3⟩;exact k3.sq (SqL.of hz1) hB
 ·rintro i m x σ H3 hx hm ⟨x0,x1,x2,us,rfl,h3,hA3,hul,k3⟩;have hi:=(yah.mp hx).1;have hiw:i < wy.length:=by omega
  obtain ⟨v,hv,tr⟩:=zaS hP1 (yac hiw);rw[hx]at hv;cases hv
  obtain ⟨u,rfl,hu⟩:=tr;have hu3:=k3 _ _ (zab hu hB) hu;refine ⟨u,_,rfl,SqT.of hu3,rfl,_,_,rfl,_,_,rfl,_,_,rfl,rfl,?_⟩;refine zjb (iteT ?_);refine ⟨_,rfl,_,rfl,(by show 2≤sizeLine;decide),fun a ha=>?_⟩;have sa:=zai ha (.tup [.int ((zal (zak ps rows wy[i]) key:Nat):Int),.int ((ownB rows wy[i] key:Nat):Int)]);have aa:upd H3 a (.tup [.int ((zal (zak ps rows wy[i]) key:Nat):Int),.int ((ownB rows wy[i] key:Nat):Int)]) a=some (.tup [.int ((zal (zak ps rows wy[i]) key:Nat):Int),.int ((ownB rows wy[i] key:Nat):Int)]):=zac;generalize upd H3 a (.tup [.int ((zal (zak ps rows wy[i]) key:Nat):Int),.int ((ownB rows wy[i] key:Nat):Int)])=H4 at sa aa ⊢;have h4:=sa _ _ h3;have tp:∀ b us',H4 b=some (.tup us')→upd H4 B (.lst (us++[.ref a])) b=some (.tup us'):=fun b us' e=>by
   rw[zaf (fun z=>by rw[z,h4]at e;cases e)]
   exact e
  refine ⟨us,h4,zam (by omega),m - 1,by omega,by omega,_,_,_,us++[.ref a],rfl,zac,?_,by rw[yak,yaE];omega,fun b o n e=>by rw[zaf n];exact sa _ _ (k3 b o n e)⟩;rw[yaA hiw,yan];exact zbl (zfX (fun b us' e=>tp _ _ (sa _ _ e)) hA3) ⟨a,_,_,rfl,tp _ _ aa,rfl,rfl⟩
 rintro σ H3 ⟨x0,x1,x2,us,rfl,h3,hA3,hul,k3⟩;rw[hzl.symm,yar (yab _)]at hA3;have s3:Same H1 H3:=fun b o e=>k3 b o (zab e hB) e;refine n2 _ _ ?_;have hg:=W.at_;have hg3:=s3 _ _ (s1 _ _ hg);have nB:B≠g:=fun z=>by rw[z,s1 _ _ hg]at hB;cases hB
 have np:g≠p:=zab hg hp;have nq:g∉qs:=fun z=>zab hg (hqs _ z) rfl;have nt:∀ b xs,H3 b=some (.tup xs)→dl [g] H3 b=some (.tup xs):=fun b xs e=>zhX e fun z=>by
  rw[yap.mp z,hg3]at e;cases e
 have G3:GNow K CS m0 mF mS mL H H3 sh dx st p qs ps rows t rs as key wy D B us g:=by
  refine ⟨(S1.same s3).dl hg3 np nq,((hD.kp (.of s1)).kp (.of s3)).dl (Ne.symm ngD) hg3,zhX h3 (fun z=>nB (yap.mp z)),zfX nt hA3,(TT.same s1).same s3,fun b o _ _ e=>s3 _ _ (s1 _ _ e)⟩
 have hW3:zbp H3 g ps wy:=(W.same s1).same s3;clear nt nB np nq S1 s1 s3 hA3 h3 hP1 hz1 hz hP k3;refine ⟨fun σ' H'=>σ'=[some (.ref st),some (.ref g),some (.int key),some (.ref D),some (.ref sh),some (.ref B)]∧GNow K CS m0 mF mS mL H H' sh dx st p qs ps rows t rs as key wy D B us g∧zbp H' g ps wy,?_,?_⟩
 ·intro N3 n3;refine ⟨_,rfl,_,rfl,_,rfl,st,g,key,ps,rows,t,rs,as,wy,rfl,zey zbq G3.S.stand,hW3,G3.T.ts,fun D4 z4 H4 hD4 k4 t4 h4 hP4=>?_⟩;obtain ⟨T4,k4'⟩:=G3.T.gS k4 t4;have G4:=G3.kp k4' T4;have W4:=zf9 (G3.T.k0 k4') hW3;refine ⟨_,rfl,papD ps rows key wy,papD ps rows key wy,zca.has ⟨z4,h4,hP4⟩,(G4.D_.kp zbq).has,_,rfl,zgQ rfl ?_⟩;refine ⟨_,rfl,sh,dx,_,rfl,zgA _ _ G4.S.ins,rfl,_,rfl,_,rfl,sh,dx,st,p,g,key,qs,ps,rows,t,rs,as,wy,rfl,G4.S.kp zbq,W4,T4.ts,fun D5 z5 H5 hD5 k5 t5 h5 hA5=>?_⟩;obtain ⟨T5,k5'⟩:=T4.gS k5 t5;have G5:=G4.kp k5' T5;refine ⟨_,rfl,_,_,zfY h5 hA5,zfY (zgA _ _ G5.B_) (zdg zbq G5.A),_,rfl,zgQ rfl ?_⟩;exact n3 _ _ ⟨rfl,G5,zf9 (T4.k0 k5') W4⟩
 clear G3 hW3;rintro _ H4 ⟨rfl,G4,W4⟩;intro N4 n4;have eg:(wy.map nV).dropLast=(wy.take (wy.length - 1)).map nV:=by rw[List.dropLast_eq_take,ybr,yaa]
 have hlast:(wy.map nV)[(wy.map nV).length - 1]?=some (nV (wy.getD (wy.length - 1) 0)):=by rw[yaa];exact zfk (by omega)
 refine ⟨_,rfl,.inl ⟨rfl,_,SqL.of W4.at_⟩,g,_,_,rfl,rfl,W4.at_,hlast,n4 _ _ ?_⟩;have G5:GNow K CS m0 mF mS mL H (upd H4 g (.lst (wy.map nV).dropLast)) sh dx st p qs ps rows t rs as key wy D B us g:=⟨G4.S.same zgz,G4.D_.kp (.of zgz),zgz _ _ G4.B_,zdg (.of zgz) G4.A,G4.T.put W4.at_,fun b o n1 n2 e=>by rw[zaf n1];exact G4.k b o n1 n2 e⟩;have W5:zbp (upd H4 g (.lst (wy.map nV).dropLast)) g ps (wy.take (wy.length - 1)):=W4.cut (by omega) (by rw[zac,eg]);generalize upd H4 g (.lst (wy.map nV).dropLast)=H5 at G5 W5 ⊢;clear G4 W4;refine ⟨_,rfl,_,rfl,_,rfl,st,g,key,ps,rows,t,rs,as,wy.take (wy.length - 1),rfl,zey zbq G5.S.stand,W5,G5.T.ts,fun D6 z6 H6 hD6 k6 t6 h6 hP6=>?_⟩;obtain ⟨T6,k6'⟩:=G5.T.gS k6 t6;have G6:=G5.kp k6' T6;have W6:=zf9 (G5.T.k0 k6') W5;obtain ⟨zs,hz,hP⟩:=(G6.D_.kp zbq).ex;refine ⟨_,rfl,_,rfl,_,rfl,D,zs,rfl,SqL.of hz,fun p1 hp1=>?_⟩;rw[ziW];have hzl6:=hP.length;have g1:=zai hp1 (.lst (zs.take (zs.length - 1)));have c1:zca (upd H6 p1 (.lst (zs.take (zs.length - 1)))) ps rows key (wy.take (wy.length - 1)) p1:=⟨_,zac,by rw[hzl6];exact zeW _ (zbn (fun b us e=>g1 _ _ e) hP)⟩;have G7:=G6.kp (.of g1) (G6.T.same g1);have W7:=W6.same g1;have c2:=zca.kp (H:=H6) ⟨z6,h6,hP6⟩ (.of g1);generalize upd H6 p1 (.lst (zs.take (zs.length - 1)))=H7 at c1 G7 W7 c2 ⊢;refine ⟨papD ps rows key (wy.take (wy.length - 1)),papD ps rows key (wy.take (wy.length - 1)),c2.has,c1.has,_,rfl,zrO rfl ?_⟩;clear c1 c2 G6 W6 hP6 h6 hP hz G5 W5;refine ⟨_,rfl,sh,dx,_,rfl,zgA _ _ G7.S.ins,rfl,_,rfl,_,rfl,sh,dx,st,p,g,key,qs,ps,rows,t,rs,as,wy.take (wy.length - 1),rfl,G7.S.kp zbq,W7,G7.T.ts,fun D8 z8 H8 hD8 k8 t8 h8 hA8=>?_⟩;obtain ⟨T8,k8'⟩:=G7.T.gS k8 t8;have G8:=G7.kp k8' T8;have hB8:=zgA _ _ G8.B_;have hA8':=zdg (zbq (Av:=[g])) G8.A;refine ⟨_,rfl,_,rfl,_,rfl,B,us,rfl,SqL.of hB8,fun p2 hp2=>?_⟩;rw[ziW];have g2:=zai hp2 (.lst (us.take (us.length - 1)));have hul8:=hA8'.length;rw[yaa]at hul8;have a8:zao K (upd H8 p2 (.lst (us.take (us.length - 1)))) ((wy.take (wy.length - 1)).map fun k=>(((zal (zak ps rows k) key:Nat):Int),((ownB rows k key:Nat):Int))) (us.take (us.length - 1)):=by
  rw[hul8,ybr];exact (hA8'.mono g2.ext).take _
 refine ⟨_,_,zfY (g2 _ _ h8) (hA8.mono g2.ext),zfY zac a8,?_⟩;rw[yag rfl];exact q _ (fun b o n1 n2 e=>g2 _ _ (G8.k b o n1 n2 e)) (G8.T.same g2)
def Lt (H H':Hp):Prop:=(∀ b us,H b=some (.tup us)→H' b=some (.tup us))∧∀ b us,H b=some (.lst us)→H' b=some (.lst us)
theorem zca.lt {H H':Hp}{ps:List Nat}{rows:List (List Int)}{key:Int}{wy:List Nat}{D:Addr}(h:zca H ps rows key wy D)(l:Lt H H'):zca H' ps rows key wy D:=by
 obtain ⟨zs,h1,h2⟩:=h.ex;exact ⟨zs,l.2 _ _ h1,zbn l.1 h2⟩
structure MNow (K:Frag)(m0 mF mS mL a d:Addr)(H:Hp)(st:Addr)(ps:List Nat)(rows:List (List Int))(t rs:Addr)(as:List Addr):Prop where
 S:zaO H st ps rows t rs as
 T:Tab4 m0 mF mS mL H
 ls:LS K a d H
section
variable {K:Frag}{m0 mF mS mL a d st t rs wa:Addr}{H H':Hp}{ps:List Nat}{rows:List (List Int)}{as:List Addr}{wy:List Nat}{key:Int}
theorem Tab4.ext (x:Tab4 m0 mF mS mL H)(e:Ext H H'):Tab4 m0 mF mS mL H':=⟨x.p.ext e,x.f.ext e,x.s.ext e,x.a.ext e,x.b.ext e,x.n⟩
theorem zgp (s:LS K a d H)(k:Keep d H H'):Lt H H':=⟨fun _ _ e=>k _ _ (ziB s e (fun _ z=>nomatch z)) e,fun _ _ e=>k _ _ (ziB s e (fun _ z=>nomatch z)) e⟩
theorem zjs (x:Tab4 m0 mF mS mL H)(k:K4 m0 mF mS mL H H'):Lt H H':=⟨fun _ _ e=>(x.k0 k).tup e,fun _ _ e=>(x.k0 k).lst e⟩
theorem zbU (s:Same H H'):Lt H H':=⟨fun _ _ e=>s _ _ e,fun _ _ e=>s _ _ e⟩
theorem zbp.lt (h:zbp H wa ps wy)(l:Lt H H'):zbp H' wa ps wy:=⟨l.2 _ _ h.at_,h.len,h.ne,h.ch,h.kn⟩
theorem MNow.take (h:MNow K m0 mF mS mL a d H st ps rows t rs as)(k:Keep d H H')(s:LS K a d H'):MNow K m0 mF mS mL a d H' st ps rows t rs as:=⟨zfF (zgp h.ls k).1 h.S,h.T.ext (h.ls.ext k),s⟩
theorem MNow.k4 (h:MNow K m0 mF mS mL a d H st ps rows t rs as)(k:K4 m0 mF mS mL H H')(T':Tab4 m0 mF mS mL H'):MNow K m0 mF mS mL a d H' st ps rows t rs as:=⟨zey (h.T.k0 k) h.S,T',zrB h.ls (h.T.k0 k)⟩
theorem MNow.same (h:MNow K m0 mF mS mL a d H st ps rows t rs as)(s:Same H H'):MNow K m0 mF mS mL a d H' st ps rows t rs as:=h.k4 (.of s) (h.T.same s)
end
structure QNow (H:Hp)(ps:List Nat)(rows:List (List Int))(wa:Addr)(wy:List Nat)(key:Int)(pp:Addr)(Ds:List Addr):Prop where
 W:zbp H wa ps wy
 P:H pp=some (.lst (Ds.map V.ref))
 A:∀ X∈Ds,zca H ps rows key wy X
theorem QNow.lt {H H':Hp}{ps:List Nat}{rows:List (List Int)}{wa:Addr}{wy:List Nat}{key:Int}{pp:Addr}{Ds:List Addr}(h:QNow H ps rows wa wy key pp Ds)(l:Lt H H'):QNow H' ps rows wa wy key pp Ds:=⟨h.W.lt l,l.2 _ _ h.P,fun X hX=>(h.A X hX).lt l⟩
theorem zbp.short {H:Hp}{wa:Addr}{ps w:List Nat}(T:zaE ps)(W:zbp H wa ps w):w.length≤ps.length+1:=by
 have up:∀ i,i < w.length→i≤w.getD i 0:=fun i=>by
  induction i with
  | zero=>exact fun _=>yaC _
  | succ i ih=>
   intro h;have:=ih (by omega);have:=(zaR T (W.ch i h)).1;omega
 rcases Nat.eq_zero_or_pos w.length with z | z
 ·omega
 ·have h1:=up (w.length - 1) (by omega);have h2:=W.kn _ (zgW (show w.length - 1 < w.length by omega));omega
theorem zo0 {ps:List Nat}{rows:List (List Int)}{k1 k2:Int}{wy:List Nat}:decide (dueO ps rows k1 wy=dueO ps rows k2 wy)=decide (papD ps rows k2 wy=papD ps rows k1 wy):=by
 have:dueO ps rows k1 wy=dueO ps rows k2 wy↔papD ps rows k2 wy=papD ps rows k1 wy:=by
  unfold dueO papD;rw[List.map_inj_left,List.map_inj_left];constructor
  ·intro h k hk;have:=yae (h k hk);unfold zfB at this;exact Tri.ext' rfl (congrArg (·.2.1) this).symm (congrArg (·.2.2) this).symm
  ·intro h k hk;have e:=h k hk;have e1:=congrArg Tri.b e;have e2:=congrArg Tri.c e;unfold zfB;rw[show ((zal (zak ps rows k) k1:Nat):Int)=((zal (zak ps rows k) k2:Nat):Int) from e1.symm,show ((ownB rows k k1:Nat):Int)=((ownB rows k k2:Nat):Int) from e2.symm]
 by_cases z:dueO ps rows k1 wy=dueO ps rows k2 wy
 ·rw[yag z,yag (this.mp z)]
 ·rw[yai z,yai (fun y=>z (this.mpr y))]
theorem zer {α:Type}{f g:α→Bool}(h:∀ x,f x=true→g x=true):∀(l:List α),(l.filter f).length≤(l.filter g).length
 | []=>yab _
 | x::l=>by
  have ih:=zer h l;cases e:f x with
  | true=>
   rw[yaL e,yaL (h x e),yaI,yaI];omega
  | false=>
   rw[yaS (by rw[e];exact yay)];cases e2:g x with
   | true=>
    rw[yaL e2,yaI];omega
   | false=>
    rw[yaS (by rw[e2];exact yay)];exact ih
theorem zo8 {ps:List Nat}{rows:List (List Int)}{k:Nat}{k1 k2:Int}(h:k1≤k2):zal (zak ps rows k) k1≤zal (zak ps rows k) k2∧ownB rows k k1≤ownB rows k k2:=⟨zer (fun x e=>yag (by have:=yaB e;omega)) _,zer (fun x e=>yag (by have:=yaB e;omega)) _⟩
def zij (K:Frag)(m0 mF mS mL:Addr):Sp:=fun vs H Q _=>∃(a:Addr) (ns:List Int),vs=[.ref a]∧SqL K H a (ns.map V.int)∧ns.length≤63∧[m0,mF,mS,mL].Nodup∧H m0=some (.tbl #[])∧H mF=some (.tbl #[])∧H mS=some (.tbl #[])∧H mL=some (.tbl #[])∧∀ H',Q (.bl true) H'
theorem zrw (T:Txt K mg){m0 mF mS mL:Addr}{CS:Addr}(O:OwnC K mg CS)(qdf:DF K mg "law" zn9 zkk)(qcW:FC P w K mg base 1 "_law_begin" zdZ (zme K))(qaa:FC P w K mg base 2 "_law_take" zbo (zea K))(qcX:FC P w K mg base 6 "_law_stand" zdV (zj8 K))(qdg:FC P w K mg base 3 "_law_way" zfT (zpm K))(qbh:FC P w K mg base 4 "_law_asked_key" zch (zmf K))(qcJ:FC P w K mg base 11 "_law_papers" zdd (zj5 K m0 mF mS mL))(qbi:FC P w K mg base 9 "lets_by" zdU (zpl K))(qcz:FC P w K mg base 3 "_law_changed" zcR (zil K))(qah:FC P w K mg base 9 "paper_of" zcd (zht K mF mS))(qc7:FC P w K mg base 6 "places" zeN (zj4 K m0))(qbw:FC P w K mg base 11 "_law_shorter_right" zbs (zig K m0 mF mS mL)):FC P w K mg base 13 "law" zkk (zij K m0 mF mS mL):=by
 refine qdf.ok qaE (fun vs H Q E h=>?_) (fun f cdv A outer s H vs Q E hr h=>?_)
 ·obtain ⟨a,ns,rfl,_⟩:=h;rfl
 obtain ⟨a,ns,rfl,hS,_,hnd,hm0,hmF,hmS,hmL,q⟩:=h;have hT0:Tab4 m0 mF mS mL H:=⟨⟨#[],hm0,trivial,.inl rfl⟩,⟨#[],hmF,trivial,.inl rfl⟩,⟨#[],hmS,trivial,.inl rfl⟩,⟨#[],hmL,trivial,.inl rfl⟩,⟨#[],hmL,trivial,.inl rfl⟩,hnd⟩;refine ⟨_,(zaw (zat (i:=1) qaE.nd rfl (Or.inl rfl) (zav qcW hr (zaa (pv 0) zad)))
   (zaw (zat (i:=2) qaE.nd rfl (Or.inl rfl) (zav qcX hr (zaa (pv 1) zad)))
   (zaw (zbb PassesOwn.never rfl (zb4 rfl T.qao (zaa zae zad)) (zan (i:=3) qaE.nd rfl (Or.inl rfl)) (zaw (zat (i:=4) qaE.nd rfl (Or.inl rfl) (zav qdg hr (zaa (pv 1) (zaa (zaq zaF (pv 2) zae (fun _ _=>rfl)) zad))))
   (zaw (zat (i:=5) qaE.nd rfl (Or.inl rfl) (zav qbh hr (zaa (pv 1) (zaa (pv 2) zad))))
   (zaw (zat (i:=6) qaE.nd rfl (Or.inr rfl) (zav qcJ hr (zaa (pv 2) (zaa (pv 4) (zaa (pv 5) zad)))))
   (zbZ (zbu (zay (zoo (huD (α:=List Int) hr)) (zbd (N:=["_law_paper","_law_papers_here"]) (own:=1) (cap:=[6]) rfl (za1 (pv 6)) ⟨rfl,rfl,rfl,rfl,rfl,rfl⟩ (fun _ _ _ _ _=>(zan (i:=0) (show List.Nodup (["_law_paper","_law_papers_here"]:List Str) by decide +kernel) rfl (Or.inl rfl))) (fun _ _ _ _ _=>(zek (zay (zp6 (List (Tri Int Int Int)) (huD hr)) (pv 0) (zaq (zcu (K:=K)) (pv 1) zae (fun _ _=>rfl)) (zaA _)))) (fun _ _ _ _ _=>(pv 0))) (zbg zad) (zaA _)) (zag (zas zcf)) zaI)
   (zbZ (zbu (zay ziw (zav qbi hr (zaa (pv 2) (zaa (pv 4) (zaa (pv 5) (zaa (zaq zax (pv 6) zae (fun _ _=>rfl)) zad))))) zcf (zaA _)) (zag (zas zcf)) zaI)
   (zaw (zbb PassesOwn.never rfl (zb4 rfl T.qao (zaa zae zad)) (zan (i:=7) qaE.nd rfl (Or.inl rfl)) (zag (zbu (zay ziw (zav qbi hr (zaa (pv 2) (zaa (pv 4) (zaa (pv 5) (zaa (zav qcz hr (zaa (pv 1) (zaa (zaq zax (pv 6) zae (fun _ _=>rfl)) zad))) zad))))) zcf (zaA _)) (zag (zas zcf)) zaI)))
   (zaw (zat (i:=8) qaE.nd rfl (Or.inl rfl) (zav qbh hr (zaa (pv 1) (zaa (pv 2) zad))))
   (zaw (zat (i:=9) qaE.nd rfl (Or.inl rfl) (zav qah hr (zaa (pv 2) (zaa (pv 4) (zaa (pv 8) zad)))))
   (zbZ (zbu (zay zop (zav qbi hr (zaa (pv 2) (zaa (pv 4) (zaa (pv 8) (zaa (zaq zax (pv 6) zae (fun _ _=>rfl)) zad))))) (zdf (zku (List (Tri Int Int Int)) (huD hr)) (pv 9) (zaq zax (pv 6) zae (fun _ _=>rfl)) (zaA _)) (zaA _)) (zag (zas zcf)) zaI)
   (zaw (zat (i:=10) qaE.nd rfl (Or.inl rfl) (zav qah hr (zaa (pv 2) (zaa (pv 4) (zaa (zau (zgH rfl) rfl T.qc0 boot_min (zaa (pv 5) (zaa (pv 8) zad))) zad)))))
   (zaw (zbb PassesOwn.never rfl (zgg rfl T.qcq (zaa (pv 10) (zaa (zav qah hr (zaa (pv 2) (zaa (pv 4) (zaa (zau (ze5 rfl) rfl T.qcZ boot_max (zaa (pv 5) (zaa (pv 8) zad))) zad)))) zad))) (zfn rfl (zaG (zan (i:=11) qaE.nd rfl (Or.inl rfl)) (zaG (zan (i:=12) qaE.nd rfl (Or.inl rfl)) zce))) (zag (zbu (PW.pt (ziq (zay zjj (zaq zaF (pv 11) zae (fun _ _=>rfl)) (zaq zaF (pv 12) zae (fun _ _=>rfl)) (zaA _)) (zfm (zay zjj (zaq zaF (pv 11) zae (fun _ _=>rfl)) (zaq zaF (pv 12) zae (fun _ _=>rfl)) (zaA _))))) (zag (zas zcf)) zaI)))
   (zaw (zat (i:=13) qaE.nd rfl (Or.inl rfl) (zaz za4 zae (zav qaa hr (zaa (pv 1) (zaa (zau zar rfl T.qat boot_len (zaa (pv 4) zad)) zad)))))
   (zbZ (zbu (zay (zgl (List (Tri Int Int Int)) (huD hr)) (zav qah hr (zaa (pv 2) (zaa (zbR zco (pv 4) zcX (zb3 (pv 13))) (zaa (pv 5) zad)))) (zbR zco (zaq zax (pv 6) zae (fun _ _=>rfl)) zcX (zb3 (pv 13))) (zaA _)) (zag (zas zcf)) zaI)
   (zbZ (zbu (zeb (zdo (zav qbi hr (zaa (pv 2) (zaa (zbR zco (pv 4) zcX (zb3 (pv 13))) (zaa (pv 5) (zaa (zbR zco (zaq zax (pv 6) zae (fun _ _=>rfl)) zcX (zb3 (pv 13))) zad))))))) (zag (zas zcf)) zaI)
   (zbZ (zbu (zay (zgl (List Int) (huD hr)) (zav qc7 hr (zaa (pv 2) (zaa (pv 4) (zaa (pv 5) zad)))) (zbd (N:=["_law_line"]) (own:=1) (cap:=[]) rfl (za1 (zaq zax (pv 6) zae (fun _ _=>rfl))) ⟨rfl,rfl,rfl,rfl,rfl,rfl⟩ (fun _ _ _ _ _=>(zan (i:=0) (show List.Nodup (["_law_line"]:List Str) by decide +kernel) rfl (Or.inl rfl))) (fun _ _ _ _ _=>zbj) (fun _ _ _ _ _=>(zaq (zbr (K:=K)) (pv 0) zae (fun _ _=>rfl)))) (zaA _)) (zag (zas zcf)) zaI)
   (zag (zbu (PW.pt (zg5 (zay zjj (zau zar rfl T.qat boot_len (zaa (pv 4) zad)) zae (zaA _)) (zfe (zeb (zdo (zav qbw hr (zaa (pv 2) (zaa (zbI zcm rfl T.qby boot_list (zaa (pv 4) zad)) (zaa (pv 5) (zaa (zaq zax (pv 6) zae (fun _ _=>rfl)) zad)))))))))) (zag (zas zcf)) zaI))))))))))))))))))
   (zag (zas zcf))))),?_⟩
 intro N1 n1;refine ⟨_,rfl,a,ns,rfl,hS,fun d H1 _ g1 s1=>n1 _ _ ?_⟩;intro N2 n2;refine ⟨_,rfl,d,a,rfl,s1,fun st ps rows t rs as H2 S2 k2 s2=>n2 _ _ ?_⟩;have M2:MNow K m0 mF mS mL a d H2 st ps rows t rs as:=⟨S2,(hT0.ext g1.ext).ext (s1.ext k2),s2⟩;clear S2 k2 s2 s1 g1;intro N3 n3;refine ⟨_,rfl,(by decide),(by decide),?_⟩;refine zby (n:=2) (fun i σ HA=>∃(x3 x4 x5 x6 x7 x8 x9 x10 x11 x12 x13:Option V),σ=[some (.ref a),some (.ref d),some (.ref st),x3,x4,x5,x6,x7,x8,x9,x10,x11,x12,x13]∧MNow K m0 mF mS mL a d HA st ps rows t rs as) ?_ ?_ ?_
 ·exact ⟨_,_,_,_,_,_,_,_,_,_,_,rfl,M2⟩
 ·clear M2;rintro i σ HA hi ⟨x3,x4,x5,x6,x7,x8,x9,x10,x11,x12,x13,rfl,MA⟩;refine zoT fun N B R hN hB hR'=>?_;intro N4 n4;refine ⟨_,rfl,_,rfl,_,_,_,_,rfl,rfl,SqT.of MA.S.st,rfl,?_⟩;refine ⟨d,a,t,ps,rfl,MA.S.tr,MA.S.T,MA.S.few,MA.ls,fun wa wy HB hwa WB kB sB=>n4 _ _ ?_⟩;have MB:=MA.take kB sB;intro N5 n5;refine ⟨_,rfl,_,rfl,d,a,st,ps,rows,t,rs,as,rfl,MB.S,MB.ls,fun key HC kC sC=>n5 _ _ ?_⟩;have MC:=MB.take kC sC;have WC:=WB.lt (zgp MB.ls kC);intro N6 n6;refine ⟨_,rfl,_,rfl,_,rfl,st,wa,key,ps,rows,t,rs,as,wy,rfl,MC.S,WC,MC.T,fun pp D0 D1 D2 D3 D4 HD hpp kD TD hP hA=>n6 _ _ ?_⟩;have MD:=MC.k4 kD TD;have QD:QNow HD ps rows wa wy key pp [D0,D1,D2,D3,D4]:=⟨WC.lt (zjs MC.T kD),hP,hA⟩;clear MA MB MC WB WC hP hA kD TD kC kB sC sB hpp hwa;have SS:∀(X:Addr),X∈[D0,D1,D2,D3,D4]→∀{H':Hp},QNow H' ps rows wa wy key pp [D0,D1,D2,D3,D4]→Rep.has K H' (papD ps rows key wy) (.ref X):=fun X hX H' h=>(h.A X hX).has;refine ⟨fun σ' H'=>σ'=[some (.ref a),some (.ref d),some (.ref st),some (.int (0+(i:Int))),some (.ref wa),some (.int key),some (.ref pp),x7,x8,x9,x10,x11,x12,x13]∧MNow K m0 mF mS mL a d H' st ps rows t rs as∧QNow H' ps rows wa wy key pp [D0,D1,D2,D3,D4],?_,?_⟩
  ·intro N7 n7;refine ⟨_,rfl,pp,rfl,⟨_,SqL.of QD.P⟩,fun E1 hE1=>?_⟩;refine zaT (xs:=[D0,D1,D2,D3,D4].map V.ref) (fun j σ H3=>∃(x0:Option V),σ=[x0,some (.ref pp)]∧H3 E1=some (.lst [])∧But E1 HD H3) ?_ ?_ ?_ ?_
   ·exact ⟨_,rfl,zac,fun b o n e=>by rw[zaf n];exact e⟩
   ·rintro j σ H3 _ ⟨x0,rfl,_,k3⟩;exact k3.sq (SqL.of QD.P) hE1
   ·rintro j m x σ H3 hx hm ⟨x0,rfl,h3,k3⟩;have s3:Same HD H3:=fun b o e=>k3 b o (zab e hE1) e;obtain ⟨X,hX,rfl⟩:=yaF.mp (yaP hx);have Q3:=QD.lt (zbU s3);refine ⟨_,rfl,_,rfl,_,_,_,_,rfl,rfl,SqL.of Q3.P,rfl,papD ps rows key wy,papD ps rows key wy,SS X hX Q3,SS D0 (by simp) Q3,_,rfl,zgQ rfl ?_⟩;have hj:=(yah.mp hx).1;exact ⟨m - 1,by omega,by omega,_,rfl,h3,k3⟩
   rintro σ H3 ⟨x0,rfl,h3,k3⟩;have s3:Same HD H3:=fun b o e=>k3 b o (zab e hE1) e;refine ⟨(by show 0≤sizeLine;decide),fun l hl=>?_⟩;have s4:=s3.trans (zai hl (.lst []));exact ⟨E1,l,[],rfl,rfl,SqL.of (zai hl (.lst []) _ _ h3),SqL.of zac,_,rfl,iteF (n7 _ _ ⟨rfl,MD.same s4,QD.lt (zbU s4)⟩)⟩
  clear MD QD;rintro _ HE ⟨rfl,ME,QE⟩;have hws:wy.length≤200:=by
   have:=zbp.short ME.S.T QE.W;have:=ME.S.few;omega
  have lets:∀{H':Hp} {X:Addr} {key':Int},zca H' ps rows key wy X→∃ zs,H' X=some (.lst zs)∧Paired (zcn K H') zs (dueO ps rows key wy)∧zs.length≤200:=fun {H' X key'} h=>by
   obtain ⟨zs,h1,h2⟩:=h.ex;have:=h2.length;exact ⟨zs,h1,zf0 h2,by omega⟩
  refine ⟨fun σ' H'=>σ'=[some (.ref a),some (.ref d),some (.ref st),some (.int (0+(i:Int))),some (.ref wa),some (.int key),some (.ref pp),x7,x8,x9,x10,x11,x12,x13]∧MNow K m0 mF mS mL a d H' st ps rows t rs as∧QNow H' ps rows wa wy key pp [D0,D1,D2,D3,D4],?_,?_⟩
  ·intro N7 n7;obtain ⟨zs,h1,h2,h3⟩:=lets (key':=key) (QE.A D1 (by simp));refine ⟨_,rfl,_,rfl,_,rfl,_,rfl,_,_,_,_,rfl,rfl,SqL.of QE.P,rfl,st,wa,D1,key,ps,rows,t,rs,as,wy,zs,_,rfl,ME.S,QE.W,h1,h2,h3,fun HF sF=>?_⟩;rw[yag rfl];exact ⟨_,_,rfl,rfl,_,rfl,iteF (n7 _ _ ⟨rfl,ME.same sF,QE.lt (zbU sF)⟩)⟩
  clear ME QE;rintro _ HF ⟨rfl,MF,QF⟩;intro N8 n8;refine ⟨_,rfl,(by decide),(by decide),?_⟩;refine zby (n:=3) (fun j σ HG=>∃(x7:Option V),σ=[some (.ref a),some (.ref d),some (.ref st),some (.int (0+(i:Int))),some (.ref wa),some (.int key),some (.ref pp),x7,x8,x9,x10,x11,x12,x13]∧MNow K m0 mF mS mL a d HG st ps rows t rs as∧QNow HG ps rows wa wy key pp [D0,D1,D2,D3,D4]) ?_ ?_ ?_
  ·exact ⟨_,rfl,MF,QF⟩
  ·rintro j σ HG hj ⟨x7,rfl,MG,QG⟩;refine zoT fun N' B' R' hN' hB' hR''=>?_;refine ⟨_,rfl,_,rfl,_,rfl,_,rfl,_,rfl,_,_,_,_,rfl,rfl,SqL.of QG.P,rfl,d,a,D0,ps,rows,key,wy,rfl,MG.ls,QG.A D0 (by simp),QG.W.ne,QG.W.len,fun E1 zs os HI h1 h2 h3 h4 kI sI=>?_⟩;have MI:=MG.take kI sI;have QI:=QG.lt (zgp MG.ls kI);refine ⟨st,wa,E1,key,ps,rows,t,rs,as,wy,zs,os,rfl,MI.S,QI.W,h1,h2,by omega,fun HJ sJ=>?_⟩;rw[yai h4];exact ⟨_,_,rfl,rfl,_,rfl,iteF (hN' _ _ ⟨_,rfl,MI.same sJ,QI.lt (zbU sJ)⟩)⟩
  clear MF QF;rintro _ HG ⟨x7,rfl,MG,QG⟩;refine n8 _ _ ?_;intro N9 n9;refine ⟨_,rfl,_,rfl,d,a,st,ps,rows,t,rs,as,rfl,MG.S,MG.ls,fun oth HH kH sH=>n9 _ _ ?_⟩;have MH:=MG.take kH sH;have QH:=QG.lt (zgp MG.ls kH);clear MG QG kH sH;intro N10 n10;refine ⟨_,rfl,_,rfl,_,rfl,st,wa,oth,ps,rows,t,rs,as,wy,rfl,MH.S,QH.W,MH.T.ts,fun Dt zt HI _ kI tI hI hPI=>n10 _ _ ?_⟩;obtain ⟨TI,kI'⟩:=MH.T.gS kI tI;have MI:=MH.k4 kI' TI;have QI:=QH.lt (zjs MH.T kI');have AI:zca HI ps rows oth wy Dt:=⟨zt,hI,hPI⟩;clear MH QH kI tI kI' TI hI hPI;refine ⟨fun σ' H'=>σ'=[some (.ref a),some (.ref d),some (.ref st),some (.int (0+(i:Int))),some (.ref wa),some (.int key),some (.ref pp),x7,some (.int oth),some (.ref Dt),x10,x11,x12,x13]∧MNow K m0 mF mS mL a d H' st ps rows t rs as∧QNow H' ps rows wa wy key pp [D0,D1,D2,D3,D4],?_,?_⟩
  ·intro N11 n11;obtain ⟨zs,h1,h2,h3⟩:=lets (key':=key) (QI.A D0 (by simp));refine ⟨_,rfl,_,rfl,_,rfl,_,rfl,_,_,_,_,rfl,rfl,SqL.of QI.P,rfl,st,wa,D0,oth,ps,rows,t,rs,as,wy,zs,_,rfl,MI.S,QI.W,h1,h2,h3,fun HJ sJ=>?_⟩;have QJ:=QI.lt (zbU sJ);refine ⟨_,rfl,_,rfl,_,_,_,_,rfl,rfl,SqL.of QJ.P,rfl,papD ps rows oth wy,papD ps rows key wy,(AI.lt (zbU sJ)).has,SS D0 (by simp) QJ,rfl,_,rfl,?_⟩;exact zgQ (congrArg V.bl zo0) (n11 _ _ ⟨rfl,MI.same sJ,QJ⟩)
  clear MI QI AI;rintro _ HI ⟨rfl,MI,QI⟩;intro N12 n12;refine ⟨_,rfl,_,rfl,_,rfl,_,rfl,_,_,rfl,?_⟩;have hlo:(if oth < key then oth else key)≤(if oth > key then oth else key):=by split <;> split <;> omega
  generalize (if oth < key then oth else key)=lo at hlo ⊢
  refine ⟨st,wa,lo,ps,rows,t,rs,as,wy,rfl,MI.S,QI.W,MI.T.ts,fun Dl zl HJ _ kJ tJ hJ hPJ=>n12 _ _ ?_⟩;obtain ⟨TJ,kJ'⟩:=MI.T.gS kJ tJ;have MJ:=MI.k4 kJ' TJ;have QJ:=QI.lt (zjs MI.T kJ');have AJ:zca HJ ps rows lo wy Dl:=⟨zl,hJ,hPJ⟩;clear MI QI kJ tJ kJ' TJ hJ hPJ;intro N13 n13;refine ⟨_,rfl,_,rfl,_,rfl,_,rfl,_,rfl,_,_,rfl,?_⟩;generalize (if oth > key then oth else key)=hh at hlo ⊢
  refine ⟨st,wa,hh,ps,rows,t,rs,as,wy,rfl,MJ.S,QJ.W,MJ.T.ts,fun Dh zh HK _ kK tK hK hPK=>?_⟩;obtain ⟨TK,kK'⟩:=MJ.T.gS kK tK;have MK:=MJ.k4 kK' TK;have QK:=QJ.lt (zjs MJ.T kK');obtain ⟨zl,hl,hPl⟩:=(AJ.lt (zjs MJ.T kK')).ex;have l1:=hPl.length;have l2:=hPK.length;clear MJ QJ AJ kK tK kK' TK;refine ⟨Dl,Dh,rfl,⟨_,SqL.of hl⟩,⟨_,SqL.of hK⟩,?_⟩;refine zqB (xs:=zl) (ys:=zh) (by omega) (fun j σ HL=>∃(x11 x12:Option V),σ=[some (.ref a),some (.ref d),some (.ref st),some (.int (0+(i:Int))),some (.ref wa),some (.int key),some (.ref pp),x7,some (.int oth),some (.ref Dt),some (.ref Dl),x11,x12,x13]∧Same HK HL) ?_ ?_ ?_ ?_
  ·exact ⟨_,_,rfl,fun _ _ e=>e⟩
  ·rintro j σ HL _ ⟨x11,x12,rfl,sL⟩;exact ⟨SqL.of (sL _ _ hl),SqL.of (sL _ _ hK)⟩
  ·rintro j x y σ HL p hx hy ⟨x11,x12,rfl,sL⟩ hp;have hj:=(yah.mp hx).1;have hjw:j < wy.length:=by omega
   obtain ⟨v,hv,tr⟩:=zaS hPl (yac hjw);rw[hx]at hv;cases hv
   obtain ⟨u,rfl,hu⟩:=tr;obtain ⟨v,hv,tr⟩:=zaS hPK (yac hjw);rw[hy]at hv;cases hv
   obtain ⟨u2,rfl,hu2⟩:=tr;have sp:=zai hp (.tup [.ref u,.ref u2]);have hpp:upd HL p (.tup [.ref u,.ref u2]) p=some (.tup [.ref u,.ref u2]):=zac;have s2:=sL.trans sp;generalize upd HL p (.tup [.ref u,.ref u2])=HM at hpp s2 ⊢;have hu':=s2 _ _ hu;have hu2':=s2 _ _ hu2;have mo:=zo8 (ps:=ps) (rows:=rows) (k:=wy[j]) hlo;refine ⟨p,_,rfl,SqT.of hpp,rfl,_,_,rfl,_,_,rfl,rfl,?_⟩;refine ⟨_,rfl,_,_,_,_,rfl,rfl,SqT.of hu',rfl,_,rfl,_,_,_,_,rfl,rfl,SqT.of hu2',rfl,_,_,rfl,rfl,_,rfl,zqr (by omega) ?_⟩;refine ⟨_,rfl,_,_,_,_,rfl,rfl,SqT.of hu',rfl,_,rfl,_,_,_,_,rfl,rfl,SqT.of hu2',rfl,_,_,rfl,rfl,_,rfl,zqr (by omega) ?_⟩;exact ⟨_,_,rfl,s2⟩
  rintro _ HL ⟨x11,x12,rfl,sL⟩;have ML:=MK.same sL;have QL:=QK.lt (zbU sL);clear MK QK hPl hPK hl hK sL;refine n13 _ _ ?_;intro N14 n14;have hw0:0 < wy.length:=ybg.mpr QL.W.ne;refine ⟨_,rfl,_,rfl,_,_,rfl,.inl (SqL.of QL.W.at_),d,a,_,rfl,⟨by rw[yaa];omega,by rw[yaa];omega⟩,ML.ls,fun v HM v0 v1 kM sM=>⟨_,_,rfl,rfl,n14 _ _ ?_⟩⟩;have MM:=ML.take kM sM;have QM:=QL.lt (zgp ML.ls kM);obtain ⟨cn,hcn⟩:∃ cn:Nat,1+v=cn:=⟨(1+v).toNat,by omega⟩;have hc0:0 < cn:=by omega
  clear ML QL kM sM;refine ⟨fun σ' H'=>σ'=[some (.ref a),some (.ref d),some (.ref st),some (.int (0+(i:Int))),some (.ref wa),some (.int key),some (.ref pp),x7,some (.int oth),some (.ref Dt),some (.ref Dl),x11,x12,some (.int cn)]∧MNow K m0 mF mS mL a d H' st ps rows t rs as∧QNow H' ps rows wa wy key pp [D0,D1,D2,D3,D4],?_,?_⟩
  ·intro N15 n15;refine ⟨_,rfl,_,rfl,_,rfl,_,rfl,wa,_,rfl,SqL.of QM.W.at_,fun p1 hp1=>?_⟩;have ec:∀ xs:List V,cutV xs none (some (1+v))=xs.take cn:=fun xs=>by rw[hcn,zhY]
   have sp:=zai hp1 (.lst (cutV (wy.map nV) none (some (1+v))));have W1:zbp (upd HM p1 (.lst (cutV (wy.map nV) none (some (1+v))))) p1 ps (wy.take cn):=QM.W.cut hc0 (by rw[zac,ec,ybr]);have M1:=MM.same sp;have Q1:=QM.lt (zbU sp);refine ⟨_,rfl,st,p1,key,ps,rows,t,rs,as,wy.take cn,rfl,M1.S,W1,M1.T.ts,fun D5 z5 H5 _ k5 t5 h5 hP5=>?_⟩;obtain ⟨T5,k5'⟩:=M1.T.gS k5 t5;have M5:=M1.k4 k5' T5;have Q5:=Q1.lt (zjs M1.T k5');obtain ⟨zs,hz,hPz⟩:=(Q5.A D0 (by simp)).ex;refine ⟨_,rfl,_,_,_,_,rfl,rfl,SqL.of Q5.P,rfl,_,rfl,_,rfl,D0,zs,rfl,SqL.of hz,fun p2 hp2=>?_⟩;have s2:=zai hp2 (.lst (cutV zs none (some (1+v))));have A2:zca (upd H5 p2 (.lst (cutV zs none (some (1+v))))) ps rows key (wy.take cn) p2:=⟨zs.take cn,by rw[zac,ec],zeW _ (zbn (fun b us e=>s2 _ _ e) hPz)⟩;have A1:=zca.lt (H:=H5) ⟨z5,h5,hP5⟩ (zbU s2);refine ⟨papD ps rows key (wy.take cn),papD ps rows key (wy.take cn),A1.has,A2.has,_,rfl,zgQ rfl (n15 _ _ ⟨?_,M5.same s2,Q5.lt (zbU s2)⟩)⟩;show [some (V.ref a),some (.ref d),some (.ref st),some (.int (0+(i:Int))),some (.ref wa),some (.int key),some (.ref pp),x7,some (.int oth),some (.ref Dt),some (.ref Dl),x11,x12,some (.int (1+v))]=_;rw[hcn]
  clear MM QM;rintro _ HN ⟨rfl,MN,QN⟩;refine ⟨fun σ' H'=>σ'=[some (.ref a),some (.ref d),some (.ref st),some (.int (0+(i:Int))),some (.ref wa),some (.int key),some (.ref pp),x7,some (.int oth),some (.ref Dt),some (.ref Dl),x11,x12,some (.int cn)]∧MNow K m0 mF mS mL a d H' st ps rows t rs as∧QNow H' ps rows wa wy key pp [D0,D1,D2,D3,D4],?_,?_⟩
  ·intro N16 n16;refine ⟨_,rfl,_,rfl,_,rfl,_,rfl,wa,_,rfl,SqL.of QN.W.at_,fun p1 hp1=>?_⟩;have sp:=zai hp1 (.lst (cutV (wy.map nV) none (some (cn:Int))));have W1:zbp (upd HN p1 (.lst (cutV (wy.map nV) none (some (cn:Int))))) p1 ps (wy.take cn):=QN.W.cut hc0 (by rw[zac,zhY,ybr]);have M1:=MN.same sp;have Q1:=QN.lt (zbU sp);generalize upd HN p1 (.lst (cutV (wy.map nV) none (some (cn:Int))))=H1 at W1 M1 Q1 ⊢;obtain ⟨zs,hz,hPz⟩:=(Q1.A D0 (by simp)).ex;refine ⟨_,rfl,_,rfl,_,_,_,_,rfl,rfl,SqL.of Q1.P,rfl,_,rfl,_,rfl,D0,zs,rfl,SqL.of hz,fun p2 hp2=>?_⟩;rw[zhY];have s2:=zai hp2 (.lst (zs.take cn));have P2:=zeW cn (zbn (fun b us e=>s2 _ _ e) hPz);have hpl:=P2.length;rw[yao]at hpl;refine ⟨st,p1,p2,key,ps,rows,t,rs,as,wy.take cn,zs.take cn,_,rfl,M1.S.same s2,W1.same s2,zac,zf0 P2,by omega,fun H2 s3=>?_⟩;rw[yag rfl];exact ⟨_,rfl,iteF (n16 _ _ ⟨rfl,(M1.same s2).same s3,(Q1.lt (zbU s2)).lt (zbU s3)⟩)⟩
  clear MN QN;rintro _ HN ⟨rfl,MN,QN⟩;refine ⟨fun σ' H'=>σ'=[some (.ref a),some (.ref d),some (.ref st),some (.int (0+(i:Int))),some (.ref wa),some (.int key),some (.ref pp),x7,some (.int oth),some (.ref Dt),some (.ref Dl),x11,x12,some (.int cn)]∧MNow K m0 mF mS mL a d H' st ps rows t rs as∧QNow H' ps rows wa wy key pp [D0,D1,D2,D3,D4],?_,?_⟩
  ·intro N17 n17;refine ⟨_,rfl,_,rfl,_,rfl,st,wa,ps,rows,t,rs,as,wy,key,rfl,MN.S,QN.W,MN.T.p,fun pl H1 hpl g1 t1 h1=>?_⟩;obtain ⟨T1,k1⟩:=MN.T.g0 g1 t1;have M1:=MN.k4 k1 T1;have Q1:=QN.lt (zjs MN.T k1);obtain ⟨zs,hz,hPz⟩:=(Q1.A D0 (by simp)).ex;have hzl:=hPz.length;refine ⟨_,rfl,_,_,_,_,rfl,rfl,SqL.of Q1.P,rfl,D0,rfl,⟨_,SqL.of hz⟩,fun E1 hE1=>?_⟩;refine zaT (xs:=zs) (fun j σ H3=>∃(x0:Option V),σ=[x0]∧H3 E1=some (.lst (((wy.take j).map fun k=>((ownB rows k key:Nat):Int)).map V.int))∧But E1 H1 H3) ?_ ?_ ?_ ?_
   ·exact ⟨_,rfl,zac,fun b o n e=>by rw[zaf n];exact e⟩
   ·rintro j σ H3 _ ⟨x0,rfl,_,k3⟩;exact k3.sq (SqL.of hz) hE1
   ·rintro j m x σ H3 hx hm ⟨x0,rfl,h3,k3⟩;have hj:=(yah.mp hx).1;have hjw:j < wy.length:=by omega
    obtain ⟨v,hv,tr⟩:=zaS hPz (yac hjw);rw[hx]at hv;cases hv
    obtain ⟨u,rfl,hu⟩:=tr;have hu3:=k3 _ _ (zab hu hE1) hu;refine zcU ?_;refine ⟨_,rfl,_,_,_,_,rfl,rfl,SqT.of hu3,rfl,_,h3,zam (by rw[yaa,yaa,yao];omega),m - 1,by omega,by omega,_,rfl,?_,fun b o n e=>by rw[zaf n];exact k3 b o n e⟩;rw[zac,yaA hjw,yan,yan];rfl
   rintro σ H3 ⟨x0,rfl,h3,k3⟩;have s3:Same H1 H3:=fun b o e=>k3 b o (zab e hE1) e;rw[← hzl,yar (yab _)]at h3;have hp3:=s3 _ _ h1;have ep:((wy.map fun k=>zhj (zbF rows k) key).map nV)=(wy.map fun k=>((ownB rows k key:Nat):Int)).map V.int:=by
    rw[yaZ,yaZ];rfl
   rw[ep]at hp3;exact ⟨wy.map fun k=>((ownB rows k key:Nat):Int),wy.map fun k=>((ownB rows k key:Nat):Int),⟨pl,_,rfl,SqL.of hp3,zao.ints⟩,⟨E1,_,rfl,SqL.of h3,zao.ints⟩,_,rfl,zgQ rfl (n17 _ _ ⟨rfl,M1.same s3,Q1.lt (zbU s3)⟩)⟩
  clear MN QN;rintro _ HN ⟨rfl,MN,QN⟩;refine ⟨_,rfl,_,_,rfl,.inl (SqL.of QN.W.at_),_,_,rfl,rfl,_,rfl,?_⟩;refine ite2 (fun cw=>?_) (fun _=>iteF (hN _ _ ⟨_,_,_,_,_,_,_,_,_,_,_,rfl,MN⟩));have hw1:1 < wy.length:=by
   have:=yaB cw;rw[yaa]at this;omega
  refine ⟨_,rfl,_,rfl,wa,_,rfl,.inl (SqL.of QN.W.at_),fun g hg=>?_⟩;have sg:=zai hg (.lst (wy.map nV));have Qg:=QN.lt (zbU sg);have Mg:=MN.same sg;have Wg:zbp (upd HN g (.lst (wy.map nV))) g ps wy:=⟨zac,QN.W.len,QN.W.ne,QN.W.ch,QN.W.kn⟩;have ng:g≠D0:=fun z=>by
   obtain ⟨zs,hz,_⟩:=(QN.A D0 (by simp)).ex;rw[← z,hg]at hz;cases hz
  refine ⟨_,rfl,_,rfl,_,_,_,_,rfl,rfl,SqL.of Qg.P,rfl,st,g,D0,key,ps,rows,t,rs,as,wy,rfl,Mg.S,Wg,hw1,ng,Qg.A D0 (by simp),Mg.T,fun HO kO TO=>⟨_,rfl,iteF (hN _ _ ⟨_,_,_,_,_,_,_,_,_,_,_,rfl,MN.k4 (fun b o n e=>kO b o (zab e hg) n (sg _ _ e)) TO⟩)⟩⟩
 ·rintro σ HA ⟨x3,x4,x5,x6,x7,x8,x9,x10,x11,x12,x13,rfl,_⟩;exact n3 _ _ (q _)
abbrev lawRoom:Nat:=13
theorem all_ok (T:Txt K mg){CS:Addr}(O:OwnC K mg CS){mc4 mp4 mc27 mp27 mc31 mp31 mc53 mp53:Addr}(hBM:BMAt mg base)(qbo:DF K mg "is_whole" zdO zcC)(qcO:DF K mg "code" zkg zhF)(qai:DF K mg "how_many_below" zbN zba)(qcf:DFT K mg "place" zfc zfR mc4 mp4)(qa7:DF K mg "joined_up" zda zcS)(qaC:DF K mg "lowest_unlike" zbX zbP)(qb5:DF K mg "turned" zfG zeM)(qb6:DF K mg "labels" zfJ zeO)(qaU:DF K mg "neighbours" zcL zb1)(qaV:DF K mg "least_free" zcM zcs)(qbI:DF K mg "colours" zeJ zd1)(qcs:DF K mg "marks" zhx zfS)(qb7:DF K mg "handed" zfO zeT)(qap:DF K mg "is_one_of_first" zbA zbt)(qdh:DF K mg "need_knot" zgb zir)(qbp:DF K mg "children" zdP zcD)(qbJ:DF K mg "beneath" zeL zd3)(qcb:DF K mg "is_way" zfN zeS)(qbt:DF K mg "need_way" zdN zbT)(qaM:DF K mg "own_entries" zcp zcg)(qak:DF K mg "full_rows_beneath" zbh za7)(qa8:DF K mg "full_rows" zdb zbf)(qbK:DF K mg "owns_of" zeB zdT)(qba:DF K mg "starts_of" zc8 zcQ)(qaX:DF K mg "bridges_of" zcO zbD)(qbL:DF K mg "bridges" zeK zd2)(qaA:DFT K mg "first_place" zbB zbH mc27 mp27)(qa5:DF K mg "start_in" zdL zcB)(qaF:DF K mg "next_place" zcK zb0)(qcc:DF K mg "search" zfH zdv)(qaj:DFT K mg "search_for_key" zaX za9 mc31 mp31)(qaw:DF K mg "search_beneath" zbM zbC)(qbv:DF K mg "paper_of" zdM zcd)(qbP:DF K mg "is_line" zeI zd0)(qaP:DF K mg "is_place_in" zcr zci)(qaD:DF K mg "is_near_start" zbY zbQ)(qbQ:DF K mg "lets_by" zeC zdU)(qbS:DF K mg "rows_on" zeA zdS)(qcg:DF K mg "places" zfI zeN)(qbM:DF K mg "_law_every" zeF zdX)(qbG:DF K mg "_law_begin" zeH zdZ)(qbF:DF K mg "_law_mixed" zeE zdW)(qb4:DF K mg "_law_take" zfL zbo)(qcr:DF K mg "_law_key" zhA zeR)(qb8:DF K mg "_law_tree" zfK zeP)(qcu:DF K mg "_law_row" zhz zfU)(qca:DF K mg "_law_rows" zfM zeQ)(qaZ:DF K mg "_law_children" zcN zct)(qcx:DF K mg "_law_way" zhy zfT)(qbN:DF K mg "_law_stand" zeD zdV)(qaO:DF K mg "_law_asked_key" zcq zch)(qbO:DF K mg "_law_below" zeG zdY)(qaL:DFT K mg "_law_papers" zcc zdd mc53 mp53)(qbb:DF K mg "_law_changed" zc9 zcR)(qar:DF K mg "_law_shorter_right" zbz zbs)(qdf:DF K mg "law" zn9 zkk)(qay:DI K CS "Shelf.__init__" zbO zbc)(qa0:DM K CS "find" "Shelf.find" zcP zb2):FC P w K mg base 13 "law" zkk (zij K mp4 mp27 mp31 mp53):=
 have m:=zov (P:=P) (w:=w) (base:=base) T qbF;have t:=zp7 T qb4 m;have c:=zqg (P:=P) (w:=w) (base:=base) T qcO;have nb:=zhK (P:=P) (w:=w) (base:=base) T qaU;have mk:=zow T qcs (zmF T qb6 c (zmx T qb5 (zrv T qaC))) (zld T qbI nb (zhL T qaV)) nb;have ch:=zjl (P:=P) (w:=w) (base:=base) T qbp;have fr:=zry T qak (zlg T qbJ) ch (zmI T qb7 mk) (zru T qaM) (zmG T qa7);have fu:=zoA T qa8 fr;have bo:=zqh T qaX ch (zmy T qba) (zp8 T qbK);have br:=zlf T qbL fu bo;have ky:=zrx T qcr t;have ls:=zlc T qbN t (zox T qb8 t) (zoy T qca t (zqc T qcu t ky));have fi:=fun (b:Heap) (S:Sub K mg base b)=>zoB (P:=P) (w:=w) (base:=b) T qaA (hBM.lift S) (fun b' _=>zpw (base:=b') T qai);have se:=fun (b:Heap) (S:Sub K mg base b)=>zmz (P:=P) (w:=w) (base:=b) (mp:=mp27) T qcc (fi b S) (zkv T qa5) (zmD T qaF);have be:=fun (b:Heap) (S:Sub K mg base b)=>zoD (P:=P) (w:=w) (base:=b) (mp:=mp27) T qaw (fi b S) (zmD T qaF);have wh:=zor (P:=P) (w:=w) (base:=base) T qbo;have nd:=zp9 T qbt (zoz T qcb (zou T qap wh));have fk:=zmJ T qaj hBM bo se;have pa:=zot T qbv nd fu fk;have si:=zqe T O qay fu;have sf:=zqf T O qa0 nd fk;have le:=zqd T qbQ nd (zmH T qbP wh) fu bo (zlb T qaP) (zqa T qaD (zkv T qa5));have pl:=zmB T qcg (zmA T qbS nd) (zos T qcf hBM (fun b=>zpw (base:=b) T qai));have pp:=zmC T O qaL hBM fu br pa si sf (zmE T qbO) se be
 zrw T O qdf (zoE T qbG) t ls (zqb T qcx t (ziy T qaZ)) (zoF T qaO (zoC T qbM) t ky) pp le (zle T qbb t) pa pl (zla T O qar pa si sf)
end
theorem u1 {P:List Value→Prop}(h:∀ a,P [a])(us:List Value)(hl:us.length=1):P us:=by
 rcases us with _ | ⟨a,_ | ⟨z,us⟩⟩
 ·cases hl
 ·exact h a
 ·exact absurd hl (by simp)
theorem u2 {P:List Value→Prop}(h:∀ a b,P [a,b])(us:List Value)(hl:us.length=2):P us:=by
 rcases us with _ | ⟨a,_ | ⟨b,_ | ⟨z,us⟩⟩⟩
 ·cases hl
 ·cases hl
 ·exact h a b
 ·exact absurd hl (by simp)
theorem u3 {P:List Value→Prop}(h:∀ a b c,P [a,b,c])(us:List Value)(hl:us.length=3):P us:=by
 rcases us with _ | ⟨a,_ | ⟨b,_ | ⟨c,_ | ⟨z,us⟩⟩⟩⟩
 ·cases hl
 ·cases hl
 ·cases hl
 ·exact h a b c
 ·exact absurd hl (by simp)
theorem u4 {P:List Value→Prop}(h:∀ a b c d,P [a,b,c,d])(us:List Value)(hl:us.length=4):P us:=by
 rcases us with _ | ⟨a,_ | ⟨b,_ | ⟨c,_ | ⟨d,_ | ⟨z,us⟩⟩⟩⟩⟩
 ·cases hl
 ·cases hl
 ·cases hl
 ·cases hl
 ·exact h a b c d
 ·exact absurd hl (by simp)
structure AD (K:Frag)(x:Str)(st:Stmt):Prop where
 ex:∃(f:Addr) (oc:Value) (od:Option Addr) (kV dc pm:Value) (an:Option Addr) (cd ct:Value) (sl:Array (Option Value)),nsIn K mainGlobals x=some (some (.ref f))∧K.lookup f=some ⟨oc,od,.func (fnOf x x (zb5 st) (zbm st) (zah st) .none kV dc pm an cd ct),sl⟩∧codeIn K cd x=true∧keepIn K (.ref f)=true
theorem AD.of {K:Frag}{x:Str}{st:Stmt}{f:Addr}{oc:Value}{od:Option Addr}{kV dc pm:Value}{an:Option Addr}{cd ct:Value}{sl:Array (Option Value)}(a:nsIn K mainGlobals x=some (some (.ref f)))(l:K.lookup f=some ⟨oc,od,.func (fnOf x x (zb5 st) (zbm st) (zah st) .none kV dc pm an cd ct),sl⟩)(c:codeIn K cd x=true)(k:keepIn K (.ref f)=true):AD K x st:=⟨f,oc,od,kV,dc,pm,an,cd,ct,sl,a,l,c,k⟩
theorem AD.df {K:Frag}{h:Heap}{mg:Str→Option Value}{x:Str}{st:Stmt}{ps:List Str}(a:AD K x st)(X:K.In h)(G:h.Ns mainGlobals mg)
  (hb:∀(kV doc pm:Value) (an:Option Addr) (cdv ct:Value) (us:List Value),us.length=ps.length→bindArgs (fnOf x x (zb5 st) (zbm st) (zah st) .none kV doc pm an cdv ct) ⟨us,[]⟩=pure (ps.zip us):=by
   first | exact fun _ _ _ _ _ _=>u1 fun _=>rfl | exact fun _ _ _ _ _ _=>u2 fun _ _=>rfl | exact fun _ _ _ _ _ _=>u3 fun _ _ _=>rfl | exact fun _ _ _ _ _ _=>u4 fun _ _ _ _=>rfl | exact fun _ _ _ _ _ _=>u5 fun _ _ _ _ _=>rfl | exact fun _ _ _ _ _ _=>u6 fun _ _ _ _ _ _=>rfl):DF K mg x st ps:=by
 obtain ⟨f,oc,od,kV,dc,pm,an,cd,ct,sl,a,l,c,k⟩:=a.ex;exact ⟨_,_,zgu l c k,(zgu l c k).binds hb,mg_of X G a⟩
theorem AD.dft {K:Frag}{h:Heap}{mg:Str→Option Value}{x:Str}{st:Stmt}{ps:List Str}{mc mp:Addr}(a:AD K x st)(X:K.In h)(G:h.Ns mainGlobals mg)(t:tabIn K x=some (mc,mp))(hh:codeHdIn K mc mp=true)
  (hb:∀(kV doc pm:Value) (an:Option Addr) (cdv ct:Value) (us:List Value),us.length=ps.length→bindArgs (fnOf x x (zb5 st) (zbm st) (zah st) .none kV doc pm an cdv ct) ⟨us,[]⟩=pure (ps.zip us):=by
   first | exact fun _ _ _ _ _ _=>u1 fun _=>rfl | exact fun _ _ _ _ _ _=>u2 fun _ _=>rfl | exact fun _ _ _ _ _ _=>u3 fun _ _ _=>rfl | exact fun _ _ _ _ _ _=>u4 fun _ _ _ _=>rfl | exact fun _ _ _ _ _ _=>u5 fun _ _ _ _ _=>rfl | exact fun _ _ _ _ _ _=>u6 fun _ _ _ _ _ _=>rfl):DFT K mg x st ps mc mp:=by
 obtain ⟨f,oc,od,kV,dc,pm,an,cd,ct,sl,a,l,c,k⟩:=a.ex;have e:cd=.ref mc:=L2.znZ a l t;subst e;exact ⟨⟨_,_,_,_,_,_,_,_,_,l,c,k,mg_of X G a,(zgu l c k).binds hb⟩,hh⟩
structure AM (K:Frag)(C:Addr)(m q:Str)(st:Stmt):Prop where
 ex:∃(f:Addr) (oc:Value) (od:Option Addr) (kV dc pm:Value) (an:Option Addr) (cd ct:Value) (sl:Array (Option Value)),findIn K (.ref C) m=some (some (.ref f))∧PySem.W.isFn K (.ref f)=true∧K.lookup f=some ⟨oc,od,.func (fnOf m q (zb5 st) (zbm st) (zah st) .none kV dc pm an cd ct),sl⟩∧codeIn K cd q=true∧keepIn K (.ref f)=true
theorem AM.of {K:Frag}{C:Addr}{m q:Str}{st:Stmt}{f:Addr}{oc:Value}{od:Option Addr}{kV dc pm:Value}{an:Option Addr}{cd ct:Value}{sl:Array (Option Value)}(a:findIn K (.ref C) m=some (some (.ref f)))(i:PySem.W.isFn K (.ref f)=true)(l:K.lookup f=some ⟨oc,od,.func (fnOf m q (zb5 st) (zbm st) (zah st) .none kV dc pm an cd ct),sl⟩)(c:codeIn K cd q=true)(k:keepIn K (.ref f)=true):AM K C m q st:=⟨f,oc,od,kV,dc,pm,an,cd,ct,sl,a,i,l,c,k⟩
theorem AM.dm {K:Frag}{C:Addr}{m q:Str}{st:Stmt}{ps:List Str}(a:AM K C m q st)
  (hb:∀(kV doc pm:Value) (an:Option Addr) (cdv ct:Value) (us:List Value),us.length=ps.length→bindArgs (fnOf m q (zb5 st) (zbm st) (zah st) .none kV doc pm an cdv ct) ⟨us,[]⟩=pure (ps.zip us):=by
   first | exact fun _ _ _ _ _ _=>u1 fun _=>rfl | exact fun _ _ _ _ _ _=>u2 fun _ _=>rfl | exact fun _ _ _ _ _ _=>u3 fun _ _ _=>rfl | exact fun _ _ _ _ _ _=>u4 fun _ _ _ _=>rfl | exact fun _ _ _ _ _ _=>u5 fun _ _ _ _ _=>rfl | exact fun _ _ _ _ _ _=>u6 fun _ _ _ _ _ _=>rfl):DM K C m q st ps:=by
 obtain ⟨f,oc,od,kV,dc,pm,an,cd,ct,sl,a,i,l,c,k⟩:=a.ex;exact ⟨_,_,zgu l c k,(zgu l c k).binds hb,⟨a,i,k⟩⟩
theorem AM.di {K:Frag}{C:Addr}{q:Str}{st:Stmt}{ps:List Str}(a:AM K C "__init__" q st)(mk:PySem.W.makesIn K C=true)(kc:keepIn K (.ref C)=true)
  (hb:∀(kV doc pm:Value) (an:Option Addr) (cdv ct:Value) (us:List Value),us.length=ps.length→bindArgs (fnOf "__init__" q (zb5 st) (zbm st) (zah st) .none kV doc pm an cdv ct) ⟨us,[]⟩=pure (ps.zip us):=by
   first | exact fun _ _ _ _ _ _=>u1 fun _=>rfl | exact fun _ _ _ _ _ _=>u2 fun _ _=>rfl | exact fun _ _ _ _ _ _=>u3 fun _ _ _=>rfl | exact fun _ _ _ _ _ _=>u4 fun _ _ _ _=>rfl | exact fun _ _ _ _ _ _=>u5 fun _ _ _ _ _=>rfl | exact fun _ _ _ _ _ _=>u6 fun _ _ _ _ _ _=>rfl):DI K C q st ps:=by
 obtain ⟨f,oc,od,kV,dc,pm,an,cd,ct,sl,a,i,l,c,k⟩:=a.ex;exact ⟨_,_,zgu l c k,(zgu l c k).binds hb,⟨mk,a,i,kc⟩⟩
theorem zr2 {l:OpenLaw}{w:World}{K:Frag}{h:Heap}{mg:Str→Option Value}{fa mc4 mp4 mc27 mp27 mc31 mp31 mc53 mp53 CS:Addr}(X:K.In h)(G:h.Ns mainGlobals mg)(hfa:mg "law" = some (.ref fa)){t_KNOT_NUMBERS:Tok}{t_TURNS:Tok}{t_MOST_BEHIND_START:Tok}(a1:AD K "is_whole" zdO)(a2:AD K "code" zkg)(a3:AD K "how_many_below" zbN)(a4:AD K "place" zfc)(a5:AD K "joined_up" zda)(a6:AD K "lowest_unlike" zbX)(a7:AD K "turned" zfG)(a8:AD K "labels" zfJ)(a9:AD K "neighbours" zcL)(a10:AD K "least_free" zcM)(a11:AD K "colours" zeJ)(a12:AD K "marks" zhx)(a13:AD K "handed" zfO)(a14:AD K "is_one_of_first" zbA)(a15:AD K "need_knot" zgb)(a16:AD K "children" zdP)(a17:AD K "beneath" zeL)(a18:AD K "is_way" zfN)(a19:AD K "need_way" zdN)(a20:AD K "own_entries" zcp)(a21:AD K "full_rows_beneath" zbh)(a22:AD K "full_rows" zdb)(a23:AD K "owns_of" zeB)(a24:AD K "starts_of" zc8)(a25:AD K "bridges_of" zcO)(a26:AD K "bridges" zeK)(a27:AD K "first_place" zbB)(a28:AD K "start_in" zdL)(a29:AD K "next_place" zcK)(a30:AD K "search" zfH)(a31:AD K "search_for_key" zaX)(a32:AD K "search_beneath" zbM)(a33:AD K "paper_of" zdM)(a34:AD K "is_line" zeI)(a35:AD K "is_place_in" zcr)(a36:AD K "is_near_start" zbY)(a37:AD K "lets_by" zeC)(a38:AD K "rows_on" zeA)(a39:AD K "places" zfI)(a40:AD K "_law_every" zeF)(a41:AD K "_law_begin" zeH)(a42:AD K "_law_mixed" zeE)(a43:AD K "_law_take" zfL)(a44:AD K "_law_key" zhA)(a45:AD K "_law_tree" zfK)(a46:AD K "_law_row" zhz)(a47:AD K "_law_rows" zfM)(a48:AD K "_law_children" zcN)(a49:AD K "_law_way" zhy)(a50:AD K "_law_stand" zeD)(a51:AD K "_law_asked_key" zcq)(a52:AD K "_law_below" zeG)(a53:AD K "_law_papers" zcc)(a54:AD K "_law_changed" zc9)(a55:AD K "_law_shorter_right" zbz)(a56:AD K "law" zn9)(t4:tabIn K "place" = some (mc4,mp4))(h4:codeHdIn K mc4 mp4=true)(t27:tabIn K "first_place" = some (mc27,mp27))(h27:codeHdIn K mc27 mp27=true)(t31:tabIn K "search_for_key" = some (mc31,mp31))(h31:codeHdIn K mc31 mp31=true)(t53:tabIn K "_law_papers" = some (mc53,mp53))(h53:codeHdIn K mc53 mp53=true)(o_C:nsIn K mainGlobals "Shelf" = some (some (.ref CS)))(o_g:PySem.W.plainGet K CS Str.empty=true)(o_h:PySem.W.hasDictIn K CS=true)(o_p:PySem.W.plainOver K CS=true)(o_s:findIn K (.ref CS) "__setattr__" = some (some (.builtin "object.__setattr__")))(o_m:PySem.W.makesIn K CS=true)(o_k:keepIn K (.ref CS)=true)(qdi:findIn K (.ref CS) "kept" = some none)(qc8:findIn K (.ref CS) "fulls" = some none)(qbB:AM K CS "__init__" "Shelf.__init__" zbO)(qcj:AM K CS "find" "Shelf.find" zcP)(qdu:nsIn K mainGlobals "abs" = some none)(qdv:nsIn K mainGlobals "all" = some none)(qdq:nsIn K mainGlobals "bool" = some none)(qdr:nsIn K mainGlobals "dict" = some none)(qcA:nsIn K mainGlobals "enumerate" = some none)(qdw:nsIn K mainGlobals "int" = some none)(qck:nsIn K mainGlobals "isinstance" = some none)(qdx:nsIn K mainGlobals "len" = some none)(qds:nsIn K mainGlobals "list" = some none)(qdy:nsIn K mainGlobals "max" = some none)(qdz:nsIn K mainGlobals "min" = some none)(qdj:nsIn K mainGlobals "range" = some none)(qcK:nsIn K mainGlobals "reversed" = some none)(qc9:nsIn K mainGlobals "sorted" = some none)(qdk:nsIn K mainGlobals "tuple" = some none)(qdA:nsIn K mainGlobals "zip" = some none)(qbX:nsIn K mainGlobals "KNOT_NUMBERS" = some (some (.int 64 t_KNOT_NUMBERS)))(qdl:nsIn K mainGlobals "TURNS" = some (some (.int 5 t_TURNS)))(qbc:nsIn K mainGlobals "MOST_BEHIND_START" = some (some (.int 2 t_MOST_BEHIND_START))) :
  ∃ fd:FuncData,(∀(s:Shared) (v:Value),BindsTo s fd ⟨[v],[]⟩ [("_law_script",v)])∧∀ base:Heap,K.In base→base.Ns mainGlobals mg→L2.BMAt mg base→FnOk l.prog w K mg base CX0 lawRoom fa fd ["_law_script"] (zij K mp4 mp27 mp31 mp53):=by
 obtain ⟨f,oc,od,kV,dc,pm,an,cd,ct,sl,a,l,c,k⟩:=a56.ex;have e:=hfa.symm.trans (mg_of X G a);cases e
 have T:Txt K mg:=⟨mg_none_of X G qdu,mg_none_of X G qdv,mg_none_of X G qdq,mg_none_of X G qdr,mg_none_of X G qcA,mg_none_of X G qdw,mg_none_of X G qck,mg_none_of X G qdx,mg_none_of X G qds,mg_none_of X G qdy,mg_none_of X G qdz,mg_none_of X G qdj,mg_none_of X G qcK,mg_none_of X G qc9,mg_none_of X G qdk,mg_none_of X G qdA,⟨_,mg_of X G qbX⟩,⟨_,mg_of X G qdl⟩,⟨_,mg_of X G qbc⟩⟩;have O:OwnC K mg CS:=⟨⟨o_g,o_h,o_p,o_s⟩,mg_of X G o_C,qdi,qc8⟩;exact ⟨_,fun s v=>.of_eq rfl,fun base _ _ hBM=>(all_ok (P:=_) (w:=w) (base:=base) T O hBM (a1.df X G) (a2.df X G) (a3.df X G) (a4.dft X G t4 h4) (a5.df X G) (a6.df X G) (a7.df X G) (a8.df X G) (a9.df X G) (a10.df X G) (a11.df X G) (a12.df X G) (a13.df X G) (a14.df X G) (a15.df X G) (a16.df X G) (a17.df X G) (a18.df X G) (a19.df X G) (a20.df X G) (a21.df X G) (a22.df X G) (a23.df X G) (a24.df X G) (a25.df X G) (a26.df X G) (a27.dft X G t27 h27) (a28.df X G) (a29.df X G) (a30.df X G) (a31.dft X G t31 h31) (a32.df X G) (a33.df X G) (a34.df X G) (a35.df X G) (a36.df X G) (a37.df X G) (a38.df X G) (a39.df X G) (a40.df X G) (a41.df X G) (a42.df X G) (a43.df X G) (a44.df X G) (a45.df X G) (a46.df X G) (a47.df X G) (a48.df X G) (a49.df X G) (a50.df X G) (a51.df X G) (a52.df X G) (a53.dft X G t53 h53) (a54.df X G) (a55.df X G) (a56.df X G) (qbB.di o_m o_k) (qcj.dm)).at (mg_of X G a) l⟩
theorem walk {l:OpenLaw}{q:Program}{loose:List Str}{XP:(Str→Option Value)→Heap→Prop}{YP:World→Heap→Prop}{d:DefRec}{K:Params→Frag}{mc4 mp4 mc27 mp27 mc31 mp31 mc53 mp53:Addr}(hn:l.most=some 63)(hdf:d.params.defaults=[])
  (hY:∀(w:World) (h:Heap),YP w h→(K w.params).In h) (hYT4:∀(w:World) (h:Heap),YP w h→h.get? mp4=some (PySem.W.tabObj #[])) (hC4:∀(w:World),codeHdIn (K w.params) mc4 mp4=true) (hD4:∀(w:World),(K w.params).lookup mp4=none) (hYT27:∀(w:World) (h:Heap),YP w h→h.get? mp27=some (PySem.W.tabObj #[])) (hC27:∀(w:World),codeHdIn (K w.params) mc27 mp27=true) (hD27:∀(w:World),(K w.params).lookup mp27=none) (hYT31:∀(w:World) (h:Heap),YP w h→h.get? mp31=some (PySem.W.tabObj #[])) (hC31:∀(w:World),codeHdIn (K w.params) mc31 mp31=true) (hD31:∀(w:World),(K w.params).lookup mp31=none) (hYT53:∀(w:World) (h:Heap),YP w h→h.get? mp53=some (PySem.W.tabObj #[])) (hC53:∀(w:World),codeHdIn (K w.params) mc53 mp53=true) (hD53:∀(w:World),(K w.params).lookup mp53=none) (hNE:[mp4,mp27,mp31,mp53].Nodup)
  (F:∀(w:World) (mg:Str→Option Value) (fa:Addr) (h:Heap),(K w.params).In h→h.Ns mainGlobals mg→mg d.name=some (.ref fa)→
   ∃ fd:FuncData,(∀(s:Shared) (u:Value),BindsTo s fd ⟨[u],[]⟩ [("_law_script",u)])∧∀ base:Heap,(K w.params).In base→base.Ns mainGlobals mg→L2.BMAt mg base→FnOk l.prog w (K w.params) mg base CX0 lawRoom fa fd ["_law_script"] (zij (K w.params) mp4 mp27 mp31 mp53)) :
  PySem.W.WalkO q loose XP YP l.row.toRowW d [] (fun f vs=>PySem.call f vs):=
 L2.znU (n:=63) (k:=lawRoom) (x := "_law_script") (tabs:=[(mc4,mp4),(mc27,mp27),(mc31,mp31),(mc53,mp53)]) (sp:=fun w=>zij (K w.params) mp4 mp27 mp31 mp53) hn (by decide) hdf ⟨rfl,by decide,by decide,rfl⟩ hY (fun w h Y q hq=>(yaj.mp hq).elim (fun z=>z ▸ hYT4 w h Y) (fun hq=>(yaj.mp hq).elim (fun z=>z ▸ hYT27 w h Y) (fun hq=>(yaj.mp hq).elim (fun z=>z ▸ hYT31 w h Y) (fun hq=>(yaj.mp hq).elim (fun z=>z ▸ hYT53 w h Y) (fun hq=>absurd hq yax))))) (fun w q hq=>(yaj.mp hq).elim (fun z=>z ▸ ⟨hC4 w,hD4 w⟩) (fun hq=>(yaj.mp hq).elim (fun z=>z ▸ ⟨hC27 w,hD27 w⟩) (fun hq=>(yaj.mp hq).elim (fun z=>z ▸ ⟨hC31 w,hD31 w⟩) (fun hq=>(yaj.mp hq).elim (fun z=>z ▸ ⟨hC53 w,hD53 w⟩) (fun hq=>absurd hq yax))))) F (fun _ _ a ns hl hT hS=>⟨a,ns,rfl,hS,hl,hNE,hT _ yav,hT _ (yau _ yav),hT _ (yau _ (yau _ yav)),hT _ (yau _ (yau _ (yau _ yav))),fun _=>rfl⟩)
end My
open PySem PySem.W PyProof.Rows
namespace PySem.W.Fast
def tw3875035577922309459:=0
def tw11689745382067130672:=0
def tw11202528485015781787:=0
def tw12265589330516042461:=0
def tw6978738247904190933:=0
def tw13456939956317143570:=0
def tw3092472554997495404:=0
def tw4587470441109480141:=0
def tw9752432977356196713:=0
def tw9392724731558365673:=0
def tw8910447953384275527:=0
def tw7885924697567073567:=0
def tw9912444252624422539:=0
def tw15978202546769208534:=0
def tw13242835163980514964:=0
def tw797906428010849707:=0
def tw6798496225759296968:=0
def tw674426014466287385:=0
def tw4287061808141351619:=0
def tw8075946887056883510:=0
def tw7171115065917809726:=0
def tw4250067949560977354:=0
def tw6228659362249883707:=0
def tw340731873573952241:=0
def tw11559976591106749457:=0
def tw3712338129797230036:=0
def tw14432231559069260666:=0
def tw14995534036195363644:=0
def tw8944320063104593840:=0
def tw8416276385012767205:=0
def tw14521566318671604484:=0
def tw3143330917014157757:=0
def tw17196944559122945441:=0
def tw17782512815401106523:=0
def tw11598054913925936585:=0
def tw12223435301800581797:=0
def tw16197668236428460229:=0
def tw7680473719285859253:=0
def tw7144232124153934989:=0
def tw10565163495902512703:=0
def tw8905337119111036066:=0
def tw9661452734809232666:=0
def tw6704583224348110785:=0
def tw5227110460885333115:=0
def tw13014475165201678418:=0
def tw9360024881494494748:=0
def tw12119066082034560525:=0
def tw11734777041283880149:=0
def tw16048188030040380452:=0
def tw13774750321471374715:=0
def tw15468865327833069168:=0
def tw11368847533478445451:=0
def tw4081556251844336402:=0
def tw7205535379189414856:=0
def tw17140801954317974257:=0
def tw12883522156121703687:=0
def tw1602651764440416964:=0
def tw13561734020119933041:=0
def tw1603941559561358027:=0
def tw13611969172305225885:=0
def tw9437187025951757589:=0
def tw4752921769092111819:=0
def tw14664444775557878931:=0
def tw692848221355892181:=0
def tw11424155841372082128:=0
def tw12840265904734860179:=0
def tw8745296955657916104:=0
def tw9436574456757181909:=0
def tw13082212835103335323:=0
def tw13829421706331660862:=0
def tw8350320941035754398:=0
def tw11263068579034414819:=0
def tw18150957846089893176:=0
def tw17327480693632500605:=0
def tw911355561097443251:=0
def tw18340282012171561497:=0
def tw7577962156412503274:=0
def tw15889671788881528537:=0
def tw7779330320217524871:=0
def tw13017555601013477058:=0
def tw849721545378981254:=0
def tw11532597255053116004:=0
def tw3773530171014667225:=0
def tw11432329026611822738:=0
def tw11133934329017172624:=0
def tw6664056982538532688:=0
def tw10449933616205074231:=0
def tw16948528163790397645:=0
def tw11974156568455061043:=0
def tw9889649862290141847:=0
def tw11162455803130065426:=0
def tw13750579577625866789:=0
def tw9518168544057495509:=0
def tw16178254961056206250:=0
def tw10673087345654833844:=0
def tw16440409119346385861:=0
def tw1498644358574054418:=0
def tw12297998964911555358:=0
def tw9320298737756579653:=0
def tw5856067699819554082:=0
def tw18293675369849809468:=0
def tw11964910201263557840:=0
def tw5288811979923840686:=0
def tw15490936417549917044:=0
def tw16932556091585487096:=0
def tw9176416696118306060:=0
def tw15291907010016887225:=0
def tw9016424821751878900:=0
def tw3855176094502134196:=0
def tw4337841044568245509:=0
def tw17287065658059555410:=0
def tw12197287906188026402:=0
def tw6714269891328696724:=0
def tw8879714832889988557:=0
def tw12914205467179692255:=0
def tw3290788853952305961:=0
def tw13883389003156324465:=0
def tw15072903391685591385:=0
def tw12316636591411926024:=0
def tw4387442158714023860:=0
def tw11503319542865960261:=0
def tw227804554958131000:=0
def tw1091371855754598387:=0
def tw2251809852085999308:=0
def tw5861780102641044032:=0
def tw4284655683081731486:=0
def tw474545002229379357:=0
def tw12446271525001691317:=0
def tw7739580409338673210:=0
def tw471552136199496879:=0
def tw9970247967943928853:=0
def tw13508906172424334635:=0
def tw14959068714769238887:=0
def tw15538998756577994688:=0
def tw18290030034404262323:=0
def tw15072488025870367932:=0
def tw15599248319746548140:=0
def tw6108268764952533716:=0
def tw4902877562253861462:=0
def tw1764747500693923300:=0
def tw13656011611061282286:=0
def tw13773992876350102124:=0
def tw14253837200940369412:=0
def tw7248058681068044611:=0
def tw18344043753441444774:=0
def tw1535875323751241673:=0
def tw14418319109754963289:=0
def tw15736427878646657884:=0
def tw4170707251911262090:=0
def tw202436055398079704:=0
def tw1763778486933926003:=0
def tw4795165524934112994:=0
def tw4966031658736575983:=0
def tw4744265476464307942:=0
def tw5111659552387403196:=0
def tw6171793838940697113:=0
def tw243253866486689558:=0
def tw4553204443999985257:=0
def tw5198572503996265898:=0
def tw12455813193607104018:=0
def tw13964168002664134957:=0
def tw8577929442847224181:=0
def tw3453271241223004675:=0
def tw8496284558979889413:=0
def tw18237424414896032457:=0
def tw3706339689767009132:=0
def tw14114390973988955632:=0
def tw5254311157575485669:=0
def tw5814453060509377245:=0
def tw2804373470889957539:=0
def tw13303590936393076880:=0
def tw1805509693098011178:=0
def tw10008485718334612613:=0
def tw5784800940689352898:=0
def tw2843551185641942820:=0
def tw18241309892321280676:=0
def tw7583390071649448702:=0
def tw9679907110016843027:=0
def tw18129992528651754832:=0
def tw11475358780019627526:=0
def tw11867813788516007392:=0
def tw2979339252152044381:=0
def tw7803703135285032552:=0
def tw9116622105013470966:=0
def tw14015705504139040835:=0
def tw10069457620119748945:=0
def tw12658053721445236877:=0
def tw3151152858761480925:=0
def tw8257832788679619058:=0
def tw9199667553917100061:=0
def tw14863462390865806779:=0
def tw2154870852284312100:=0
def tw8150998849861970374:=0
def tw7794255504097385297:=0
def tw12847037452630091279:=0
def tw2511079557778062510:=0
def tw14576949062469609070:=0
def tw10395378933353007926:=0
def tw8704320303936724332:=0
def tw4777966831405708646:=0
def tw15615405345942883397:=0
def tw10120429463997934727:=0
def tw9599598896700733331:=0
def tw8789359848886218559:=0
def tw7044491746201899952:=0
def tw12247167221719931487:=0
def tw3828578213813173411:=0
def tw726934506163093358:=0
def tw15732010795268777842:=0
def tw4516250352219354861:=0
def tw16578702381134702804:=0
def tw10221190918873420699:=0
def tw4662183938861222752:=0
def tw4196882157476585214:=0
def tw1846275633278272304:=0
def tw8223290453355725017:=0
def tw6158407708701394817:=0
def tw2174770493633597989:=0
def tw18348119285422049639:=0
def tw4654404943088253893:=0
def tw16852998957632759758:=0
def tw1088687352952085380:=0
def tw655226753173639559:=0
def tw5423089769107123624:=0
def tw3390666547207367820:=0
def tw17169976007937038041:=0
def tw9452871539643133827:=0
def tw13381961126797199201:=0
def tw11094238093122287200:=0
def tw299968789734998558:=0
def tw11883164700125809021:=0
def tw9715397799731661709:=0
def tw16067023961547026358:=0
def tw6778886343159139004:=0
def tw11293953012518333869:=0
def tw2930130040190638763:=0
def tw17196723833482399973:=0
def tw13161109077744657196:=0
def tw10780813067611761375:=0
def tw4717560115302951695:=0
def tw17564588122489214871:=0
def tw16846603984743995151:=0
def tw11130749260427322228:=0
def tw18283082755447391683:=0
def tw16665174656986559648:=0
def tw17249741961903340626:=0
def tw16875773225375800708:=0
def tw7632766769552161284:=0
def tw1234429628895526474:=0
def tw1921378661713566219:=0
def tw12858773260004560281:=0
def tw11413842796620563573:=0
def tw7554412262185657133:=0
def tw577036655790799555:=0
def tw10779669153482414375:=0
def tw12000423588000301614:=0
def tw10084739446916755321:=0
def tw17932907453458988188:=0
def tw5352598403122042151:=0
def tw230546310246465767:=0
def tw2265842346759289023:=0
def tw15367836614860592820:=0
def tw11268620135771486094:=0
def tw6184589116865998746:=0
def tw2536322697686941647:=0
def tw16066413779800187629:=0
def tw14356678572652062662:=0
def tw18401717345699415987:=0
def tw6633570702459653875:=0
def tw14325970206688297638:=0
def tw14073965066672369936:=0
def tw3341428558003066264:=0
def tw4466042020763425207:=0
end PySem.W.Fast
set_option maxRecDepth 100000 in
set_option maxHeartbeats 0 in
theorem PySem.Challenge.cw_bridgefind_k76_whole_papers_whoever_wrot_holds : PySem.Challenge.rw_bridgefind_k76_whole_papers_whoever_wrot.Holds := by
 w_on; o_law; k_head; (case hw=>w_witness2)
 k_fill
 refine My.walk (l:=PySem.Challenge.rw_bridgefind_k76_whole_papers_whoever_wrot) (mc4:=85) (mp4:=81) (mc27:=228) (mp27:=224) (mc31:=256) (mp31:=252) (mc53:=471) (mp53:=469) rfl rfl (fun w h Y=>PySem.W.km_in_of Y) (fun w h Y=>PySem.W.km_tabs_of Y 81 (by decide)) (fun w=>by kernel_rfl) (fun w=>by kernel_rfl) (fun w h Y=>PySem.W.km_tabs_of Y 224 (by decide)) (fun w=>by kernel_rfl) (fun w=>by kernel_rfl) (fun w h Y=>PySem.W.km_tabs_of Y 252 (by decide)) (fun w=>by kernel_rfl) (fun w=>by kernel_rfl) (fun w h Y=>PySem.W.km_tabs_of Y 469 (by decide)) (fun w=>by kernel_rfl) (fun w=>by kernel_rfl) (by decide) ?F
 case F=>
  intro w mg fa h KX G hmg
  refine' My.zr2 (mc4:=85) (mp4:=81) (mc27:=228) (mp27:=224) (mc31:=256) (mp31:=252) (mc53:=471) (mp53:=469) KX G hmg ?_ ?_ ?_ ?_ ?_ ?_ ?_ ?_ ?_ ?_ ?_ ?_ ?_ ?_ ?_ ?_ ?_ ?_ ?_ ?_ ?_ ?_ ?_ ?_ ?_ ?_ ?_ ?_ ?_ ?_ ?_ ?_ ?_ ?_ ?_ ?_ ?_ ?_ ?_ ?_ ?_ ?_ ?_ ?_ ?_ ?_ ?_ ?_ ?_ ?_ ?_ ?_ ?_ ?_ ?_ ?_ ?_ ?_ ?_ ?_ ?_ ?_ ?_ ?_ ?_ ?_ ?_ ?_ ?_ ?_ ?_ ?_ ?_ ?_ ?_ ?_ ?_ ?_ ?_ ?_ ?_ ?_ ?_ ?_ ?_ ?_ ?_ ?_ ?_ ?_ ?_ ?_ ?_ ?_
  any_goals k_is
  all_goals first | refine' My.AD.of ?_ ?_ ?_ ?_ | refine' My.AM.of ?_ ?_ ?_ ?_ ?_ | skip
  any_goals k_is
  all_goals kernel_rfl

