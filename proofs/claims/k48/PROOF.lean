import PyProof.Rows.All
import Wide.All
import OpenK.AllK
import Wide.FinOn
import PyProof.EqAt
import PyProof.EqKinds
import PyProof.TupleCall
import PyProof.NeKinds
import Lean
import PyProof.ExcBaseAll.ValueError
import PyProof.NsDelKeeps
import PyProof.ExcArgsOwn
import KE.KIsAll
import PyProof.FString
import PySem.Challenge.RW_bridgefind_k48_shelves_asked
set_option autoImplicit true
set_option relaxedAutoImplicit true
set_option Elab.async false
set_option linter.all false
set_option maxRecDepth 100000
set_option maxHeartbeats 1000000
def nT {i m n:Nat}(e:i+m=n)(h:i < n):m - 1 < m:=by lia
def nU {i m n:Nat}(e:i+m=n)(h:i < n):i+1+(m - 1)=n:=by lia
def uv {α:Type}{xs:List α}{i:Nat}{x:α}(h:xs[i]?=some x):i < xs.length:=(List.getElem?_eq_some_iff.mp h).1
def zT {α β:Type}{f:α->β}{xs:List α}{i:Nat}{x:α}(h:xs[i]?=some x):i < (xs.map f).length:=by rw[List.length_map];exact uv h
def zU {α β:Type}{f:α->β}{xs:List α}{i:Nat}(h:i < xs.length):i < (xs.map f).length:=by rw[List.length_map];exact h
local macro_rules|`(tactic|lia)=>`(tactic|first | (with_reducible (first | assumption | exact Nat.le_of_lt ‹_› | exact Nat.lt_add_one_of_le ‹_› | exact Nat.lt_add_one _ | exact Nat.le_add_right _ _ | exact Nat.le_add_left _ _ | exact Nat.le_of_lt_add_one ‹_› | exact Nat.lt_of_le_of_lt (Nat.zero_le _) ‹_› | exact Nat.sub_lt ‹_› Nat.one_pos | exact nT ‹_› ‹_› | exact nU ‹_› ‹_› | exact nT ‹_› (uv ‹_›) | exact nU ‹_› (uv ‹_›) | exact nT ‹_› (zT ‹_›) | exact nU ‹_› (zT ‹_›) | exact nT ‹_› (zU ‹_›) | exact nU ‹_› (zU ‹_›) | exact Nat.sub_le _ _ | exact Nat.add_sub_of_le ‹_› | exact Nat.le_refl _ | exact Nat.le_trans ‹_› ‹_› | exact Nat.lt_of_lt_of_le ‹_› ‹_› | exact Nat.lt_of_le_of_lt ‹_› ‹_› | exact Nat.le_trans (Nat.le_of_lt ‹_›) ‹_› | exact Nat.lt_of_lt_of_eq ‹_› ‹_› | exact Nat.lt_of_lt_of_eq ‹_› (Eq.symm ‹_›) | exact Nat.le_of_eq ‹_› | exact Nat.le_of_eq (Eq.symm ‹_›) | exact Nat.lt_of_lt_of_le ‹_› (Nat.le_add_right _ _) | exact Nat.le_antisymm ‹_› ‹_› | exact Eq.symm ‹_› | exact Int.natCast_nonneg _ | exact Int.ofNat_lt.mpr ‹_› | exact Int.ofNat_lt.mp ‹_› | exact Int.ofNat_le.mpr ‹_› | exact Int.le_of_lt ‹_›)) | cutsat|omega)
abbrev ax:=@PySem.wpAny_bind
abbrev aM:=@PySem.wpAny_pure
abbrev cW:=@PySem.wpAny_mono
abbrev ak:=@if_pos
abbrev ao:=@if_neg
abbrev av:=@Or.inl
abbrev gh:=@Or.inr
abbrev bt:=@Ne.symm
abbrev jx:=@Decidable.byContradiction
abbrev bz:=@PySem.boot_len
open PySem.W (Frag nsIn codeIn keepIn tabIn codeHdIn mg_of mg_none_of fnOf OpenLaw kitOne mroIn findIn)
abbrev ai:=@List.length_map
abbrev aq:=@Nat.le_refl
abbrev aA:=@List.getElem?_eq_getElem
abbrev aF:=@List.getD_eq_getElem?_getD
abbrev aJ:=@Option.some.inj
abbrev aQ:=@PySem.Heap.lt_size
abbrev aS:=@List.length_append
abbrev aT:=@List.getElem?_eq_some_iff
abbrev aU:=@List.mem_cons
abbrev aV:=@decide_eq_true
abbrev aY:=@PySem.Heap.get?_push_of_some
abbrev aZ:=@List.getElem?_map
abbrev bu:=@List.length_take
abbrev bw:=@List.map_append
abbrev bx:=@decide_eq_false
abbrev bG:=@List.take_of_length_le
abbrev bK:=@Nat.ne_of_lt
abbrev bL:=@List.map_cons
abbrev bM:=@List.mem_singleton
abbrev bO:=@of_decide_eq_true
abbrev bP:=@List.mem_cons_of_mem
abbrev bQ:=@List.append_nil
abbrev bT:=@List.size_toArray
abbrev bW:=@Nat.le_trans
abbrev bX:=@List.mem_append
abbrev bZ:=@List.mem_cons_self
abbrev cn:=@Nat.lt_of_lt_of_le
abbrev cv:=@Nat.zero_le
abbrev cA:=@List.mem_map
abbrev cB:=@PySem.Heap.get?_push_size
abbrev cC:=@List.getElem_mem
abbrev cG:=@List.take_succ_eq_append_getElem
abbrev cH:=@Bool.false_ne_true
abbrev cJ:=@List.not_mem_nil
abbrev cK:=@List.sum_cons
abbrev cS:=@List.length_singleton
abbrev cX:=@List.mem_of_getElem?
abbrev cY:=@List.getElem_of_mem
abbrev dg:=@List.filter_append
abbrev dy:=@List.getElem?_eq_none
abbrev dC:=@List.length_cons
abbrev dD:=@List.nodup_cons
abbrev dE:=@List.filter_cons_of_pos
abbrev dU:=@List.pairwise_iff_getElem
abbrev d5:=@Nat.lt_irrefl
abbrev d6:=@List.mem_filter
abbrev d7:=@List.mem_range
abbrev d8:=@List.lookup_cons
abbrev d9:=@List.length_range
abbrev eS:=@Nat.le_of_lt
abbrev eU:=@List.length_drop
abbrev eV:=@Bool.and_eq_true
abbrev eW:=@List.all_eq_true
abbrev eX:=@List.length_filter_le
abbrev eY:=@List.take_append_drop
abbrev fD:=@Nat.le_succ
abbrev fE:=@List.filter_cons_of_neg
abbrev fF:=@List.nodup_append
abbrev fT:=@List.mem_append_right
abbrev fU:=@Int.toNat_natCast
abbrev gi:=@List.getElem?_append_right
abbrev gj:=@List.drop_eq_nil_of_le
abbrev gk:=@Int.zero_add
abbrev gI:=@Option.map_eq_some_iff
abbrev gJ:=@Nat.lt_of_le_of_lt
abbrev gK:=@List.ext_getElem?
abbrev hZ:=@List.any_cons
abbrev ie:=@List.length_nil
abbrev ig:=@List.map_map
abbrev ij:=@List.getElem?_range
abbrev il:=@List.append_assoc
abbrev ip:=@List.getElem?_set
abbrev iq:=@List.filter_eq_nil_iff
abbrev iO:=@List.getElem?_append_left
abbrev iP:=@List.nodup_nil
abbrev iQ:=@List.map_take
abbrev iR:=@Nat.not_lt_zero
abbrev iS:=@Bool.eq_false_iff
abbrev iT:=@List.range_succ
abbrev iU:=@List.mem_or_eq_of_mem_set
abbrev jy:=@Array.length_toList
abbrev jz:=@Nat.ne_of_gt
abbrev jA:=@Int.natCast_nonneg
abbrev jB:=@PySem.Heap.size_push
abbrev jC:=@List.length_replicate
abbrev jD:=@PySem.Heap.get?_update_other
abbrev jE:=@Bool.and_false
abbrev jF:=@Nat.le_of_not_lt
abbrev jG:=@Nat.add_zero
abbrev jH:=@Nat.min_eq_left
abbrev jI:=@List.map_set
abbrev kg:=@List.filterMap_cons
abbrev kh:=@Nat.lt_succ_self
abbrev kj:=@List.find?_cons
abbrev kl:=@List.map_nil
abbrev ko:=@Nat.add_le_add_right
abbrev kq:=@Bool.false_eq_true
abbrev ku:=@Nat.not_lt
abbrev kx:=@Bool.not_eq_true'
abbrev kz:=@List.reverse_cons
abbrev kA:=@List.length_reverse
abbrev kC:=@List.mem_reverse
abbrev kF:=@Nat.testBit_succ
abbrev kG:=@Nat.pow_succ
abbrev kH:=@Nat.add_sub_cancel
abbrev kI:=@of_decide_eq_false
abbrev kJ:=@List.flatten_cons
abbrev kK:=@Nat.zero_add
abbrev kL:=@Nat.lt_or_ge
abbrev lZ:=@Nat.le_of_eq
abbrev l0:=@List.of_mem_zip
abbrev l6:=@Option.isSome_iff_exists
abbrev l7:=@List.pairwise_map
abbrev l8:=@List.all_eq_false
abbrev ma:=@List.getElem?_reverse
abbrev md:=@List.take_zero
abbrev mf:=@Nat.sub_self
abbrev mh:=@List.map_drop
abbrev mi:=@Nat.lt_succ_of_le
abbrev mj:=@List.filter_nil
abbrev mn:=@List.length_pos_iff
abbrev nW:=@Bool.false_and
abbrev nX:=@Bool.eq_iff_iff
abbrev nY:=@List.length_set
abbrev nZ:=@List.all_cons
abbrev n8:=@Int.emod_nonneg
abbrev n9:=@Int.emod_lt_of_pos
abbrev oa:=@Bool.or_eq_true
abbrev og:=@List.eq_nil_of_length_eq_zero
abbrev oh:=@List.getElem?_take
abbrev oi:=@List.length_zip
abbrev oj:=@List.pairwise_lt_range
abbrev om:=@Nat.lt_of_not_le
abbrev oo:=@List.filter_eq_self
abbrev oq:=@List.mem_flatten
abbrev ou:=@List.map_congr_left
abbrev oy:=@Int.natCast_add
abbrev oz:=@Nat.min_eq_right
abbrev oA:=@List.any_append
abbrev oB:=@List.flatten_append
abbrev oC:=@List.pairwise_append
abbrev oE:=@List.pairwise_cons
abbrev oF:=@List.filter_filter
abbrev oG:=@List.mem_of_mem_drop
abbrev uw:=@List.getElem?_set_ne
abbrev ux:=@Nat.add_le_add_left
abbrev uy:=@List.zip_cons_cons
abbrev uz:=@Array.perm_iff_toList_perm
abbrev uA:=@List.getElem?_cons_succ
abbrev uB:=@List.getElem?_drop
abbrev uC:=@Nat.pos_of_ne_zero
abbrev uD:=@List.perm_ext_iff_of_nodup
abbrev uE:=@List.pairwise_singleton
abbrev uF:=@List.length_eq_zero_iff
abbrev uG:=@List.mem_of_mem_take
set_option hygiene false
local macro_rules
|`(.(a))=>`((by lia))
|`(.(b))=>`((λf cdv A outer s H vs Q E hr h=>?_))
|`(.(c))=>`((λvs H Q E h=>?_))
|`(.(d))=>`((model X.prog X.w))
|`(.(e))=>`((af ps Re k))
|`(.(f))=>`((X.env.qual ++ "<lambda>"))
|`(.(g))=>`((by show 1<=sizeLine;decide))
|`(.(h))=>`((List Int))
|`(.(i))=>`((model prog w))
|`(.(j))=>`((.ins CS dx (putF "kept" (.ref st') [("kept",.ref st),("fulls",.ref p)])))
|`(.(k))=>`((by simp))
|`(.(l))=>`((by show 2<=sizeLine;decide))
|`(.(m))=>`(⟨_,rfl,ag,λb o n e=>by rw[aj n];exact e⟩)
|`(.(n))=>`((k==NameKind.free&&env.scope.kind == .function&&env.kindOf n==some .cell))
|`(.(o))=>`((x==("__debug__" : Str)))
|`(.(p))=>`((ay Re kn))
|`(.(q))=>`((by decide))
|`(.(r))=>`((backTo pos (starEach es X.env)))
|`(.(s))=>`(⟨by decide,(aJ hx).symm⟩)
|`(.(t))=>`((λc=>?_))
|`(.(u))=>`((∀ U' H',N U' H'->∃ m',m'<m/\W (i+1) m' U' H'))
|`(.(v))=>`((mixM sh cs ms k))
|`(.(w))=>`((false,eval e X.env))
|`(.(x))=>`((h.push { cls:=.type "tuple",data:=.seq (List.toArray [Value.str msg t]) }))
|`(.(y))=>`((by rw[ai];lia))
|`(.(z))=>`((af ps Re c))
|`(.(A))=>`(⟨_,rfl,?_⟩)
|`(.(B))=>`((by show 0<=sizeLine;decide))
|`(.(C))=>`((.Call (.Name x p) (e::es) [] pos))
|`(.(D))=>`((as.map V.ref))
|`(.(E))=>`((af ps Re j))
|`(.(F))=>`((thn (ha pos Rf s U H _ I h) λus s1 zq0=>?_))
|`(.(G))=>`((show false=true from hs))
|`(.(H))=>`((ns.map V.int))
|`(.(I))=>`((λr=>hn (by simp[r])))
|`(.(J))=>`((b8 I q .(k)))
|`(.(K))=>`((List.range n))
|`(.(L))=>`((p.getD (m-1) 0))
|`(.(M))=>`((af ps Rc j))
|`(.(N))=>`(⟨λi m U H=>i+m=xs.length/\Pv i U H,⟨xs.length,by lia,h0⟩,λi m U H zq0=>?_⟩)
local macro_rules
|`(.(O))=>`((dv X N scope z cl C s₂ H₂ fp))
|`(.(P))=>`((.ref aR))
|`(.(Q))=>`((xs.map nV))
|`(.(R))=>`((run f (kas_desc fu p m q)))
|`(.(S))=>`((run f (kas_desc (r-(m+1)) p (m+1) 0)))
|`(.(T))=>`((by simp;lia))
|`(.(V))=>`((.lst []))
|`(.(W))=>`((sIx items.size items.size hi-sIx items.size 0 lo))
|`(.(X))=>`((EP X Rf U Q))
|`(.(Y))=>`(⟨by decide,by decide⟩)
|`(.(Z))=>`((by show 3<=sizeLine;decide))
|`(.(aa))=>`((.builtin "object.__class__"))
|`(.(ba))=>`((s.heap.push (seqObj "list" (List.toArray []) 0)))
|`(.(ca))=>`((.ref s.heap.objs.size))
|`(.(da))=>`((∃ m,W 0 m U H))
|`(.(ea))=>`((if k=0 then none else xs[k-1]?))
|`(.(fa))=>`((λ_=>?_))
|`(.(ga))=>`((dv X N scope z cl HH.objs.size s2 H2 fp))
|`(.(ha))=>`((I.ok.hd hc))
|`(.(ia))=>`((.lst us))
|`(.(ja))=>`((I.hok.fresh (aq _)))
|`(.(ka))=>`(⟨by lia,by lia⟩)
|`(.(la))=>`((bR ps k (ps.length+1)))
|`(.(ma))=>`((λ_ _=>rfl))
|`(.(na))=>`((vs.toArray.zip vs.toArray))
|`(.(oa))=>`((false,eval (.Lambda params body scope lpos) X.env))
|`(.(pa))=>`(⟨rfl,rfl⟩)
|`(.(qa))=>`((wy.getD i 0))
|`(.(ra))=>`((some ((k:Int)+2)))
|`(.(sa))=>`((he Rf s U H _ I h))
|`(.(ta))=>`((loN row x))
|`(.(ua))=>`((λz=>?_))
|`(.(va))=>`((.inl rfl))
|`(.(wa))=>`((w.getD (w.length-1) 0))
|`(.(xa))=>`((bR ps i (ps.length+1)))
|`(.(ya))=>`((.tup [.int x,.int kn]))
|`(.(za))=>`((kas_asc p (r-1) 1))
|`(.(Aa))=>`((by decide +kernel))
|`(.(Ba))=>`(⟨_,rfl⟩)
|`(.(Ca))=>`((· < ·))
local macro_rules
|`(.(Da))=>`((kvs.map (·.1)))
|`(.(Ea))=>`((.(p).map V.int))
set_option hygiene true
section
local macro_rules|`(#[$xs,*])=>`(⟨$xs,*⟩)
namespace L2
open PySem PySem.Spec PyProof.Rows
abbrev Key:=Sum Int Str
def jJ:Key->Value->Bool
  | .inl k,v=>Value.isInt k v
  | .inr x,v=>Value.isStrOf x v
def keyH (w:World):Key->Int
  | .inl k=>hashInt k
  | .inr x=>hashStr w x
def gL:∀{k:Key} {v:Value},jJ k v=true->(∃ i t,k=Sum.inl i/\v=Value.int i t)\/(∃ x t,k=Sum.inr x/\v=Value.str x t)
  | .inl i,v,h=>by
    obtain ⟨t,e⟩:=Value.isInt_shape (k:=i) (v:=v) h;exact .inl #[i,t,rfl,e]
  | .inr x,v,h=>by
    obtain ⟨t,e⟩:=Value.isStrOf_shape (x:=x) (v:=v) h;exact .inr #[x,t,rfl,e]
def E8 (i:Int)(t:Tok):jJ (.inl i) (.int i t)=true:=by simp[jJ,Value.isInt]
def E9 (x:Str)(t:Tok):jJ (.inr x) (.str x t)=true:=by simp[jJ,Value.isStrOf]
def Fb (a b:Int):decide ((Sum.inl a:Key)=Sum.inl b)=(a==b):=by
  by_cases e:a=b
  · subst e;simp
  · have h:¬ (Sum.inl a:Key)=Sum.inl b:=λq=>e (Sum.inl.inj q)
    rw[bx h];exact (beq_eq_false_iff_ne.mpr e).symm
def Fc (a b:Str):decide ((Sum.inr a:Key)=Sum.inr b)=decide (a=b):=by
  by_cases e:a=b
  · subst e;simp
  · have h:¬ (Sum.inr a:Key)=Sum.inr b:=λq=>e (Sum.inr.inj q)
    rw[bx h,bx e]
def Fd (a:Int)(b:Str):decide ((Sum.inl a:Key)=Sum.inr b)=false:=bx (λq=>nomatch q)
def Fe (a:Str)(b:Int):decide ((Sum.inr a:Key)=Sum.inl b)=false:=bx (λq=>nomatch q)
def cf (prog:Program)(w:World):PySem.KeyKind prog w Key where
  is:=jJ
  hash:=keyH w
  inj:=λv a b ha hb=>by
    rcases gL ha with ⟨i,t,rfl,rfl⟩|⟨x,t,rfl,rfl⟩
    · rcases gL hb with ⟨j,u,rfl,e⟩|⟨y,u,rfl,e⟩
      · injection e with e1 _;rw[e1]
      · exact nomatch e
    · rcases gL hb with ⟨j,u,rfl,e⟩|⟨y,u,rfl,e⟩
      · exact nomatch e
      · injection e with e1 _;rw[e1]
  byValue:=λk v h=>by
    rcases gL h with ⟨i,t,rfl,rfl⟩|⟨x,t,rfl,rfl⟩<;>rfl
  pyHash:=λhv h=>by
    rcases gL hv with ⟨i,t,rfl,rfl⟩|⟨x,t,rfl,rfl⟩
    · exact wpAny_pyHash_int h
    · exact wpAny_pyHash_str h
  eqBool:=λhu hv h=>by
    rcases gL hu with ⟨i,t,rfl,rfl⟩|⟨x,t,rfl,rfl⟩
    · rcases gL hv with ⟨j,u,rfl,rfl⟩|⟨y,u,rfl,rfl⟩
      · rw[Fb]at h;exact wpAny_eqBool_int h
      · rw[Fd]at h;exact SeqAt.EqAt.int_str i t y u _ _ _ _ h
    · rcases gL hv with ⟨j,u,rfl,rfl⟩|⟨y,u,rfl,rfl⟩
      · rw[Fe]at h;exact SeqAt.EqAt.str_int x t j u _ _ _ _ h
      · rw[Fc]at h;exact wpAny_eqBool_str h
  «strs»:=λk x t v h=>by
    rcases gL h with ⟨i,u,rfl,e⟩|⟨y,u,rfl,e⟩
    · exact nomatch e
    · injection e with e1 _
      subst e1;cases v<;>rfl
def Ff (prog:Program)(w:World)(k:Key)(v:Value):(cf prog w).is k v=jJ k v:=rfl
def Fg (prog:Program)(w:World)(i:Int)(t:Tok):(cf prog w).is (.inl i) (.int i t)=true:=E8 i t
def Fh (prog:Program)(w:World)(x:Str)(t:Tok):(cf prog w).is (.inr x) (.str x t)=true:=E9 x t
inductive V where
  | non|bl (b:Bool)|int (i:Int)|str (x:Str)|byt (b:Array UInt8)|flt (b:UInt64)|ref (a:Addr)|ty (n:String)
  deriving DecidableEq
def RelV:V->Value->Prop
  | .non,u=>u=Value.none
  | .bl b,u=>u=Value.bool b
  | .int i,u=>∃ t,u=Value.int i t
  | .str x,u=>∃ t,u=Value.str x t
  | .byt b,u=>∃ t,u=Value.bytes b t
  | .flt b,u=>∃ t,u=Value.float b t
  | .ref a,u=>u=Value.ref a
  | .ty n,u=>u=Value.type n
abbrev Vals:List V->List Value->Prop:=Paired RelV
def Vals.length {xs:List V}{us:List Value}(r:Vals xs us):xs.length=us.length:=Paired.length r
def Vals.get:∀{xs:List V} {us:List Value} {i:Nat} {x:V},Vals xs us->xs[i]?=some x->∃ u,us[i]?=some u/\RelV x u
  | _,_,_,_,.nil,e=>by simp at e
  | _,_,0,_,.cons r _,e=>by simp at e;subst e;exact #[_,rfl,r]
  | _,_,i+1,x,.cons _ t,e=>by
    obtain ⟨u,h1,h2⟩:=Vals.get (i:=i) (x:=x) t (by simpa using e);exact #[u,by simpa using h1,h2]
def Vals.set {x:V}{u:Value}(r:RelV x u):∀{xs:List V} {us:List Value} (i:Nat),Vals xs us->Vals (xs.set i x) (us.set i u)
  | _,_,_,.nil=>.nil
  | _,_,0,.cons _ t=>.cons r t
  | _,_,i+1,.cons q t=>.cons q (Vals.set r i t)
def Vals.append:∀{xs ys:List V} {us ws:List Value},Vals xs us->Vals ys ws->Vals (xs++ys) (us++ws)
  | _,_,_,_,.nil,s=>s
  | _,_,_,_,.cons r t,s=>.cons r (Vals.append t s)
def Vals.take:∀{xs:List V} {us:List Value} (n:Nat),Vals xs us->Vals (xs.take n) (us.take n)
  | _,_,0,_=>.nil
  | _,_,_+1,.nil=>.nil
  | _,_,n+1,.cons r t=>.cons r (Vals.take n t)
def Vals.drop:∀{xs:List V} {us:List Value} (n:Nat),Vals xs us->Vals (xs.drop n) (us.drop n)
  | _,_,0,r=>r
  | _,_,_+1,.nil=>.nil
  | _,_,n+1,.cons _ t=>Vals.drop n t
def RelO:Option V->Option Value->Prop
  | some v,some u=>RelV v u
  | none,none=>True
  | _,_=>False
def KV {κ:Type}:List (κ×V)->List (κ×Value)->Prop:=Paired λ(p:κ×V) (q:κ×Value)=>p.1=q.1/\RelV p.2 q.2
def kV:Key->V
  | .inl i=>.int i
  | .inr x=>.str x
inductive HO where
  | lst (xs:List V)
  | tup (xs:List V)
  | dK (kvs:List (Key×V))|dT (kvs:List (List Key×V))
  | set (S:Int->Bool) (n:Nat)
  | ins (C dx:Addr) (fs:List (Str×V))
  | own (x:Addr)
  | xd (fs:List (Str×V))
  | met (f x:Addr)
  | rng (lo hi:Int)
  | frz (o:Obj) (u:HO)
  | tbl (ps:Array Value)
  | ext (φ:Heap->Prop)
abbrev Hp:=Addr->Option HO
def upd (H:Hp)(a:Addr)(o:HO):Hp:=λb=>if b=a then some o else H b
def ag {a:Addr}:upd H a o a=some o:=by unfold upd;rw[ak rfl]
def aj {a b:Addr}(h:b≠a):upd H a o b=H b:=by unfold upd;rw[ao h]
def Fi {a:Addr}:upd (upd H a o) a u=upd H a u:=by
  funext b;unfold upd;split<;>rfl
def zV {H:Hp}{a b:Addr}{o u:HO}(h:H a=some o)(h':H b=some u)(d:o≠u):a≠b:=by
  intro e;subst e;rw[h]at h';exact d (aJ h')
def aw {H:Hp}{a b:Addr}{o:HO}(h:H a=some o)(h':H b=none):a≠b:=by
  intro e;subst e;rw[h]at h';cases h'
section
variable (P:Program)(w:World)
def bJ (H:Hp)(h:Heap)(a:Addr):HO->Prop
  | .lst xs=>xs.length<=sizeLine/\∃(its:List Value) (n:Nat),Vals xs its/\h.get? a=some { cls:=.type "list",data:=.seq its.toArray n }
  | .tup xs=>xs.length<=sizeLine/\∃ its:List Value,Vals xs its/\IsTup h a its.toArray
  | .dK kvs=>kvs.length<=sizeLine/\(a==sysModules)=false/\∃ vs,KV kvs vs/\h.DictOf (cf P w) a vs
  | .dT kvs=>kvs.length<=sizeLine/\(a==sysModules)=false/\∃ xs:List (List Key×Addr×Value),
      Paired (λ(p:List Key×V) (q:List Key×Addr×Value)=>p.1=q.1/\H q.2.1=some (.tup (p.1.map kV))/\RelV p.2 q.2.2) kvs xs/\
      ∃ o es ep,h.get? a=some o/\o.ExactDict/\o.data=.dict es ep/\es.toList=xs.map (entryOfKey (tupleKind (cf P w)))/\(xs.map (·.1)).Nodup
  | .set S n=>h.SetOf (intKind P w) a S n
  | .ins C dx fs=>H dx=some (.own a)/\fs.length<=1000/\dx≠a/\h.get? a=some (W.instObj C dx)/\
      ∃ mA,h.Ns1 dx mA/\(∀ f,RelO (fs.lookup f) (mA f))/\PySem.Within mA (fs.map (·.1))
  | .own _=>∃ o,h.get? a=some o
  | .xd fs=>∃ mA,h.Ns1 a mA/\∀ f,RelO (fs.lookup f) (mA f)
  | .rng lo hi=>∃ t u v,h.get? a=some { cls:=.type "range",data:=.fields (List.toArray [.int lo t,.int hi u,.int 1 v]) }
  | .frz o u=>h.get? a=some o/\bJ H h a u
  | .tbl ps=>h.get? a=some { cls:=.none,data:=.fields ps }
  | .met f x=>h.get? a=some (W.methodObj (.ref f) (.ref x))
  | .ext φ=>φ h/\(∃ o,h.get? a=some o)/\∀ h1 h2:Heap,φ h1->(∀ o,h1.get? a=some o->h2.get? a=some o)->φ h2
def HOk (H:Hp)(h:Heap):Prop:=∀ a o,H a=some o->bJ P w H h a o
end
section
variable {P:Program}{w:World}{H H':Hp}{h h':Heap}{a:Addr}{o:HO}
def bJ.lt (x:bJ P w H h a o):a<h.objs.size:=by
  cases o with
  | lst xs=>obtain ⟨_,_,_,_,e⟩:=x;exact aQ e
  | tup xs=>obtain ⟨_,_,_,p⟩:=x;exact p.lt
  | dK kvs=>obtain ⟨_,_,_,_,o,_,_,e,_⟩:=x;exact aQ e
  | dT kvs=>obtain ⟨_,_,_,_,o,_,_,e,_⟩:=x;exact aQ e
  | set S n=>obtain ⟨o,_,_,_,e,_⟩:=x;exact aQ e
  | ins C dx fs=>obtain ⟨_,_,_,e,_⟩:=x;exact aQ e
  | own y=>obtain ⟨_,e⟩:=x;exact aQ e
  | xd fs=>obtain ⟨_,⟨_,_,_,e,_⟩,_⟩:=x;exact aQ e
  | rng lo hi=>obtain ⟨_,_,_,e⟩:=x;exact aQ e
  | frz ob u=>obtain ⟨e,_⟩:=x;exact aQ e
  | tbl ps=>exact aQ (show h.get? a=some _ from x)
  | met f y=>exact aQ (show h.get? a=some _ from x)
  | ext φ=>obtain ⟨_,⟨_,e⟩,_⟩:=x;exact aQ e
def Paired.mapP {α β:Type}{F G:α->β->Prop}:∀{l₁:List α} {l₂:List β},Paired F l₁ l₂->(∀ a b,F a b->G a b)->Paired G l₁ l₂
  | _,_,.nil,_=>.nil
  | _,_,.cons r t,f=>.cons (f _ _ r) (Paired.mapP t f)
def bJ.stay (x:bJ P w H h a o)(k:∀ b u,(b=a\/H b=some (.own a))->h.get? b=some u->h'.get? b=some u)
    (ho:∀ b,H b=some (.own a)->H' b=some (.own a)) (ht:∀ b xs,H b=some (.tup xs)->H' b=some (.tup xs)):bJ P w H' h' a o:=by
  induction o with
  | lst xs=>obtain ⟨z,its,n,r,e⟩:=x;exact #[z,its,n,r,k _ _ .(va) e]
  | tup xs=>obtain ⟨z,its,r,ob,e,c⟩:=x;exact #[z,its,r,ob,k _ _ .(va) e,c]
  | dK kvs=>obtain ⟨z,y,vs,r,ob,es,ep,e,c⟩:=x;exact #[z,y,vs,r,ob,es,ep,k _ _ .(va) e,c]
  | dT kvs=>
    obtain ⟨z,y,xs,r,ob,es,ep,e,c⟩:=x;exact #[z,y,xs,Paired.mapP r λp q z=>#[z.1,ht _ _ z.2.1,z.2.2],ob,es,ep,k _ _ .(va) e,c]
  | set S n=>obtain ⟨ob,es,ep,t,e,c⟩:=x;exact #[ob,es,ep,t,k _ _ .(va) e,c]
  | ins C dx fs=>
    obtain ⟨d,z,ne,e,mA,⟨od,es,ep,e2,c⟩,r⟩:=x;exact #[ho _ d,z,ne,k _ _ .(va) e,mA,#[od,es,ep,k _ _ (.inr d) e2,c],r]
  | own y=>obtain ⟨ob,e⟩:=x;exact #[ob,k _ _ .(va) e]
  | xd fs=>obtain ⟨mA,⟨od,es,ep,e,c⟩,r⟩:=x;exact #[mA,#[od,es,ep,k _ _ .(va) e,c],r]
  | rng lo hi=>obtain ⟨t,u,v,e⟩:=x;exact #[t,u,v,k _ _ .(va) e]
  | frz ob u ih=>obtain ⟨e,q⟩:=x;exact #[k _ _ .(va) e,ih q]
  | tbl ps=>
    have e:h.get? a=some { cls:=.none,data:=.fields ps }:=x;show h'.get? a=some { cls:=.none,data:=.fields ps };exact k a _ .(va) e
  | met f y=>
    have e:h.get? a=some (W.methodObj (.ref f) (.ref y)):=x;show h'.get? a=some (W.methodObj (.ref f) (.ref y));exact k a _ .(va) e
  | ext φ=>obtain ⟨p,⟨o,e⟩,st⟩:=x;exact #[st _ _ p λo q=>k _ _ .(va) q,#[o,k _ _ .(va) e],st]
def HOk.lt (x:HOk P w H h)(e:H a=some o):a<h.objs.size:=(x a o e).lt
def HOk.fresh (x:HOk P w H h)(e:h.objs.size<=a):H a=none:=by
  cases q:H a with
  | none=>rfl
  | some u=>exact absurd (cn (x.lt q) e) (d5 _)
def HOk.kept (x:HOk P w H h)(k:∀ b u,h.get? b=some u->h'.get? b=some u):HOk P w H h':=λa o e=>
  (x a o e).stay (λb u _ q=>k b u q) (λ_ q=>q) λ_ _ q=>q
def HOk.laid (x:HOk P w H h)(k:∀ b u,h.get? b=some u->h'.get? b=some u)(hp:h.objs.size<=a)(new:bJ P w (upd H a o) h' a o):HOk P w (upd H a o) h':=λb u e=>by
  have hn:=x.fresh hp;by_cases hb:b=a
  · subst hb;rw[ag]at e;cases e;exact new
  · rw[aj hb]at e
    exact (x b u e).stay (λc v _ q=>k c v q) (λc q=>by rw[aj (aw q hn)];exact q) λc xs q=>by rw[aj (aw q hn)];exact q
end
def Rd (H:Hp)(a:Addr)(u:HO):Prop:=H a=some u\/∃ o,H a=some (.frz o u)
def Rd.ok {w:World}{h:Heap}{a:Addr}(r:Rd H a u)(x:HOk P w H h):bJ P w H h a u:=by
  rcases r with r|⟨o,r⟩
  · exact x a u r
  · obtain ⟨_,q⟩:=x a _ r
    exact q
def Mut:Option HO->Prop
  | some (.lst _)=>True
  | some (.dK _)=>True
  | some (.dT _)=>True
  | some (.set _ _)=>True
  | some (.ins _ _ _)=>True
  | some (.ext _)=>True
  | _=>False
section
variable {P:Program}{w:World}{H:Hp}{h h':Heap}{x e:Addr}{o':HO}
def HOk.write (ok:HOk P w H h)(mu:Mut (H x))(he:e=x\/H e=some (.own x))(k:∀ b u,b≠e->h.get? b=some u->h'.get? b=some u)(heo:∃ u,h'.get? e=some u)
    (new:bJ P w (upd H x o') h' x o'):HOk P w (upd H x o') h':=λb u q=>by
  have nown:∀ c y,H c=some (.own y)->c≠x:=λc y r z=>by subst z;rw[r]at mu;exact mu
  have ntup:∀ c xs,H c=some (.tup xs)->c≠x:=λc xs r z=>by subst z;rw[r]at mu;exact mu
  by_cases hb:b=x
  · subst hb;rw[ag]at q;cases q;exact new
  · rw[aj hb]at q
    by_cases hbe:b=e
    · have q':H b=some (.own x):=by
        rcases he with z|z
        · exact absurd (hbe.trans z) hb
        · rw[hbe];exact z
      rw[q]at q';cases q'
      obtain ⟨v,hv⟩:=heo;exact #[v,by rw[hbe];exact hv]
    · refine (ok b u q).stay (λc v hc r=>k c v ?_ r) (λc r=>by rw[aj (nown c b r)];exact r) λc xs r=>by rw[aj (ntup c xs r)];exact r
      rcases hc with rfl|hc
      · exact hbe
      · rintro rfl
        rcases he with z|z
        · exact nown c b hc z
        · rw[hc]at z;cases z;exact hb rfl
end
structure Un (fs ex:List Addr)(H H':Hp)(h h':Heap):Prop where
  keep:∀ b o,h.get? b=some o->H b=none->b∉fs->b∉ex->h'.get? b=some o
  slot:∀ b o,h.get? b=some o->H b=none->b∈fs->b∉ex->∃ sl,h'.get? b=some { o with slots:=sl }
  free:∀ b o,h.get? b=some o->H b=none->b∉ex->H' b=none
  there:∀ b o,h.get? b=some o->b∉ex->∃ o',h'.get? b=some o'
  tups:∀ b xs,H b=some (.tup xs)->H' b=some (.tup xs)
  frzs:∀ b o u,H b=some (.frz o u)->H' b=some (.frz o u)
  tbls:∀ b ps,H b=some (.tbl ps)->∃ more,H' b=some (.tbl (ps++more))
section
variable {fs fs' ex ex':List Addr}{H H1 H2:Hp}{h h1 h2 h':Heap}{a x e:Addr}{o:HO}
def Un.any (u:Un fs ex H H1 h h1){b:Addr}{ob:Obj}(q:h.get? b=some ob)(n:H b=none)(hx:b∉ex):∃ sl,h1.get? b=some { ob with slots:=sl }:=by
  by_cases hb:b∈fs
  · exact u.slot b ob q n hb hx
  · exact #[ob.slots,u.keep b ob q n hb hx]
def Un.kept (k:∀ b u,h.get? b=some u->h'.get? b=some u):Un fs ex H H h h':=
  #[λb ob q _ _ _=>k b ob q,λb ob q _ _ _=>#[ob.slots,k b ob q],λ_ _ _ n _=>n,λb ob q _=>#[ob,k b ob q],λ_ _ q=>q,λ_ _ _ q=>q,λ_ ps q=>#[(List.toArray []),by rw[q];simp]]
def Un.refl:Un fs ex H H h h:=Un.kept λ_ _ q=>q
def Un.laid (k:∀ b u,h.get? b=some u->h'.get? b=some u)(hp:h.objs.size<=a)(hn:H a=none):Un fs ex H (upd H a o) h h' where
  keep:=λb u q _ _ _=>k b u q
  slot:=λb u q _ _ _=>#[u.slots,k b u q]
  free:=λb u q n _=>by rw[aj (bK (cn (aQ q) hp))];exact n
  there:=λb u q _=>#[u,k b u q]
  tups:=λb xs q=>by rw[aj (aw q hn)];exact q
  frzs:=λb u xs q=>by rw[aj (aw q hn)];exact q
  tbls:=λb ps q=>#[(List.toArray []),by rw[aj (aw q hn),q];simp]
def Un.write (mu:Mut (H x))(he:e=x\/H e=some (.own x))(k:∀ b u,b≠e->h.get? b=some u->h'.get? b=some u)(heo:∃ u,h'.get? e=some u):Un fs ex H (upd H x o) h h':=by
  have hx:∀ b,H b=none->b≠x:=λb n z=>by subst z;rw[n]at mu;exact mu
  have hb:∀ b,H b=none->b≠e:=λb n z=>by
    subst z;rcases he with r|r
    · exact hx b n r
    · rw[n]at r;cases r
  have hm:∀ b u,H b=some u->¬ Mut (some u)->b≠x:=λb u q nm z=>by subst z;rw[q]at mu;exact nm mu
  refine #[λb u q n _ _=>k b u (hb b n) q,λb u q n _ _=>#[u.slots,k b u (hb b n) q],λb u q n _=>by rw[aj (hx b n)];exact n,λb u q _=>?_,
    λb xs q=>by rw[aj (hm b _ q λz=>z)];exact q,λb u xs q=>by rw[aj (hm b _ q λz=>z)];exact q,λb ps q=>#[(List.toArray []),by rw[aj (hm b _ q λz=>z),q];simp]]
  by_cases hbe:b=e
  · subst hbe;exact heo
  · exact #[u,k b u hbe q]
end
def trk (h:Heap)(H:Hp):List Addr:=(List.range h.objs.size).filter λa=>(H a).isSome
def hidT (h:Heap)(H:Hp):Heap:=W.hideAll h (trk h H)
def Fj (h:Heap)(H:Hp):(hidT h H).objs.size=h.objs.size:=W.hideAll_size _ _
def Fk {h:Heap}{H:Hp}{b:Addr}{o:Obj}(e:h.get? b=some o)(n:H b=none):(hidT h H).get? b=some o:=
  W.hideAll_get _ e λhm=>by
    have q:(H b).isSome=true:=(d6.mp hm).2;rw[n]at q;simp at q
def Fl {b:Addr}{o:Obj}(e:(hidT h H).get? b=some o):h.get? b=some o/\H b=none:=by
  have e':h.get? b=some o:=W.of_hideAll (trk h H) e;refine #[e',?_];cases q:H b with
  | none=>rfl
  | some x=>
    have hm:b∈trk h H:=d6.mpr #[d7.mpr (aQ e'),by simp[q]];have z:(hidT h H).get? b=none:=W.hideAll_none (trk h H) hm;rw[z]at e;cases e
def Fm (g h:Heap)(L:Addr):List (Addr×Obj):=(List.range h.objs.size).filterMap λa=>if a=L\/(g.get? a).isSome=true then none else (h.get? a).map λo=>(a,o)
def rest (g h:Heap)(L d:Addr):List (Addr×Obj):=(Fm g h L).filter λp=>decide (p.1≠d)
structure Mod (K:Frag)(mg:Str->Option Value)(base:Heap):Prop where
  kin:K.In base
  glob:base.Ns mainGlobals mg
  blt:∃ mb,base.Ns builtinsNs mb/\∀ x:Str,x ≠ "__name__"->mb x=bootBuiltins x
  nolimit:base.NoLimit
structure Cx where
  prog:Program
  w:World
  K:Frag
  mg:Str->Option Value
  base:Heap
  A:Around
  N:List Str
  s₀:Shared
  H₀:Hp
  env:Env
  outer:List Env
  stack:List Env
  ex:List Addr
  fn:Str->Bool
  calm:Bool
  pn:List (Addr×Obj)
  xe:Value->Shared->Prop
def frs (l:List Env):List Addr:=l.filterMap (·.frame)
abbrev Cx.fs (X:Cx):List Addr:=frs X.outer
def Vis (sc:Scope)(x:Str):Prop:=sc.names.lookup x=some .local\/sc.names.lookup x=some .cell\/sc.names.lookup x=some .free
def Loc (sc:Scope)(x:Str):Prop:=sc.names.lookup x=some .local\/sc.names.lookup x=some .cell
def Look (env:Env)(h:Heap)(m:Str->Option Value)(x:Str)(u:Value):Prop:=
  (env.kindOf x=some .local/\m x=some u)\/((env.kindOf x=some .cell\/env.kindOf x=some .free)/\∃ c,env.cells.lookup x=some c/\h.IsCell c (some u))
structure Cx.Ok (X:Cx):Prop where
  mod:Mod X.K X.mg X.base
  kind:X.env.scope.kind=.function
  glob:X.env.globals=mainGlobals
  blt:X.env.builtins=builtinsNs
  above:X.s₀.heap.objs.size<=X.env.locals
  inj:∀ x y c,X.env.cells.lookup x=some c->X.env.cells.lookup y=some c->x=y
  has:∀ x,(X.env.kindOf x=some .cell\/X.env.kindOf x=some .free)->∃ c,X.env.cells.lookup x=some c
  cab:∀ x c,X.fn x=true->X.env.cells.lookup x=some c->X.s₀.heap.objs.size<=c
  hd:X.calm=true->X.A.handled=none
  frames:X.A.frames=some X.stack
  stk:X.stack=X.outer\/(X.stack=X.env::X.outer/\X.env.frame=some X.env.locals)
  exf:∀ b∈X.ex,b≠X.env.locals/\∀ x c,X.env.cells.lookup x=some c->c≠b
  bs:∀ b o,X.base.get? b=some o->X.s₀.heap.get? b=some o/\X.H₀ b=none
  bsz:X.base.objs.size<=X.s₀.heap.objs.size
  noex:∀ b o,X.base.get? b=some o->b∉X.ex
  exfs:∀ b∈X.ex,b∉X.fs
  funs:X.s₀.heap.FunFrames X.base X.outer
  frf:∀ b∈X.fs,X.H₀ b=none
structure Inv (X:Cx)(Rf:List (Addr×Obj))(U:List (Option V))(H:Hp)(s:Shared):Prop where
  ok:X.Ok
  os:s.os=X.s₀.os
  bare:AllBare s.gens
  base:Un X.fs X.ex X.H₀ H X.s₀.heap s.heap
  loc:∃ m,s.heap.Ns X.env.locals m/\∀(i:Nat) (x:Str) (v:V),X.N[i]?=some x->U[i]?=some (some v)->Vis X.env.scope x->∃ u,RelV v u/\Look X.env s.heap m x u
  cell:∀ x c,X.env.cells.lookup x=some c->∃ v,s.heap.IsCell c v
  free:H X.env.locals=none
  freeC:∀ x c,X.env.cells.lookup x=some c->H c=none
  pin:∀ p∈X.pn++Rf,s.heap.get? p.1=some p.2/\H p.1=none/\p.1≠X.env.locals/\p.1∉X.fs/\∀ v,p.2.data≠.cell v
  hok:HOk X.prog X.w H s.heap
  len:U.length=X.N.length
section
variable {X:Cx}{Rf:List (Addr×Obj)}{U:List (Option V)}{H H':Hp}{s:Shared}{h':Heap}
def Cx.Ok.nofr (ok:X.Ok){b:Addr}{o:Obj}(e:X.base.get? b=some o):b∉X.fs:=λhb=>by
  have:=(ok.funs.mem hb).1;rw[e]at this;cases this
def Inv.bs (I:Inv X Rf U H s):∀ b o,X.base.get? b=some o->s.heap.get? b=some o/\H b=none:=λb o e=>
  #[I.base.keep b o (I.ok.bs b o e).1 (I.ok.bs b o e).2 (I.ok.nofr e) (I.ok.noex b o e),I.base.free b o (I.ok.bs b o e).1 (I.ok.bs b o e).2 (I.ok.noex b o e)]
def Inv.bk (I:Inv X Rf U H s):∀ b o,X.base.get? b=some o->s.heap.get? b=some o:=λb o e=>(I.bs b o e).1
def Inv.mod (I:Inv X Rf U H s):Mod X.K X.mg X.base:=I.ok.mod
def Inv.kIn (I:Inv X Rf U H s):X.K.In s.heap:=I.ok.mod.kin.keeps I.bk
def Inv.lt (I:Inv X Rf U H s):X.env.locals<s.heap.objs.size:=let ⟨_,hn,_⟩:=I.loc;hn.lt
def Inv.sz (I:Inv X Rf U H s):X.s₀.heap.objs.size<=s.heap.objs.size:=bW I.ok.above (eS I.lt)
def Inv.nofs (I:Inv X Rf U H s){a:Addr}(h:s.heap.objs.size<=a):a∉X.fs:=λhb=>by
  obtain ⟨_,o,ho,_⟩:=I.ok.funs.mem hb;exact absurd (cn (aQ ho) (bW I.sz h)) (d5 _)
def Inv.cne (I:Inv X Rf U H s):∀ x c,X.env.cells.lookup x=some c->c≠X.env.locals:=λx c e z=>by
  obtain ⟨v,o,ho,hd⟩:=I.cell x c e;obtain ⟨m,⟨o',es,ep,ho',hd',_⟩,_⟩:=I.loc;rw[z,ho']at ho;cases ho;rw[hd']at hd;cases hd
def Inv.funs (I:Inv X Rf U H s):s.heap.FunFrames X.base X.outer:=by
  have all:∀(l:List Env),(∀ b∈frs l,b∈X.fs)->X.s₀.heap.FunFrames X.base l->s.heap.FunFrames X.base l:=by
    intro l
    induction l with
    | nil=>intro _ _;trivial
    | cons env r ih=>
      intro hs hl;obtain ⟨hk,⟨L,o,hf,hn,ho,hd⟩,hr⟩:=hl;have hL:L∈X.fs:=hs L (by unfold frs;rw[kg,hf];exact bZ);obtain ⟨sl,e⟩:=I.base.slot L o ho (I.ok.frf L hL) hL λz=>I.ok.exfs L z hL;exact #[hk,#[L,_,hf,hn,e,hd],ih (λb hb=>hs b (by unfold frs;rw[kg,hf];exact bP _ hb)) hr]
  exact all X.outer (λ_ hb=>hb) I.ok.funs
def Inv.stack (I:Inv X Rf U H s):s.heap.FunFrames X.base X.stack:=by
  rcases I.ok.stk with e|⟨e,hf⟩
  · rw[e];exact I.funs
  · rw[e]
    obtain ⟨m,hn,_⟩:=I.loc;refine .cons (by rw[I.ok.kind];decide) hf hn ?_ I.funs;exact Heap.get?_none_of_le (bW I.ok.bsz I.ok.above)
def Inv.stkSub (I:Inv X Rf U H s):∀ b∈frs X.stack,b∈X.env.locals::X.fs:=λb hb=>by
  rcases I.ok.stk with e|⟨e,hf⟩
  · rw[e]at hb;exact bP _ hb
  · rw[e]at hb
    unfold frs at hb;rw[kg,hf]at hb;exact hb
def Inv.stkFree (I:Inv X Rf U H s):∀ b∈frs X.stack,H b=none:=λb hb=>by
  rcases aU.mp (I.stkSub b hb) with e|hb
  · rw[e];exact I.free
  · obtain ⟨_,o,ho,_⟩:=I.ok.funs.mem hb
    exact I.base.free b o ho (I.ok.frf b hb) λz=>I.ok.exfs b z hb
def Inv.step {g':Array GenState}{t':Nat}{d':Drawn}{ch:List Addr}(I:Inv X Rf U H s)
    (hch:∀ b∈ch,(b∈X.ex\/X.s₀.heap.objs.size<=b)/\b≠X.env.locals/\(∀ x c,X.env.cells.lookup x=some c->c≠b)/\∀ p∈X.pn++Rf,p.1≠b)
    (keep:∀ b o,b≠X.env.locals->b∉X.fs->b∉ch->s.heap.get? b=some o->H b=none->h'.get? b=some o)
    (slot:∀ b o,b≠X.env.locals->b∈X.fs->b∉ch->s.heap.get? b=some o->H b=none->∃ sl,h'.get? b=some { o with slots:=sl }) (free:∀ b o,b∉ch->s.heap.get? b=some o->H b=none->H' b=none)
    (there:∀ b o,b∉ch->s.heap.get? b=some o->∃ o',h'.get? b=some o')
    (tups:∀ b xs,H b=some (.tup xs)->H' b=some (.tup xs)) (frzs:∀ b o u,H b=some (.frz o u)->H' b=some (.frz o u)) (tbls:∀ b ps,H b=some (.tbl ps)->∃ more,H' b=some (.tbl (ps++more)))
    (ns:∀ m,s.heap.Ns X.env.locals m->h'.Ns X.env.locals m) (hok:HOk X.prog X.w H' h') (hg:AllBare g') :
    Inv X Rf U H' { s with heap:=h',gens:=g',drawn:=d',toks:=t' }:=by
  have neL:∀ b o,X.s₀.heap.get? b=some o->b≠X.env.locals:=λb o e=>bK (cn (aQ e) I.ok.above);have neC:∀ b o,X.s₀.heap.get? b=some o->b∉X.ex->b∉ch:=λb o e hx hb=>by
    rcases (hch b hb).1 with z|z
    · exact hx z
    · exact absurd (cn (aQ e) z) (d5 _)
  have cellK:∀ x c,X.env.cells.lookup x=some c->∀ v,s.heap.IsCell c v->h'.IsCell c v:=λx c e v ⟨o,ho,hd⟩=>by
    have nch:c∉ch:=λz=>(hch c z).2.2.1 x c e rfl;by_cases hc:c∈X.fs
    · obtain ⟨sl,q⟩:=slot c o (I.cne x c e) hc nch ho (I.freeC x c e)
      exact #[_,q,hd]
    · exact #[o,keep c o (I.cne x c e) hc nch ho (I.freeC x c e),hd]
  refine #[I.ok,I.os,hg,#[λb o e n hb hx=>?_,λb o e n hb hx=>?_,λb o e n hx=>?_,λb o e hx=>?_,λb xs e=>tups b xs (I.base.tups b xs e),λb o xs e=>frzs b o xs (I.base.frzs b o xs e),λb ps e=>?_],?_,λx c e=>?_,?_,λx c e=>?_,λp hp=>?_,hok,I.len]
  · exact keep b o (neL b o e) hb (neC b o e hx) (I.base.keep b o e n hb hx) (I.base.free b o e n hx)
  · obtain ⟨sl,e1⟩:=I.base.slot b o e n hb hx
    obtain ⟨sl',e2⟩:=slot b _ (neL b o e) hb (neC b o e hx) e1 (I.base.free b o e n hx);exact #[sl',e2]
  · obtain ⟨o',e1⟩:=I.base.there b o e hx
    exact free b o' (neC b o e hx) e1 (I.base.free b o e n hx)
  · obtain ⟨o',e1⟩:=I.base.there b o e hx
    exact there b o' (neC b o e hx) e1
  · obtain ⟨m1,e1⟩:=I.base.tbls b ps e
    obtain ⟨m2,e2⟩:=tbls b _ e1;exact #[m1++m2,by rw[e2,Array.append_assoc]]
  · obtain ⟨m,hn,hl⟩:=I.loc
    refine #[m,ns m hn,λi x v e1 e2 e3=>?_];obtain ⟨u,r,l⟩:=hl i x v e1 e2 e3;refine #[u,r,?_];rcases l with l|⟨k,c,e,z⟩
    · exact .inl l
    · exact .inr #[k,c,e,cellK x c e _ z]
  · obtain ⟨v,z⟩:=I.cell x c e
    exact #[v,cellK x c e v z]
  · obtain ⟨m,⟨o,_,_,ho,_⟩,_⟩:=I.loc
    exact free _ o (λz=>(hch _ z).2.1 rfl) ho I.free
  · obtain ⟨v,o,ho,hd⟩:=I.cell x c e
    exact free c o (λz=>(hch c z).2.2.1 x c e rfl) ho (I.freeC x c e)
  · obtain ⟨e,n,ne,nf,d⟩:=I.pin p hp
    have nch:p.1∉ch:=λz=>(hch p.1 z).2.2.2 p hp rfl;exact #[keep p.1 p.2 ne nf nch e n,free p.1 p.2 nch e n,ne,nf,d]
def Inv.un {t':Nat}(I:Inv X Rf U H s)(u:Un X.fs [] H H' s.heap h')(hok:HOk X.prog X.w H' h'):Inv X Rf U H' { s with heap:=h',toks:=t' }:=by
  obtain ⟨m,⟨o,es,ep,ho,r⟩,_⟩:=id I.loc;obtain ⟨sl,hL⟩:=u.any ho I.free (by simp);exact I.step (g':=s.gens) (d':=s.drawn) (ch:=[]) (λ_ z=>nomatch z) (λb o _ hb _ e n=>u.keep b o e n hb (by simp)) (λb o _ hb _ e n=>u.slot b o e n hb (by simp)) (λb o _ e n=>u.free b o e n (by simp)) (λb o _ e=>u.there b o e (by simp)) u.tups u.frzs u.tbls (λm' hm=>by
    obtain ⟨o',es',ep',ho',r'⟩:=hm;rw[ho]at ho';cases ho'
    exact #[_,es',ep',hL,r']) hok I.bare
def Inv.call {g':Array GenState}{t':Nat}{d':Drawn}{ch:List Addr}(I:Inv X Rf U H s)(u:Un (frs X.stack) ch H H' s.heap h')(hok:HOk X.prog X.w H' h')(hg:AllBare g')
    (hch:∀ b∈ch,(b∈X.ex\/X.s₀.heap.objs.size<=b)/\b≠X.env.locals/\(∀ x c,X.env.cells.lookup x=some c->c≠b)/\∀ p∈X.pn++Rf,p.1≠b) :
    Inv X Rf U H' { s with heap:=h',gens:=g',drawn:=d',toks:=t' }:=by
  obtain ⟨m,⟨o,es,ep,ho,r⟩,_⟩:=id I.loc;obtain ⟨sl,hL⟩:=u.any ho I.free λz=>(hch _ z).2.1 rfl;exact I.step (ch:=ch) hch (λb o hL hb hc e n=>u.keep b o e n (λz=>(aU.mp (I.stkSub b z)).elim hL hb) hc) (λb o _ _ hc e n=>u.any e n hc) (λb o hc e n=>u.free b o e n hc) (λb o hc e=>u.there b o e hc) u.tups u.frzs u.tbls (λm' hm=>by
    obtain ⟨o',es',ep',ho',r'⟩:=hm;rw[ho]at ho';cases ho'
    exact #[_,es',ep',hL,r']) hok hg
def Inv.turned {t':Nat}{it:Addr}(I:Inv X Rf U H s)(k:∀ b o,b≠it->s.heap.get? b=some o->h'.get? b=some o)(hn:H it=none)(hL:it≠X.env.locals)
    (h1:it∈X.ex\/X.s₀.heap.objs.size<=it) (h2:∀ x c,X.env.cells.lookup x=some c->c≠it) (h3:∀ p∈X.pn++Rf,p.1≠it):Inv X Rf U H { s with heap:=h',toks:=t' }:=by
  have nit:∀ b u,H b=some u->b≠it:=λb u e z=>by rw[z,hn]at e;cases e
  refine I.step (g':=s.gens) (d':=s.drawn) (ch:=[it]) (λb hb=>?_) (λb o _ _ hc e _=>k b o (λz=>hc (by simp[z])) e) (λb o _ _ hc e _=>#[o.slots,k b o (λz=>hc (by simp[z])) e]) (λ_ _ _ _ n=>n)
    (λb o hc e=>#[o,k b o (λz=>hc (by simp[z])) e]) (λ_ _ e=>e) (λ_ _ _ e=>e) (λb ps e=>#[(List.toArray []),by rw[e];simp]) (λm hm=>?_) (λb u e=>?_) I.bare
  · have e:b=it:=by simpa using hb
    subst e;exact #[h1,hL,h2,h3]
  · obtain ⟨o,es,ep,ho,r⟩:=hm
    exact #[o,es,ep,k _ o (bt hL) ho,r]
  · refine (I.hok b u e).stay (λc v hc q=>k c v ?_ q) (λ_ q=>q) λ_ _ q=>q
    rcases hc with z|z
    · rw[z];exact nit b u e
    · exact nit c _ z
def Inv.tok (I:Inv X Rf U H s)(t:Nat):Inv X Rf U H { s with toks:=t }:=I.un (h':=s.heap) (t':=t) Un.refl I.hok
def Inv.kept {t':Nat}(I:Inv X Rf U H s)(k:∀ b u,s.heap.get? b=some u->h'.get? b=some u):Inv X Rf U H { s with heap:=h',toks:=t' }:=I.un (Un.kept k) (I.hok.kept k)
def Inv.laid {a:Addr}{t':Nat}(I:Inv X Rf U H s)(k:∀ b u,s.heap.get? b=some u->h'.get? b=some u)(hp:s.heap.objs.size<=a)(new:bJ X.prog X.w (upd H a o) h' a o) :
    Inv X Rf U (upd H a o) { s with heap:=h',toks:=t' }:=I.un (Un.laid k hp (I.hok.fresh hp)) (I.hok.laid k hp new)
def Inv.write {x e:Addr}{t':Nat}(I:Inv X Rf U H s)(mu:Mut (H x))(he:e=x\/H e=some (.own x))(k:∀ b u,b≠e->s.heap.get? b=some u->h'.get? b=some u)(heo:∃ u,h'.get? e=some u)
    (new:bJ X.prog X.w (upd H x o) h' x o):Inv X Rf U (upd H x o) { s with heap:=h',toks:=t' }:=I.un (Un.write mu he k heo) (I.hok.write mu he k heo new)
def Inv.pins_of {pins':List (Addr×Obj)}(I:Inv X Rf U H s)(h:∀ p∈pins',s.heap.get? p.1=some p.2/\H p.1=none/\p.1≠X.env.locals/\p.1∉X.fs/\∀ v,p.2.data≠.cell v):Inv X pins' U H s:=
  #[I.ok,I.os,I.bare,I.base,I.loc,I.cell,I.free,I.freeC,λp hp=>(bX.mp hp).elim (λz=>I.pin p (List.mem_append_left _ z)) (h p),I.hok,I.len]
def uH {N:List Str}(hN:N.Nodup){i j:Nat}{x:Str}(a:N[i]?=some x)(b:N[j]?=some x):i=j:=by
  obtain ⟨h1,e1⟩:=aT.mp a;obtain ⟨h2,e2⟩:=aT.mp b;exact (List.getElem_inj hN).mp (e1.trans e2.symm)
def zW {M:Model}{A:Around}{E:Value->Shared->Prop}{i:Nat}{x:Str}{v:V}{u:Value}{Q:Unit->Shared->Prop}(I:Inv X Rf U H s)(hN:X.N.Nodup)(hi:X.N[i]?=some x)(hx:Loc X.env.scope x)(r:RelV v u)
    (h:∀ s',Inv X Rf (U.set i (some v)) H s'->(∃ a,Heap.SameBut a s.heap s'.heap/\(a=X.env.locals\/X.env.cells.lookup x=some a))->Q () s') (hf:X.fn x=true\/X.env.scope.names.lookup x=some .local:=by first|exact .inl rfl|exact .inr rfl|assumption):wpAny M A (storeName X.env x u) Q E s:=by
  obtain ⟨m,hn,hl⟩:=id I.loc;have hcls:(X.env.scope.kind == .class||(X.env.scope.kind == .module&&X.env.locals != X.env.globals))=false:=by rw[I.ok.kind];rfl
  have hiσ:i<U.length:=by rw[I.len];exact (aT.mp hi).1
  have cne:=I.cne;have tracked:∀{a:Addr} {h':Heap},(∃ o,s.heap.get? a=some o/\H a=none)->Heap.SameBut a s.heap h'->HOk X.prog X.w H h':=λ{a h'} ha hs b ob e=>by
    obtain ⟨_,_,hfree⟩:=ha;refine (I.hok b ob e).stay (λc w' hc q=>(hs.2 c ?_).trans q) (λ_ q=>q) λ_ _ q=>q;rintro rfl;rcases hc with rfl|hc
    · rw[hfree]at e;cases e
    · rw[hfree]at hc;cases hc
  rcases hx with hk|hk
  · refine wpAny_storeName_local hk hn (λh' hn' hs=>?_) hcls
    obtain ⟨oL,_,_,hoL,_⟩:=id hn;refine h _ #[I.ok,I.os,I.bare,#[λb o e n hb hx=>?_,λb o e n hb hx=>?_,I.base.free,λb o e hx=>?_,I.base.tups,I.base.frzs,I.base.tbls],#[_,hn',λj y v' e1 e2 e3=>?_],λy c e=>?_,I.free,I.freeC,λp hp=>?_,tracked #[oL,hoL,I.free] hs,by simpa using I.len] #[_,hs,.inl rfl]
    · exact (hs.2 b (bK (cn (aQ e) I.ok.above))).trans (I.base.keep b o e n hb hx)
    · obtain ⟨sl,e1⟩:=I.base.slot b o e n hb hx
      exact #[sl,(hs.2 b (bK (cn (aQ e) I.ok.above))).trans e1]
    · obtain ⟨o',e1⟩:=I.base.there b o e hx
      exact #[o',(hs.2 b (bK (cn (aQ e) I.ok.above))).trans e1]
    · by_cases hj:j=i
      · subst hj
        rw[hi]at e1;cases e1
        rw[List.getElem?_set_self hiσ]at e2;cases e2
        exact #[u,r,.inl #[hk,by simp]]
      · rw[uw (bt hj)]at e2
        obtain ⟨u',r',q⟩:=hl j y v' e1 e2 e3;refine #[u',r',?_];rcases q with ⟨k,e⟩|⟨k,c,e,z⟩
        · refine .inl #[k,?_]
          have:y≠x:=λe=>hj (uH hN e1 (e ▸ hi));simp[this,e]
        · exact .inr #[k,c,e,z.sameBut hs (cne y c e)]
    · obtain ⟨w',z⟩:=I.cell y c e
      exact #[w',z.sameBut hs (cne y c e)]
    · obtain ⟨e,n,ne,nf,d⟩:=I.pin p hp
      exact #[(hs.2 p.1 ne).trans e,n,ne,nf,d]
  · have hfn:X.fn x=true:=by
      rcases hf with z|z
      · exact z
      · rw[z]at hk;cases hk
    obtain ⟨c,hc⟩:=I.ok.has x (.inl hk);obtain ⟨w',z⟩:=I.cell x c hc;refine wpAny_storeName_cell I.ok.kind hk hc z (λh' hc' hs=>?_);obtain ⟨oc,hoc,hocd⟩:=id z;refine h { s with heap:=h' } #[I.ok,I.os,I.bare,#[λb o e n hb hx=>?_,λb o e n hb hx=>?_,I.base.free,λb o e hx=>?_,I.base.tups,I.base.frzs,I.base.tbls],#[m,hn.sameBut hs (bt (cne x c hc)),λj y v' e1 e2 e3=>?_],λy c' e=>?_,I.free,I.freeC,λp hp=>?_,tracked #[oc,hoc,I.freeC x c hc] hs,by simpa using I.len] #[c,hs,.inr hc]
    · exact (hs.2 b (bK (cn (aQ e) (I.ok.cab x c hfn hc)))).trans (I.base.keep b o e n hb hx)
    · obtain ⟨sl,e1⟩:=I.base.slot b o e n hb hx
      exact #[sl,(hs.2 b (bK (cn (aQ e) (I.ok.cab x c hfn hc)))).trans e1]
    · obtain ⟨o',e1⟩:=I.base.there b o e hx
      exact #[o',(hs.2 b (bK (cn (aQ e) (I.ok.cab x c hfn hc)))).trans e1]
    · by_cases hj:j=i
      · subst hj
        rw[hi]at e1;cases e1
        rw[List.getElem?_set_self hiσ]at e2;cases e2
        exact #[u,r,.inr #[.inl hk,c,hc,hc']]
      · rw[uw (bt hj)]at e2
        obtain ⟨u',r',q⟩:=hl j y v' e1 e2 e3;refine #[u',r',?_];rcases q with q|⟨k,c',e,z'⟩
        · exact .inl q
        · refine .inr #[k,c',e,z'.sameBut hs ?_]
          rintro rfl;exact hj (uH hN e1 (I.ok.inj _ _ _ e hc ▸ hi))
    · by_cases hcc:c'=c
      · subst hcc;exact #[_,hc']
      · obtain ⟨w2,z2⟩:=I.cell y c' e
        exact #[w2,z2.sameBut hs hcc]
    · obtain ⟨e,n,ne,nf,d⟩:=I.pin p hp
      refine #[(hs.2 p.1 ?_).trans e,n,ne,nf,d];intro q;rw[q,hoc]at e;have q':oc=p.2:=aJ e;exact d w' (by rw[<-q'];exact hocd)
def uI {M:Model}{A:Around}{E:Value->Shared->Prop}{i:Nat}{x:Str}{v:V}{u:Value}{Q:Unit->Shared->Prop}(I:Inv X Rf U H s)(hN:X.N.Nodup)(hi:X.N[i]?=some x)(hx:Loc X.env.scope x)(r:RelV v u)
    (h:∀ s',Inv X Rf (U.set i (some v)) H s'->Q () s') (hf:X.fn x=true\/X.env.scope.names.lookup x=some .local:=by first|exact .inl rfl|exact .inr rfl|assumption):wpAny M A (storeName X.env x u) Q E s:=
  zW I hN hi hx r (λs' I' _=>h s' I') hf
def Inv.call' {s':Shared}{ch:List Addr}(I:Inv X Rf U H s)(ho:s'.os=s.os)(u:Un (frs X.stack) ch H H' s.heap s'.heap)(hok:HOk X.prog X.w H' s'.heap)(hg:AllBare s'.gens)
    (hch:∀ b∈ch,(b∈X.ex\/X.s₀.heap.objs.size<=b)/\b≠X.env.locals/\(∀ x c,X.env.cells.lookup x=some c->c≠b)/\∀ p∈X.pn++Rf,p.1≠b):Inv X Rf U H' s':=by
  obtain ⟨h',g',d',t',o'⟩:=s';have e:o'=s.os:=ho;subst e;exact I.call (g':=g') (t':=t') (d':=d') u hok hg hch
end
abbrev XK:=Value->Option Addr->Hp->Prop
abbrev St:=List (Option V)
abbrev VK:=V->Hp->Prop
abbrev TE:=St->Hp->VK->Prop
abbrev TT:=St->Hp->(Bool->Hp->Prop)->Prop
abbrev TA:=St->Hp->(List V->Hp->Prop)->Prop
structure Ends where
  nx:St->Hp->Prop
  rt:VK
  bk:St->Hp->Prop:=λ_ _=>False
  ct:St->Hp->Prop:=λ_ _=>False
abbrev TS:=Ends->St->Hp->Prop
inductive EP (X:Cx)(Rf:List (Addr×Obj))(U:St)(Q:VK)(u:Value)(s':Shared):Prop
  | c:∀ v H',Inv X Rf U H' s'->RelV v u->Q v H'->EP X Rf U Q u s'
def TP (X:Cx)(Rf:List (Addr×Obj))(U:St)(Q:Bool->Hp->Prop)(b:Bool)(s':Shared):Prop:=∃ H',Inv X Rf U H' s'/\Q b H'
inductive AP (X:Cx)(Rf:List (Addr×Obj))(U:St)(Q:List V->Hp->Prop)(us:List Value)(s':Shared):Prop
  | c:∀ vs H',Inv X Rf U H' s'->Vals vs us->Q vs H'->AP X Rf U Q us s'
def SP (X:Cx)(Rf:List (Addr×Obj))(D:Ends)(f:Flow)(s':Shared):Prop:=
  match f with
  | .next=>∃ U' H',Inv X Rf U' H' s'/\D.nx U' H'
  | .brk=>∃ U' H',Inv X Rf U' H' s'/\D.bk U' H'
  | .cont=>∃ U' H',Inv X Rf U' H' s'/\D.ct U' H'
  | .ret u=>∃ v U' H',Inv X Rf U' H' s'/\RelV v u/\D.rt v H'
def PE (X:Cx)(e:Expr)(t:TE):Prop:=
  ∀(Rf:List (Addr×Obj)) (s:Shared) (U:St) (H:Hp) (Q:VK),Inv X Rf U H s->t U H Q->wpAny .(d) X.A (eval e X.env) .(X) X.xe s
def PT (X:Cx)(e:Expr)(t:TT):Prop:=
  ∀(Rf:List (Addr×Obj)) (s:Shared) (U:St) (H:Hp) (Q:Bool->Hp->Prop),Inv X Rf U H s->t U H Q->wpAny .(d) X.A (isTrue e X.env (eval e X.env)) (TP X Rf U Q) X.xe s
def PW (X:Cx)(e:Expr)(t:TT):Prop:=
  ∀(whole:Sem Value) (Rf:List (Addr×Obj)) (s:Shared) (U:St) (H:Hp) (Q:Bool->Hp->Prop),Inv X Rf U H s->t U H Q->wpAny .(d) X.A (isTrue e X.env whole) (TP X Rf U Q) X.xe s
def PW.pt {t:TT}(h:PW X e t):PT X e t:=h _
def PA (X:Cx)(es:List Expr)(t:TA):Prop:=
  ∀(pos:Pos) (Rf:List (Addr×Obj)) (s:Shared) (U:St) (H:Hp) (Q:List V->Hp->Prop),Inv X Rf U H s->t U H Q->wpAny .(d) X.A (spliced .(r)) (AP X Rf U Q) X.xe s
def PS (X:Cx)(st:Stmt)(t:TS):Prop:=
  ∀(Rf:List (Addr×Obj)) (s:Shared) (U:St) (H:Hp) (D:Ends),Inv X Rf U H s->t D U H->wpAny .(d) X.A (exec st X.env) (SP X Rf D) X.xe s
def PSs (X:Cx)(st:List Stmt)(t:TS):Prop:=
  ∀(Rf:List (Addr×Obj)) (s:Shared) (U:St) (H:Hp) (D:Ends),Inv X Rf U H s->t D U H->wpAny .(d) X.A (execs st X.env) (SP X Rf D) X.xe s
def thn {α:Type}{t:Sem α}{Q Q':α->Shared->Prop}{M:Model}{A:Around}{E:Value->Shared->Prop}{s:Shared}(h:wpAny M A t Q E s)(hQ:∀ a s,Q a s->Q' a s):wpAny M A t Q' E s:=cW h hQ λ_ _ x=>x
section
variable {X:Cx}
inductive tVar (i:Nat)(U:St)(H:Hp)(Q:VK):Prop
  | c:∀ v,U[i]?=some (some v)->Q v H->tVar i U H Q
def tC (v:V):TE:=λ_ H Q=>Q v H
def Fn {i:Nat}{x:Str}{pos:Pos}(hN:X.N[i]?=some x)(hv:Vis X.env.scope x)(hd: .(o)=false:=by decide)(hcd:(x==("__classdict__" : Str))=false:=by decide):PE X (.Name x pos) (tVar i):=by
  intro Rf s U H Q I h;obtain ⟨v,e,h⟩:=h;obtain ⟨m,hn,hl⟩:=I.loc;obtain ⟨u,r,l⟩:=hl i x v hN e hv;have fin:EP X Rf U Q u s:=#[v,H,I,r,h];rcases l with ⟨hk,hm⟩|⟨hk,c,hc,hcell⟩
  · exact wpAny_Name (wpAny_loadName_local I.ok.kind hk hn hm fin) hd
  · rcases hk with hk|hk
    · exact wpAny_Name (wpAny_loadName_cell I.ok.kind hk hc hcell fin) hd
    · exact wpAny_Name (wpAny_loadName_free I.ok.kind hk hc hcell fin hcd) hd
def ah {i j pos}:PE X (.Constant (.int i) j pos) (tC (.int i)):=λ_ _ _ H _ I h=>wpAny_Constant_int #[.int i,H,I.tok _,.(Ba),h]
def cZ {b j pos}:PE X (.Constant (.bool b) j pos) (tC (.bl b)):=λ_ _ _ H _ I h=>Constant_bool #[.bl b,H,I,rfl,h]
def jK {j pos}:PE X (.Constant .none j pos) (tC .non):=λ_ _ _ H _ I h=>Constant_none #[.non,H,I,rfl,h]
def fG {x j pos}:PE X (.Constant (.str x) j pos) (tC (.str x)):=λ_ _ _ H _ I h=>Calls.Constant_str #[.str x,H,I.tok _,.(Ba),h]
def Gl (X:Cx)(x:Str):Prop:=X.env.kindOf x=some .globalImplicit
def ir {E:Value->Shared->Prop}{u:Value}{pos:Pos}{Q:Value->Shared->Prop}(I:Inv X Rf U H s)(hg:Gl X x)(hm:X.mg x=some u)(h:Q u s)
    (hd: .(o)=false:=by decide):wpAny .(d) X.A (eval (.Name x pos) X.env) Q E s:=
  Calls.Name_function_global I.ok.kind hg (Calls.loadGlobal_global (by rw[I.ok.glob];exact I.mod.glob.keeps I.bk) hm h) hd
def iu {E:Value->Shared->Prop}{u:Value}{pos:Pos}{Q:Value->Shared->Prop}(I:Inv X Rf U H s)(hg:Gl X x)(hm:X.mg x=none)(hv:bootBuiltins x=some u)(h:Q u s)
    (hn:x ≠ "__name__":=by decide) (hd: .(o)=false:=by decide):wpAny .(d) X.A (eval (.Name x pos) X.env) Q E s:=by
  obtain ⟨mb,h1,h2⟩:=I.mod.blt;exact Calls.Name_function_global I.ok.kind hg (Calls.loadGlobal_builtin (by rw[I.ok.glob];exact I.mod.glob.keeps I.bk) hm (by rw[I.ok.blt];exact h1.keeps I.bk) ((h2 x hn).trans hv) h) hd
def fV {v:V}{u:Value}{pos:Pos}(hg:Gl X x)(hm:X.mg x=some u)(r:RelV v u)(hd: .(o)=false:=by decide):PE X (.Name x pos) (tC v):=
  λ_ _ _ H _ I h=>ir I hg hm #[v,H,I,r,h] hd
def eZ {v:V}{u:Value}{pos:Pos}(hg:Gl X x)(hm:X.mg x=none)(hv:bootBuiltins x=some u)(r:RelV v u)(hn:x ≠ "__name__":=by decide)(hd: .(o)=false:=by decide):PE X (.Name x pos) (tC v):=
  λ_ _ _ H _ I h=>iu I hg hm hv #[v,H,I,r,h] hn hd
variable {a b:Expr}{ta tb:TE}{pos:Pos}
inductive GtB (Q:Bool->Hp->Prop)(x:V)(H1:Hp):Prop
  | c:∀ c,x=.bl c->Q c H1->GtB Q x H1
def tB (t:TE):TT:=λU H Q=>t U H λx H1=>GtB Q x H1
def cL {t:TE}(h:PE X e t)(he:∀ whole,isTrue e X.env whole=(do let v <-whole;standAt e.pos;holding [v] (truthy v)):=by intro _;rfl):PT X e (tB t):=by
  intro Rf s U H Q I hw;refine isTrue_plain (thn (h Rf s U H _ I hw) λv s1 zq0=>?_) (he _);obtain ⟨x,H1,I1,r1,q1⟩:=zq0;obtain ⟨d,rfl,q⟩:=q1;cases r1
  exact wpAny_truthy_bool #[H1,I1,q]
variable {tA tB':TT}{rest:List Expr}
def tAnd (t u:TT):TT:=λU H Q=>t U H λc H1=>if c=true then u U H1 Q else Q false H1
def tOr (t u:TT):TT:=λU H Q=>t U H λc H1=>if c=true then Q true H1 else u U H1 Q
def tNot (t:TT):TT:=λU H Q=>t U H λc H1=>Q (!c) H1
def iV (ha:PT X a tA):PW X (.BoolOp .And [a] pos) tA:=by
  intro wh Rf s U H Q I h;refine isTrue_and (thn (ha Rf s U H Q I h) λc s1 e=>?_);cases c with
  | true=>exact isTrue_and_nil e
  | false=>exact e
def mq (ha:PT X a tA):PW X (.BoolOp .Or [a] pos) tA:=by
  intro wh Rf s U H Q I h;refine isTrue_or (thn (ha Rf s U H Q I h) λc s1 e=>?_);cases c with
  | false=>exact isTrue_or_nil e
  | true=>exact e
def iW (ha:PT X a tA)(hb:PW X (.BoolOp .And (b::rest) pos) tB'):PW X (.BoolOp .And (a::b::rest) pos) (tAnd tA tB'):=by
  intro wh Rf s U H Q I h;refine isTrue_and (thn (ha Rf s U H _ I h) λc s1 zq0=>?_);obtain ⟨H1,I1,q1⟩:=zq0;cases c with
  | true=>exact hb wh Rf s1 U H1 Q I1 q1
  | false=>exact #[H1,I1,q1]
def jL (ha:PT X a tA)(hb:PW X (.BoolOp .Or (b::rest) pos) tB'):PW X (.BoolOp .Or (a::b::rest) pos) (tOr tA tB'):=by
  intro wh Rf s U H Q I h;refine isTrue_or (thn (ha Rf s U H _ I h) λc s1 zq0=>?_);obtain ⟨H1,I1,q1⟩:=zq0;cases c with
  | true=>exact #[H1,I1,q1]
  | false=>exact hb wh Rf s1 U H1 Q I1 q1
def ee (ha:PT X a tA):PT X (.UnaryOp .Not a pos) (tNot tA):=by
  intro Rf s U H Q I h;exact isTrue_not (ha Rf s U H (λc H1=>Q (!c) H1) I h)
inductive zX (tb:TE)(U:St)(Q:VK)(x:V)(H1:Hp):Prop
  | c:∀ c,x=.bl c->(if c=true then tb U H1 Q else Q (.bl false) H1)->zX tb U Q x H1
def Fo (ta tb:TE):TE:=λU H Q=>ta U H λx H1=>zX tb U Q x H1
inductive zY (Q:VK)(x:V)(H1:Hp):Prop
  | c:∀ c,x=.bl c->Q (.bl (!c)) H1->zY Q x H1
def Fp (ta:TE):TE:=λU H Q=>ta U H λx H1=>zY Q x H1
def oH {op}{t:TE}(h:PE X a t):PE X (.BoolOp op [a] pos) t:=λRf s U H Q I hw=>BoolOp_one (h Rf s U H Q I hw)
def oI (ha:PE X a ta)(hb:PE X (.BoolOp .And (b::rest) pos) tb):PE X (.BoolOp .And (a::b::rest) pos) (Fo ta tb):=by
  intro Rf s U H Q I h;refine BoolOp_and (thn (ha Rf s U H _ I h) λv s1 zq0=>?_);obtain ⟨x,H1,I1,r1,q1⟩:=zq0;obtain ⟨c,rfl,q1⟩:=q1;cases r1
  refine wpAny_truthy_bool ?_;cases c with
  | true=>exact hb Rf s1 U H1 Q I1 q1
  | false=>exact #[.bl false,H1,I1,rfl,q1]
def Fq (ha:PE X a ta):PE X (.UnaryOp .Not a pos) (Fp ta):=by
  intro Rf s U H Q I h;refine UnaryOp_ (thn (ha Rf s U H _ I h) λv s1 zq0=>?_);obtain ⟨x,H1,I1,r1,q1⟩:=zq0;obtain ⟨c,rfl,q1⟩:=q1;cases r1
  exact not_of (wpAny_truthy_bool #[.bl (!c),H1,I1,rfl,q1])
def tIf (t:TT)(ta tb:TE):TE:=λU H Q=>t U H λc H1=>if c=true then ta U H1 Q else tb U H1 Q
def zZ (hc:PT X c tA)(ha:PE X a ta)(hb:PE X b tb):PE X (.IfExp c a b pos) (tIf tA ta tb):=by
  intro Rf s U H Q I h;refine wpAny_IfExp (thn (hc Rf s U H _ I h) λd s1 zq0=>?_);obtain ⟨H1,I1,q1⟩:=zq0;cases d with
  | true=>exact ha Rf s1 U H1 Q I1 q1
  | false=>exact hb Rf s1 U H1 Q I1 q1
end
def SqL (K:Frag)(H:Hp)(a:Addr)(xs:List V):Prop:=
  Rd H a (.lst xs)\/
    ∃(o:Obj) (its:Array Value) (n:Nat),K.lookup a=some o/\o.cls=.type "list"/\o.dict=none/\o.data=.seq its n/\its.size<=sizeLine/\Vals xs its.toList
def SqT (K:Frag)(H:Hp)(a:Addr)(xs:List V):Prop:=
  Rd H a (.tup xs)\/
    ∃(o:Obj) (its:Array Value) (n:Nat),K.lookup a=some o/\o.cls=.type "tuple"/\o.data=.seq its n/\its.size<=sizeLine/\Vals xs its.toList
def absV:Value->Option V
  | .none=>some .non
  | .bool b=>some (.bl b)
  | .int i _=>some (.int i)
  | .str x _=>some (.str x)
  | .bytes b _=>some (.byt b)
  | .float b _=>some (.flt b)
  | .ref a=>some (.ref a)
  | .type n=>some (.ty n)
  | _=>none
def RelV.abs {x:V}{u:Value}(r:RelV x u):absV u=some x:=by
  cases x with
  | non=>cases r;rfl
  | bl _=>cases r;rfl
  | int _=>obtain ⟨t,rfl⟩:=r;rfl
  | str _=>obtain ⟨t,rfl⟩:=r;rfl
  | byt _=>obtain ⟨t,rfl⟩:=r;rfl
  | flt _=>obtain ⟨t,rfl⟩:=r;rfl
  | ref _=>cases r;rfl
  | ty _=>cases r;rfl
def RelV.inj {x y:V}{u:Value}(r:RelV x u)(q:RelV y u):x=y:=aJ (r.abs.symm.trans q.abs)
def Vals.inj:∀{xs ys:List V} {us:List Value},Vals xs us->Vals ys us->xs=ys
  | _,_,_,.nil,.nil=>rfl
  | _,_,_,.cons r t,.cons r' t'=>by rw[r.inj r',Vals.inj t t']
section
variable {X:Cx}{Rf:List (Addr×Obj)}{U:St}{H:Hp}{s:Shared}{a:Addr}{xs ys:List V}
def SqL.of {K:Frag}(h:H a=some (.lst xs)):SqL K H a xs:=.inl (.inl h)
def SqT.of {K:Frag}(h:H a=some (.tup xs)):SqT K H a xs:=.inl (.inl h)
def Inv.list (I:Inv X Rf U H s)(h:SqL X.K H a xs):∃ its:List Value,Vals xs its/\PlainL s.heap a its.toArray/\xs.length<=sizeLine:=by
  rcases h with h|⟨o,its,n,hk,hc,hd,hs,hz,r⟩
  · obtain ⟨z,its,n,r,e⟩:=h.ok I.hok
    exact #[its,r,#[_,n,e,rfl,rfl,rfl],z]
  · refine #[its.toList,r,#[o,n,I.kIn a o hk,hc,hd,by simpa using hs],?_]
    have e:=r.length;simp only[jy]at e;lia
def Inv.tuple (I:Inv X Rf U H s)(h:SqT X.K H a xs):∃ its:List Value,Vals xs its/\IsTup s.heap a its.toArray/\xs.length<=sizeLine:=by
  rcases h with h|⟨o,its,n,hk,hc,hs,hz,r⟩
  · obtain ⟨z,its,r,p⟩:=h.ok I.hok
    exact #[its,r,p,z]
  · refine #[its.toList,r,#[o,I.kIn a o hk,hc,n,by simpa using hs],?_]
    have e:=r.length;simp only[jy]at e;lia
def Inv.list_inj (I:Inv X Rf U H s)(h:SqL X.K H a xs)(h':SqL X.K H a ys):xs=ys:=by
  obtain ⟨its,r,⟨o,n,e,_,_,d⟩,_⟩:=I.list h;obtain ⟨its',r',⟨o',n',e',_,_,d'⟩,_⟩:=I.list h';rw[e]at e';cases e'
  rw[d]at d';injection d' with d1 _;have:its=its':=by simpa using congrArg Array.toList d1
  subst this;exact r.inj r'
def Inv.tuple_inj (I:Inv X Rf U H s)(h:SqT X.K H a xs)(h':SqT X.K H a ys):xs=ys:=by
  obtain ⟨its,r,⟨o,e,_,n,d⟩,_⟩:=I.tuple h;obtain ⟨its',r',⟨o',e',_,n',d'⟩,_⟩:=I.tuple h';rw[e]at e';cases e'
  rw[d]at d';injection d' with d1 _;have:its=its':=by simpa using congrArg Array.toList d1
  subst this;exact r.inj r'
end
abbrev Cx.wish (X:Cx)(E:Value->Shared->Prop):Cx:={ X with xe:=E }
abbrev Cx.nox (X:Cx):Cx:=X.wish λ_ _=>False
def Cx.Ok.wish {X:Cx}(ok:X.Ok)(E:Value->Shared->Prop):(X.wish E).Ok:=
  #[ok.mod,ok.kind,ok.glob,ok.blt,ok.above,ok.inj,ok.has,ok.cab,ok.hd,ok.frames,ok.stk,ok.exf,ok.bs,ok.bsz,ok.noex,ok.exfs,ok.funs,ok.frf]
def Cx.Ok.unwish {X:Cx}{E:Value->Shared->Prop}(ok:(X.wish E).Ok):X.Ok:=
  #[ok.mod,ok.kind,ok.glob,ok.blt,ok.above,ok.inj,ok.has,ok.cab,ok.hd,ok.frames,ok.stk,ok.exf,ok.bs,ok.bsz,ok.noex,ok.exfs,ok.funs,ok.frf]
section
variable {X:Cx}{Rf:List (Addr×Obj)}{U:St}{H:Hp}{s:Shared}{E:Value->Shared->Prop}
def Inv.wish (I:Inv X Rf U H s)(E:Value->Shared->Prop):Inv (X.wish E) Rf U H s:=#[I.ok.wish E,I.os,I.bare,I.base,I.loc,I.cell,I.free,I.freeC,I.pin,I.hok,I.len]
def Inv.unwish (I:Inv (X.wish E) Rf U H s):Inv X Rf U H s:=#[I.ok.unwish,I.os,I.bare,I.base,I.loc,I.cell,I.free,I.freeC,I.pin,I.hok,I.len]
def SP.unwish {f:Flow}(h:SP (X.wish E) Rf D f s'):SP X Rf D f s':=by
  cases f with
  | next=>obtain ⟨U',H',I,q⟩:=h;exact #[U',H',I.unwish,q]
  | brk=>obtain ⟨U',H',I,q⟩:=h;exact #[U',H',I.unwish,q]
  | cont=>obtain ⟨U',H',I,q⟩:=h;exact #[U',H',I.unwish,q]
  | ret u=>obtain ⟨v,U',H',I,r,q⟩:=h;exact #[v,U',H',I.unwish,r,q]
def PSs.nox {st:List Stmt}{t:TS}(h:PSs X.nox st t):PSs X st t:=λRf s U H D I hw=>
  cW (h Rf s U H D (I.wish _) hw) (λ_ _ q=>q.unwish) λ_ _ z=>False.elim z
end
section
variable {X:Cx}{st:Stmt}{rest:List Stmt}{t u:TS}{e:Expr}{te:TE}{pos:Pos}
def Fs:TS:=λD U H=>D.nx U H
def tSeq (t u:TS):TS:=λD U H=>t { D with nx:=u D } U H
def bE:PSs X [] Fs:=λ_ _ U H _ I h=>wpAny_execs_nil #[U,H,I,h]
def aB (h1:PS X st t)(h2:PSs X rest u):PSs X (st::rest) (tSeq t u):=by
  intro Rf s U H D I h;refine wpAny_execs_cons (thn (h1 Rf s U H { D with nx:=u D } I h) λf s1 q=>?_);cases f with
  | next=>
    obtain ⟨U',H',I',q⟩:=q;exact h2 Rf s1 U' H' D I' q
  | ret v=>exact q
  | brk=>exact q
  | cont=>exact q
def au (h1:PS X st t):PSs X [st] t:=by
  intro Rf s U H D I h;refine wpAny_execs_cons (thn (h1 Rf s U H D I h) λf s1 q=>?_);cases f with
  | next=>exact wpAny_execs_nil q
  | ret v=>exact q
  | brk=>exact q
  | cont=>exact q
def Inv.quiet {s:Shared}(I:Inv X Rf U H s):interactive X.env=false:=by simp[interactive,I.ok.kind]
def Ft (te:TE):TS:=λD U H=>te U H λ_ H1=>D.nx U H1
def cM (he:PE X e te)(hs:swapsWith e none pos.line X.env=pure false:=by rfl):PS X (.Expr e pos) (Ft te):=by
  intro Rf s U H D I h;exact wpAny_Expr_any (thn .(sa) λv s1 zq0=>(by obtain ⟨x,H1,I1,r1,q1⟩:=zq0;exact #[U,H1,I1,q1])) I.quiet hs
def tRet (te:TE):TS:=λD U H=>te U H D.rt
def aK (he:PE X e te):PS X (.Return (some e) pos) (tRet te):=by
  intro Rf s U H D I h;exact wpAny_Return_some (thn .(sa) λv s1 zq0=>(by obtain ⟨x,H1,I1,r1,q1⟩:=zq0;exact #[x,U,H1,I1,r1,q1]))
def tIfS (c:TT)(t u:TS):TS:=λD U H=>c U H λb H1=>if b=true then t D U H1 else u D U H1
def bq {a:List Stmt}(hc:PT X c tc)(ha:PSs X a t)(hb:PSs X b u):PS X (.If c a b pos) (tIfS tc t u):=by
  intro Rf s U H D I h;refine wpAny_If (thn (hc Rf s U H _ I h) λd s1 zq0=>?_);obtain ⟨H1,I1,q1⟩:=zq0;cases d with
  | true=>exact ha Rf s1 U H1 D I1 q1
  | false=>exact hb Rf s1 U H1 D I1 q1
def Fu:TS:=λ_ _ _=>False
def eh:PS X st Fu:=λ_ _ _ _ _ _ h=>h.elim
end
abbrev TG:=V->St->Hp->(St->Hp->Prop)->Prop
abbrev TGs:=List V->St->Hp->(St->Hp->Prop)->Prop
def PG (X:Cx)(target:Expr)(t:TG):Prop:=
  ∀(Rf:List (Addr×Obj)) (s:Shared) (U:St) (H:Hp) (v:V) (u:Value) (Q:St->Hp->Prop),Inv X Rf U H s->RelV v u->t v U H Q->
    wpAny .(d) X.A (assign target X.env u) (λ_ s'=>∃ U' H',Inv X Rf U' H' s'/\Q U' H') X.xe s
def PGs (X:Cx)(ts:List Expr)(t:TGs):Prop:=
  ∀(Rf:List (Addr×Obj)) (s:Shared) (U:St) (H:Hp) (vs:List V) (us:List Value) (Q:St->Hp->Prop),Inv X Rf U H s->Vals vs us->t vs U H Q->
    wpAny .(d) X.A (assignInOrder ((assignEach ts X.env).map (·.2)) us) (λ_ s'=>∃ U' H',Inv X Rf U' H' s'/\Q U' H') X.xe s
abbrev TSet:=V->V->V->Hp->(Hp->Prop)->Prop
def PSet (X:Cx)(t:TSet):Prop:=
  ∀(Rf:List (Addr×Obj)) (s:Shared) (U:St) (H:Hp) (o i v:V) (ov iv u:Value) (Q:Hp->Prop),Inv X Rf U H s->RelV o ov->RelV i iv->RelV v u->t o i v H Q->
    wpAny .(d) X.A (setItem ov iv u) (λ_ s'=>∃ H',Inv X Rf U H' s'/\Q H') X.xe s
section
variable {X:Cx}{pos:Pos}
def jM (i:Nat):TG:=λv U H Q=>Q (U.set i (some v)) H
def aO {i:Nat}{x:Str}(hN:X.N.Nodup)(hi:X.N[i]?=some x)(hx:Loc X.env.scope x)(hf:X.fn x=true\/X.env.scope.names.lookup x=some .local:=by first|exact .inl rfl|exact .inr rfl|assumption):PG X (.Name x pos) (jM i):=by
  intro Rf s U H v u Q I r h;exact wpAny_assign_Name (uI I hN hi hx r (λs' I'=>#[_,H,I',h]) hf)
inductive gNil (vs:List V)(U:St)(H:Hp)(Q:St->Hp->Prop):Prop
  | c:vs=[]->Q U H->gNil vs U H Q
inductive z7 (t:TG)(u:TGs)(vs:List V)(U:St)(H:Hp)(Q:St->Hp->Prop):Prop
  | c:∀ v r,vs=v::r->(t v U H λU' H'=>u r U' H' Q)->z7 t u vs U H Q
def iX:PGs X [] gNil:=by
  intro Rf s U H vs us Q I r h;obtain ⟨e,h⟩:=h;subst e;cases r
  exact assignInOrder_nil #[U,H,I,h]
def dF {t:TG}(h1:PG X e t)(h2:PGs X es u)
    (hs:(assignEach (e::es) X.env).map (·.2)=assign e X.env::(assignEach es X.env).map (·.2):=by rfl):PGs X (e::es) (z7 t u):=by
  intro Rf s U H vs us Q I r h;obtain ⟨v,vr,e1,h⟩:=h;subst e1;cases r with
  | cons r rr=>
    rw[hs];refine assignInOrder_cons (thn (h1 Rf s U H _ _ _ I r h) λ_ s1 zq0=>?_);obtain ⟨U1,H1,I1,q1⟩:=zq0;exact h2 Rf s1 U1 H1 _ _ Q I1 rr q1
inductive gTup (K:Frag)(n:Nat)(t:TGs)(v:V)(U:St)(H:Hp)(Q:St->Hp->Prop):Prop
  | c:∀ a xs,v=.ref a->SqT K H a xs->xs.length=n->t xs U H Q->gTup K n t v U H Q
def iY {k:Nat}{t:TGs}{n:Nat}(hc:X.calm=true)(h:PGs X es t)
    (hn:(assignEach es X.env).length=n:=by rfl) (hst:(assignEach es X.env).findIdx? (·.1)=none:=by rfl):PG X (.Tuple es k pos) (gTup X.K n t):=by
  intro Rf s U H v u Q I r hw;obtain ⟨a,xs,e1,hq,hl,hw⟩:=hw;subst e1;cases r
  obtain ⟨its,rv,ht,hz⟩:=I.tuple hq;refine assign_Tuple_tuple .(ha) ht (by simp[hn,<-hl,rv.length]) hst λh' hx=>?_;have I1:Inv X Rf U H { s with heap:=h' }:=I.kept (t':=s.toks) λb o e=>hx b o (bK (aQ e)) e;exact h Rf _ U H xs _ Q I1 (by simpa using rv) hw
def gSub (to ti:TE)(t:TSet):TG:=λv U H Q=>to U H λo H1=>ti U H1 λi H2=>t o i v H2 λH3=>Q U H3
def iw {t:TSet}(ho:PE X o to)(hi:PE X i ti)(hs:PSet X t)
    (ha:∀ v,assign (.Subscript o i pos) X.env v=(do
      let ov <-holding [v] (eval o X.env)
      let iv <-holding [v,ov] (eval i X.env)
      standAt pos
      holding [v,ov,iv] (setItem ov iv v)
      release [v,ov,iv] []):=by intro _;rfl):PG X (.Subscript o i pos) (gSub to ti t):=by
  intro Rf s U H v u Q I r h;rw[ha];refine ax (wpAny_holding (thn (ho Rf s U H _ I h) λov s1 zq0=>?_));obtain ⟨x,H1,I1,r1,q1⟩:=zq0;refine ax (wpAny_holding (thn (hi Rf s1 U H1 _ I1 q1) λiv s2 zq0=>?_));obtain ⟨y,H2,I2,r2,q2⟩:=zq0;refine ax (wpAny_standAt (ax (wpAny_holding (thn (hs Rf s2 U H2 x y v ov iv u _ I2 r1 r2 r q2) λ_ s3 zq0=>?_))));obtain ⟨H3,I3,q3⟩:=zq0;exact wpAny_release #[U,H3,I3,q3]
def tAsg (te:TE)(g:TG):TS:=λD U H=>te U H λx H1=>g x U H1 D.nx
def gr (he:PE X e te)(hg:PG X tg g)(hs:swapsWithSole [tg] e pos.line X.env=pure false:=by rfl)(hw:swappedStores [tg] e X.env=pure none:=by rfl)
    (h1:(assignEach [tg] X.env).map (·.2)=[assign tg X.env]:=by rfl):PS X (.Assign [tg] e pos) (tAsg te g):=by
  intro Rf s U H D I h;refine wpAny_Assign_stores (thn .(sa) λv s1 zq0=>?_) hs hw;obtain ⟨x,H1,I1,r1,q1⟩:=zq0;rw[h1];exact thn (hg Rf s1 U H1 x v _ I1 r1 q1) λ_ s2 q=>q
def aI {i:Nat}{x:Str}{pos':Pos}(hN:X.N.Nodup)(hi:X.N[i]?=some x)(hx:Loc X.env.scope x)(he:PE X e te)(hs:swapsWith e (some (.Name x pos')) pos.line X.env=pure false:=by rfl)(hf:X.fn x=true\/X.env.scope.names.lookup x=some .local:=by first|exact .inl rfl|exact .inr rfl|assumption) :
    PS X (.Assign [.Name x pos'] e pos) (tAsg te (jM i)):=by
  intro Rf s U H D I h;refine wpAny_Assign_Name (thn .(sa) λv s1 zq0=>?_) hs;obtain ⟨y,H1,I1,r1,q1⟩:=zq0;exact uI I1 hN hi hx r1 (λs2 I2=>#[_,H1,I2,q1]) hf
end
section
variable {X:Cx}{pos:Pos}
def uJ (c:TT)(tb:TS):TS:=λD U H=>∃ W:Nat->St->Hp->Prop,(∃ m,W m U H)/\∀ m U H,W m U H->
  c U H λb H1=>if b=true then ∃ N:St->Hp->Prop,(∀ U' H',N U' H'->∃ m',m'<m/\W m' U' H')/\tb { D with nx:=N,ct:=N,bk:=D.nx } U H1 else D.nx U H1
def mr (hp:PassesOwn .(d) X.A X.env X.xe)(hc:PT X c tc)(hb:PSs X body tb):PS X (.While c body [] pos) (uJ tc tb):=by
  intro Rf s U H D I h;obtain ⟨W,⟨m0,w0⟩,turn⟩:=h;refine wpAny_While (codeAny_whileLoop (λn s'=>∃ U' H',Inv X Rf U' H' s'/\W n U' H') ?_ m0 #[U,H,I,w0]);rintro n s1 ⟨U1,H1,I1,w1⟩;refine wpAny_passesOwn hp (thn (hc Rf s1 U1 H1 _ I1 (turn n U1 H1 w1)) λb s2 zq0=>?_);obtain ⟨H2,I2,q2⟩:=zq0;cases b with
  | true=>
    obtain ⟨N,hN,q2⟩:=q2;rw[ak rfl];refine wpAny_passesOwn hp (thn (hb Rf s2 U1 H2 _ I2 q2) λf s3 q3=>?_);cases f with
    | next=>
      obtain ⟨U3,H3,I3,n3⟩:=q3;obtain ⟨m',hm,w3⟩:=hN U3 H3 n3;exact #[m',hm,U3,H3,I3,w3]
    | cont=>
      obtain ⟨U3,H3,I3,n3⟩:=q3;obtain ⟨m',hm,w3⟩:=hN U3 H3 n3;exact #[m',hm,U3,H3,I3,w3]
    | brk=>exact q3
    | ret v=>exact q3
  | false=>
    rw[ao cH];exact wpAny_execs_nil #[U1,H2,I2,q2]
end
structure It where
  go:Nat->Hp->Prop
  yld:Nat->Hp->V->Hp->Prop
  stop:Nat->Hp->Prop
def FpOk (X:Cx)(Rf:List (Addr×Obj))(H:Hp)(b:Addr):Prop:=
  H b=none/\b≠X.env.locals/\b∉X.fs/\(b∈X.ex\/X.s₀.heap.objs.size<=b)/\(∀ x c,X.env.cells.lookup x=some c->c≠b)/\∀ p∈X.pn++Rf,p.1≠b
def Inv.fpOk {H':Hp}{s:Shared}{b:Addr}(I:Inv X Rf U H s)(hb:s.heap.objs.size<=b)(hn:H' b=none):FpOk X Rf H' b:=by
  refine #[hn,jz (cn I.lt hb),I.nofs hb,.inr (bW I.sz hb),λx c e z=>?_,λp hp z=>?_]
  · obtain ⟨v,q⟩:=I.cell x c e
    exact absurd (cn q.lt (by rw[z];exact hb)) (d5 _)
  · exact absurd (cn (aQ (I.pin p hp).1) (by rw[z];exact hb)) (d5 _)
structure Turn (P:Program)(w:World)(K:Frag)(tg:Expr)(J:It)(fp:List Addr)(it:Addr)(tn:Nat->Heap->Prop):Prop where
  mem:it∈fp
  obj:∀ i h,tn i h->∀ b∈fp,∃ o,h.get? b=some o/\∀ v,o.data≠.cell v
  keep:∀ i h h',tn i h->(∀ b∈fp,∀ o,h.get? b=some o->h'.get? b=some o)->tn i h'
  item:∀(X:Cx),X.prog=P->X.w=w->X.K=K->X.calm=true->∀(i:Nat) (Rf:List (Addr×Obj)) (s:Shared) (U:St) (H:Hp) (E:Value->Shared->Prop),Inv X Rf U H s->(∀ b∈fp,FpOk X Rf H b)->tn i s.heap->J.go i H->
    wpAny (model P w) X.A (pyNext (.ref it)) (λr s1=>∃ u,r=some u/\
      wpAny (model P w) X.A (letOwnedTupleGo tg (.ref it) u) (λ_ s2=>∃ x H',Inv X Rf U H' s2/\RelV x u/\J.yld i H x H'/\tn (i+1) s2.heap/\∀ b∈fp,H' b=none) E s1) E s
  done:∀(X:Cx),X.prog=P->X.w=w->X.K=K->X.calm=true->∀(i:Nat) (Rf:List (Addr×Obj)) (s:Shared) (U:St) (H:Hp) (E:Value->Shared->Prop),Inv X Rf U H s->(∀ b∈fp,FpOk X Rf H b)->tn i s.heap->J.stop i H->
    wpAny (model P w) X.A (pyNext (.ref it)) (λr s1=>r=none/\Inv X Rf U H s1) E s
  self:∀(A:Around) (i:Nat) (s:Shared) (Q:Value->Shared->Prop) (E:Value->Shared->Prop),tn i s.heap->Q (.ref it) s->wpAny (model P w) A (pyIter (.ref it)) Q E s
abbrev TI:=St->Hp->(It->Hp->Prop)->Prop
inductive PIE (X:Cx)(Rf:List (Addr×Obj))(U:St)(tg:Expr)(R:It->Hp->Prop)(itv:Value)(s2:Shared):Prop
  | c:∀(it:Addr) (fp:List Addr) (tn:Nat->Heap->Prop) (J:It) (H':Hp),itv=.ref it->Inv X Rf U H' s2->Turn X.prog X.w X.K tg J fp it tn->tn 0 s2.heap->(∀ b∈fp,FpOk X Rf H' b)->R J H'->PIE X Rf U tg R itv s2
def PI (X:Cx)(tg iter:Expr)(wi:TI):Prop:=
  ∀(Rf:List (Addr×Obj)) (s:Shared) (U:St) (H:Hp) (R:It->Hp->Prop),Inv X Rf U H s->wi U H R->
    wpAny .(d) X.A (eval iter X.env) (λv s1=>wpAny .(d) X.A (pyIter v) (PIE X Rf U tg R) X.xe s1) X.xe s
def mv {M:Model}{A:Around}{E:Value->Shared->Prop}{s:Shared}{tg:Expr}{it:Addr}{u:Value}{o:Obj}{n:String}{vs:Array Value}{Q:Unit->Shared->Prop}(ho:s.heap.get? it=some o)(hc:o.cls=.type n)(hd:o.data=.fields vs)
    (hn:["enumerate","zip","dict_itemiterator","dict_reverseitemiterator","odict_iterator","itertools.zip_longest","itertools.pairwise"].contains n=false) (hQ:Q () s):wpAny M A (letOwnedTupleGo tg (.ref it) u) Q E s:=by
  unfold letOwnedTupleGo;cases tg<;>first
    | exact aM hQ
    | (cases u <;> first
        | exact aM hQ
        | (refine ax (wpAny_load ho ?_)
           rw[hc,hd];show wpAny M A (if (["enumerate","zip","dict_itemiterator","dict_reverseitemiterator","odict_iterator","itertools.zip_longest","itertools.pairwise"].contains n&&vs[0]?==some (rawInt _))=true then _ else _) Q E s
           rw[ao (by intro h;rw[hn,nW]at h;cases h)]
           exact aM hQ))
def Itl (K:Frag)(a:Addr):It:=
  #[λi H=>∃ xs x,SqL K H a xs/\xs[i]?=some x,λi H x H'=>H'=H/\∀ xs,SqL K H a xs->xs[i]?=some x,λi H=>∃ xs,SqL K H a xs/\xs.length<=i]
def Itt (K:Frag)(a:Addr):It:=
  #[λi H=>∃ xs x,SqT K H a xs/\xs[i]?=some x,λi H x H'=>H'=H/\∀ xs,SqT K H a xs->xs[i]?=some x,λi H=>∃ xs,SqT K H a xs/\xs.length<=i]
def Itr (lo:Int)(n:Nat):It:=#[λi _=>i<n,λi H x H'=>H'=H/\x=.int (lo+i),λi _=>n<=i]
def z8 {K:Frag}(a it:Addr):Turn P w K tg (Itl K a) [it] it (λi h=>h.IsListIter it a i) where
  mem:=by simp
  obj:=λi h st b hb=>by
    have e:b=it:=by simpa using hb
    subst e;obtain ⟨o,e,c,d⟩:=st;exact #[o,e,λv z=>by rw[d]at z;cases z]
  keep:=λi h h' st k=>st.at λo e=>k it .(k) o e
  item:=by
    intro X hP hw hK hc i Rf s U H E I hf st hg;subst hP hw hK;obtain ⟨xs,x,hq,hx⟩:=hg;obtain ⟨its,rv,p,hz⟩:=I.list hq;obtain ⟨u,hu,ru⟩:=rv.get hx;obtain ⟨f0,f1,f2,f3,f4,f5⟩:=hf it .(k);refine wpAny_pyNext_list_item st p.isList (x:=u) (by simpa using hu) λh' st' sb=>?_;have I1:Inv X Rf U H { s with heap:=h' }:=I.turned (t':=s.toks) (λb o hb e=>(sb.2 b hb).trans e) f0 f1 f3 f4 f5;obtain ⟨o,e,c,d⟩:=id st';exact #[u,rfl,mv (s:={ s with heap:=h' }) e c d .(q) #[x,H,I1,ru,#[rfl,λys hy=>by rw[I.list_inj hy hq];exact hx],st',λb hb=>(hf b hb).1]]
  done:=by
    intro X hP hw hK hc i Rf s U H E I hf st hg;subst hP hw hK;obtain ⟨xs,hq,hx⟩:=hg;obtain ⟨its,rv,p,hz⟩:=I.list hq;obtain ⟨f0,f1,f2,f3,f4,f5⟩:=hf it .(k);have hl:=rv.length;exact wpAny_pyNext_list_end .(ha) st p.isList .(T) λh' eb=>#[rfl,I.turned (t':=s.toks) (λb o hb e=>eb b o hb e) f0 f1 f3 f4 f5]
  self:=λ_ _ _ _ _ st h=>wpAny_pyIter_listiter st h
def z9 {K:Frag}(a it:Addr):Turn P w K tg (Itt K a) [it] it (λi h=>h.IsTupleIter it a i) where
  mem:=by simp
  obj:=λi h st b hb=>by
    have e:b=it:=by simpa using hb
    subst e;obtain ⟨o,e,c,d⟩:=st;exact #[o,e,λv z=>by rw[d]at z;cases z]
  keep:=λi h h' st k=>st.at λo e=>k it .(k) o e
  item:=by
    intro X hP hw hK hc i Rf s U H E I hf st hg;subst hP hw hK;obtain ⟨xs,x,hq,hx⟩:=hg;obtain ⟨its,rv,p,hz⟩:=I.tuple hq;obtain ⟨u,hu,ru⟩:=rv.get hx;obtain ⟨f0,f1,f2,f3,f4,f5⟩:=hf it .(k);refine wpAny_pyNext_tuple_item st (show s.heap.IsTuple a its.toArray from p) (x:=u) (by simpa using hu) λh' st' sb=>?_;have I1:Inv X Rf U H { s with heap:=h' }:=I.turned (t':=s.toks) (λb o hb e=>(sb.2 b hb).trans e) f0 f1 f3 f4 f5;obtain ⟨o,e,c,d⟩:=id st';exact #[u,rfl,mv (s:={ s with heap:=h' }) e c d .(q) #[x,H,I1,ru,#[rfl,λys hy=>by rw[I.tuple_inj hy hq];exact hx],st',λb hb=>(hf b hb).1]]
  done:=by
    intro X hP hw hK hc i Rf s U H E I hf st hg;subst hP hw hK;obtain ⟨xs,hq,hx⟩:=hg;obtain ⟨its,rv,p,hz⟩:=I.tuple hq;obtain ⟨f0,f1,f2,f3,f4,f5⟩:=hf it .(k);have hl:=rv.length;exact wpAny_pyNext_tuple_end .(ha) st (show s.heap.IsTuple a its.toArray from p) .(T) λh' eb=>#[rfl,I.turned (t':=s.toks) (λb o hb e=>eb b o hb e) f0 f1 f3 f4 f5]
  self:=λ_ _ _ _ _ st h=>wpAny_pyIter_tupleiter st h
def Fv {K:Frag}(it:Addr)(lo:Int)(n:Nat):Turn P w K tg (Itr lo n) [it] it (λi h=>IsRangeIter h it (lo+(i:Nat)*1) ((n:Int)-(i:Nat)) 1) where
  mem:=by simp
  obj:=λi h st b hb=>by
    have e:b=it:=by simpa using hb
    subst e;exact #[_,st,λv z=>by
      have z':Data.fields _=Data.cell v:=z;cases z']
  keep:=λi h h' st k=>k it .(k) _ st
  item:=by
    intro X hP hw hK hc i Rf s U H E I hf st hg;subst hP hw hK;obtain ⟨f0,f1,f2,f3,f4,f5⟩:=hf it .(k);have W:=Walks.range (prog:=X.prog) (w:=X.w) .(ha) it lo 1 n;refine W.item i s _ _ hg st λv h' tk hv st' kk=>?_;obtain ⟨t,rfl⟩:=hv;have I1:Inv X Rf U H { s with heap:=h',toks:=tk }:=I.turned (λb o hb e=>kk b o (by simpa using hb) e) f0 f1 f3 f4 f5;refine #[_,rfl,mv (s:={ s with heap:=h',toks:=tk }) (n := "range_iterator") st' rfl rfl .(q) #[.int (lo+i),H,I1,#[t,?_],.(pa),st',λb hb=>(hf b hb).1]];rw[Int.mul_one]
  done:=by
    intro X hP hw hK hc i Rf s U H E I hf st hg;subst hP hw hK;obtain ⟨f0,f1,f2,f3,f4,f5⟩:=hf it .(k);exact wpAny_pyNext_range_end .(ha) st (by have:n<=i:=hg;lia) λh' eb=>#[rfl,I.turned (t':=s.toks) (λb o hb e=>eb b o hb e) f0 f1 f3 f4 f5]
  self:=λ_ _ _ _ _ st h=>wpAny_pyIter_rangeiter st h
section
variable {X:Cx}{tg:Expr}
inductive Aa (K:Frag)(R:It->Hp->Prop)(x:V)(H1:Hp):Prop
  | c:∀ a,x=.ref a->(∃ xs,SqL K H1 a xs)->R (Itl K a) H1->Aa K R x H1
def Fx (K:Frag)(tl:TE):TI:=λU H R=>tl U H λx H1=>Aa K R x H1
inductive Ab (K:Frag)(R:It->Hp->Prop)(x:V)(H1:Hp):Prop
  | c:∀ a,x=.ref a->(∃ xs,SqT K H1 a xs)->R (Itt K a) H1->Ab K R x H1
def iTup (K:Frag)(tl:TE):TI:=λU H R=>tl U H λx H1=>Ab K R x H1
def dW (hl:PE X l tl):PI X tg l (Fx X.K tl):=by
  intro Rf s U H R I h;refine thn (hl Rf s U H _ I h) λv s1 zq0=>?_;obtain ⟨x,H1,I1,r1,q1⟩:=zq0;obtain ⟨a,e,⟨xs,hq⟩,q⟩:=q1;subst e;cases r1
  obtain ⟨its,rv,p,hz⟩:=I1.list hq;refine wpAny_pyIter_list p.isList ?_;refine #[s1.heap.objs.size,[s1.heap.objs.size],_,_,H1,rfl,I1.kept (t':=s1.toks) λb o e=>aY _ e,z8 a _,#[_,cB _ rfl,rfl,rfl],λb hb=>?_,q];have e:b=s1.heap.objs.size:=by simpa using hb
  subst e;exact I1.fpOk (aq _) (I1.hok.fresh (aq _))
def gx (hl:PE X l tl):PI X tg l (iTup X.K tl):=by
  intro Rf s U H R I h;refine thn (hl Rf s U H _ I h) λv s1 zq0=>?_;obtain ⟨x,H1,I1,r1,q1⟩:=zq0;obtain ⟨a,e,⟨xs,hq⟩,q⟩:=q1;subst e;cases r1
  obtain ⟨its,rv,p,hz⟩:=I1.tuple hq;refine wpAny_pyIter_tuple (show s1.heap.IsTuple a its.toArray from p) ?_;refine #[s1.heap.objs.size,[s1.heap.objs.size],_,_,H1,rfl,I1.kept (t':=s1.toks) λb o e=>aY _ e,z9 a _,#[_,cB _ rfl,rfl,rfl],λb hb=>?_,q];have e:b=s1.heap.objs.size:=by simpa using hb
  subst e;exact I1.fpOk (aq _) (I1.hok.fresh (aq _))
def Ac {R:It->Hp->Prop}{E:Value->Shared->Prop}{lo hi:Int}{t u v:Tok}{tk:Nat}(I:Inv X Rf U H s)(h1:-(2^62)<=lo)(h2:lo<2^62)(h3:-(2^62)<=hi)(h4:hi<2^62)
    (q:R (Itr lo (hi-lo).toNat) H):wpAny .(d) X.A (pyIter .(ca)) (PIE X Rf U tg R) E { s with heap:=s.heap.push { cls:=.type "range",data:=.fields (List.toArray [.int lo t,.int hi u,.int 1 v]) },toks:=tk }:=by
  refine wpAny_pyIter_range (IsRange.new ..) (small_one h1 h2 h3 h4) ?_;have I1:Inv X Rf U H { s with heap:=s.heap.push { cls:=.type "range",data:=.fields (List.toArray [.int lo t,.int hi u,.int 1 v]) },toks:=tk }:=I.kept λb o e=>aY _ e;refine #[(s.heap.push { cls:=.type "range",data:=.fields (List.toArray [.int lo t,.int hi u,.int 1 v]) }).objs.size,[(s.heap.push { cls:=.type "range",data:=.fields (List.toArray [.int lo t,.int hi u,.int 1 v]) }).objs.size],_,_,H,rfl,
    I1.kept (t':=tk) λb o e=>aY _ e,Fv _ lo (hi-lo).toNat,?_,λb hb=>?_,q]
  · have e1:lo+((0:Nat):Int)*1=lo:=by simp
    have e2:(((hi-lo).toNat:Nat):Int)-((0:Nat):Int)=Builtin.Range.rangeSize lo hi 1:=by rw[rangeSize_one];split<;>lia
    show IsRangeIter _ _ (lo+((0:Nat):Int)*1) ((((hi-lo).toNat:Nat):Int)-((0:Nat):Int)) 1;rw[e1,e2];exact cB _ rfl
  · have e:b=(s.heap.push { cls:=.type "range",data:=.fields (List.toArray [.int lo t,.int hi u,.int 1 v]) }).objs.size:=by simpa using hb
    subst e;exact I1.fpOk (aq _) (I1.hok.fresh (aq _))
inductive Ad (R:It->Hp->Prop)(vs:List V)(H1:Hp):Prop
  | c:∀(j:Int),vs=[.int j]->-(2^62)<=j->j<2^62->R (Itr 0 j.toNat) H1->Ad R vs H1
def Fy (ta:TA):TI:=λU H R=>ta U H λvs H1=>Ad R vs H1
inductive Ae (R:It->Hp->Prop)(vs:List V)(H1:Hp):Prop
  | c:∀(i j:Int),vs=[.int i,.int j]->(-(2^62)<=i/\i<2^62/\-(2^62)<=j/\j<2^62)->R (Itr i (j-i).toNat) H1->Ae R vs H1
def Fz (ta:TA):TI:=λU H R=>ta U H λvs H1=>Ae R vs H1
def fb {a:Expr}{p pos:Pos}(hg:Gl X "range")(hm:X.mg "range" = none)(ha:PA X [a] ta)(hs:starEach [a] X.env=[(false,eval a X.env)]:=by rfl):PI X tg (.Call (.Name "range" p) [a] [] pos) (Fy ta):=by
  intro Rf s U H R I h;refine Call_ (iu I hg hm boot_range (PyProof.Rows.callWith_type1 .(F) hs rfl));obtain ⟨vs,H1,I1,r1,q1⟩:=zq0;obtain ⟨j,e,q1,q2,q⟩:=q1;subst e;cases r1 with
  | cons r rr=>
    cases rr
    obtain ⟨t,rfl⟩:=r;exact call_range_1 (Ac I1 .(a) .(a) q1 q2 (by simpa using q))
def kM {a b:Expr}{p pos:Pos}(hg:Gl X "range")(hm:X.mg "range" = none)(ha:PA X [a,b] ta)(hs:starEach [a,b] X.env=[(false,eval a X.env),(false,eval b X.env)]:=by rfl)(hs2:starEach [b] X.env=[(false,eval b X.env)]:=by rfl) :
    PI X tg (.Call (.Name "range" p) [a,b] [] pos) (Fz ta):=by
  intro Rf s U H R I h;refine Call_ (iu I hg hm boot_range (PyProof.Rows.callWith_type1 .(F) (by rw[hs,hs2]) (by rw[hs2];rfl)));obtain ⟨vs,H1,I1,r1,q1⟩:=zq0;obtain ⟨i,j,e,⟨q1,q2,q3,q4⟩,q⟩:=q1;subst e;cases r1 with
  | cons r rr=>
    cases rr with
    | cons r' rr=>
      cases rr
      obtain ⟨t,rfl⟩:=r;obtain ⟨t',rfl⟩:=r';exact call_range_2 (Ac I1 q1 q2 q3 q4 q)
def tFor (wi:TI)(g:TG)(tb:TS):TS:=λD U H=>wi U H λJ H1=>∃ W:Nat->Nat->St->Hp->Prop,(∃ m,W 0 m U H1)/\∀ i m U H,W i m U H->
  (J.stop i H/\D.nx U H)\/(J.go i H/\∃ N:St->Hp->Prop,.(u)/\∀ x H',J.yld i H x H'->g x U H' λU2 H2=>tb { D with nx:=N,ct:=N,bk:=D.nx } U2 H2)
def mw (fp:List Addr)(h:Heap):List (Addr×Obj):=fp.filterMap λb=>(h.get? b).map λo=>(b,o)
def oJ {fp:List Addr}{h:Heap}{b:Addr}{o:Obj}(hb:b∈fp)(e:h.get? b=some o):(b,o)∈mw fp h:=List.mem_filterMap.mpr #[b,hb,by rw[e];rfl]
def FB {p:Addr×Obj}(hp:p∈mw fp h):p.1∈fp/\h.get? p.1=some p.2:=by
  obtain ⟨b,hb,e⟩:=List.mem_filterMap.mp hp;cases q:h.get? b with
  | none=>rw[q]at e;cases e
  | some o=>
    rw[q]at e;have e':(b,o)=p:=aJ e;subst e';exact #[hb,q]
def Inv.pinned {s:Shared}{fp:List Addr}(I:Inv X Rf U H s)(hf:∀ b∈fp,FpOk X Rf H b)(ho:∀ b∈fp,∃ o,s.heap.get? b=some o/\∀ v,o.data≠.cell v):Inv X (Rf++mw fp s.heap) U H s:=
  I.pins_of λp hp=>(bX.mp hp).elim (λz=>I.pin p (fT _ z)) λz=>by
    obtain ⟨hb,e⟩:=FB z;obtain ⟨f0,f1,f2,_⟩:=hf p.1 hb;obtain ⟨o,e',d⟩:=ho p.1 hb;rw[e]at e';cases e'
    exact #[e,f0,f1,f2,d]
def Inv.unpinned {Rf pl:List (Addr×Obj)}{s:Shared}(I:Inv X (Rf++pl) U H s):Inv X Rf U H s:=I.pins_of λp hp=>I.pin p (fT _ (List.mem_append_left _ hp))
def bU {pos:Pos}(hp:PassesOwn .(d) X.A X.env X.xe)(hc:X.calm=true)(hi:PI X tg iter wi)(hg:PG X tg g)(hb:PSs X body tb)
    (hs:∀ x,foldedSetIterable iter X.env x=pure x:=by intro _;rfl):PS X (.For tg iter body [] pos) (tFor wi g tb):=by
  intro Rf s U H D I h;refine wpAny_For (thn (hi Rf s U H _ I h) λv s1 h1=>thn h1 λitv s2 h2=>?_) hs;obtain ⟨it,fp,tn,J,H2,e,I2,T,st2,f2,W,⟨m0,w0⟩,turn⟩:=h2;subst e;have stat:∀{H':Hp},(∀ b∈fp,H' b=none)->∀ b∈fp,FpOk X Rf H' b:=λhn b hb=>#[hn b hb,(f2 b hb).2];refine codeAny_forLoop_any (λn s'=>∃ i U' H',Inv X Rf U' H' s'/\tn i s'.heap/\(∀ b∈fp,H' b=none)/\W i n U' H') ?_ m0 #[0,U,H2,I2,st2,λb hb=>(f2 b hb).1,w0];rintro n s3 ⟨i,U3,H3,I3,st3,fr3,w3⟩;rcases turn i n U3 H3 w3 with ⟨stop,qn⟩|⟨go,N,hN,step⟩
  · refine wpAny_passesOwn hp (thn (T.done X rfl rfl rfl hc i Rf s3 U3 H3 X.xe I3 (stat fr3) st3 stop) λr s4 zq0=>?_)
    obtain ⟨hr,I4⟩:=zq0;subst hr;exact wpAny_execs_nil #[U3,H3,I4,qn]
  · refine wpAny_passesOwn hp (thn (T.item X rfl rfl rfl hc i Rf s3 U3 H3 X.xe I3 (stat fr3) st3 go) λr s4 zq0=>?_)
    obtain ⟨u,hr,h4⟩:=zq0;subst hr;refine wpAny_passesOwn hp (thn h4 λ_ s5 zq0=>?_);obtain ⟨x,H5,I5,r5,y5,st5,fr5⟩:=zq0;have I5':=I5.pinned (stat fr5) (T.obj _ _ st5);refine wpAny_passesOwn hp (thn (hg _ s5 U3 H5 x u _ I5' r5 (step x H5 y5)) λ_ s6 zq0=>?_);obtain ⟨U6,H6,I6,q6⟩:=zq0;refine wpAny_passesOwn hp (thn (hb _ s6 U6 H6 _ I6 q6) λf s7 q7=>?_);have again:∀{U7:St} {H7:Hp},Inv X (Rf++mw fp s5.heap) U7 H7 s7->N U7 H7->∃ m,m<n/\∃ i U' H',Inv X Rf U' H' s7/\tn i s7.heap/\(∀ b∈fp,H' b=none)/\W i m U' H':=λ{U7 H7} I7 n7=>by
      obtain ⟨m',hm,w7⟩:=hN U7 H7 n7;refine #[m',hm,i+1,U7,H7,I7.unpinned,T.keep _ _ _ st5 λb hb o e=>(I7.pin (b,o) (fT _ (fT _ (oJ hb e)))).1,λb hb=>?_,w7];obtain ⟨o,e,d⟩:=T.obj _ _ st5 b hb;exact (I7.pin (b,o) (fT _ (fT _ (oJ hb e)))).2.1
    cases f with
    | next=>obtain ⟨U7,H7,I7,n7⟩:=q7;exact again I7 n7
    | cont=>obtain ⟨U7,H7,I7,n7⟩:=q7;exact again I7 n7
    | brk=>obtain ⟨U7,H7,I7,q7⟩:=q7;exact #[U7,H7,I7.unpinned,q7]
    | ret v=>obtain ⟨x7,U7,H7,I7,r7,q7⟩:=q7;exact #[x7,U7,H7,I7.unpinned,r7,q7]
end
def iZ {K:Frag}{a:Addr}{g:TG}{tb:TS}{D:Ends}{U:St}{H:Hp}(Pv:Nat->St->Hp->Prop)(h0:Pv 0 U H)(hl:∀ i U H,i<=xs.length->Pv i U H->SqL K H a xs)
    (hs:∀ i x U H,xs[i]?=some x->Pv i U H->g x U H λU2 H2=>tb { D with nx:=Pv (i+1),ct:=Pv (i+1),bk:=D.nx } U2 H2) (hd:∀ U H,Pv xs.length U H->D.nx U H) :
    ∃ W:Nat->Nat->St->Hp->Prop,.(da)/\∀ i m U H,W i m U H->
      ((Itl K a).stop i H/\D.nx U H)\/((Itl K a).go i H/\∃ N:St->Hp->Prop,.(u)/\∀ x H',(Itl K a).yld i H x H'->g x U H' λU2 H2=>tb { D with nx:=N,ct:=N,bk:=D.nx } U2 H2):=by
  refine #[λi m U H=>m=xs.length-i/\i<=xs.length/\Pv i U H,#[xs.length,by simp,cv _,h0],?_];rintro i m U H ⟨rfl,hi,p⟩;have q:=hl i U H hi p;by_cases hlt:i<xs.length
  · refine .inr #[#[xs,xs[i],q,by simp[hlt]],Pv (i+1),λU' H' p'=>#[xs.length-(i+1),by lia,rfl,hlt,p'],λx H' y=>?_]
    obtain ⟨e,y⟩:=y;subst e;exact hs i x U _ (y xs q) p
  · have e:i=xs.length:=by lia
    subst e;exact .inl #[#[xs,q,aq _],hd U H p]
def mx {K:Frag}{a:Addr}{g:TG}{tb:TS}{D:Ends}{U:St}{H:Hp}(Pv:Nat->St->Hp->Prop)(h0:Pv 0 U H)(hl:∀ i U H,i<=xs.length->Pv i U H->SqT K H a xs)
    (hs:∀ i x U H,xs[i]?=some x->Pv i U H->g x U H λU2 H2=>tb { D with nx:=Pv (i+1),ct:=Pv (i+1),bk:=D.nx } U2 H2) (hd:∀ U H,Pv xs.length U H->D.nx U H) :
    ∃ W:Nat->Nat->St->Hp->Prop,.(da)/\∀ i m U H,W i m U H->
      ((Itt K a).stop i H/\D.nx U H)\/((Itt K a).go i H/\∃ N:St->Hp->Prop,.(u)/\∀ x H',(Itt K a).yld i H x H'->g x U H' λU2 H2=>tb { D with nx:=N,ct:=N,bk:=D.nx } U2 H2):=by
  refine #[λi m U H=>m=xs.length-i/\i<=xs.length/\Pv i U H,#[xs.length,by simp,cv _,h0],?_];rintro i m U H ⟨rfl,hi,p⟩;have q:=hl i U H hi p;by_cases hlt:i<xs.length
  · refine .inr #[#[xs,xs[i],q,by simp[hlt]],Pv (i+1),λU' H' p'=>#[xs.length-(i+1),by lia,rfl,hlt,p'],λx H' y=>?_]
    obtain ⟨e,y⟩:=y;subst e;exact hs i x U _ (y xs q) p
  · have e:i=xs.length:=by lia
    subst e;exact .inl #[#[xs,q,aq _],hd U H p]
def fc {lo:Int}{n:Nat}{g:TG}{tb:TS}{D:Ends}{U:St}{H:Hp}(Pv:Nat->St->Hp->Prop)(h0:Pv 0 U H)
    (hs:∀ i U H,i<n->Pv i U H->g (.int (lo+i)) U H λU2 H2=>tb { D with nx:=Pv (i+1),ct:=Pv (i+1),bk:=D.nx } U2 H2) (hd:∀ U H,Pv n U H->D.nx U H) :
    ∃ W:Nat->Nat->St->Hp->Prop,.(da)/\∀ i m U H,W i m U H->
      ((Itr lo n).stop i H/\D.nx U H)\/((Itr lo n).go i H/\∃ N:St->Hp->Prop,.(u)/\∀ x H',(Itr lo n).yld i H x H'->g x U H' λU2 H2=>tb { D with nx:=N,ct:=N,bk:=D.nx } U2 H2):=by
  refine #[λi m U H=>m=n-i/\i<=n/\Pv i U H,#[n,by simp,cv _,h0],?_];rintro i m U H ⟨rfl,hi,p⟩;by_cases hlt:i<n
  · refine .inr #[hlt,Pv (i+1),λU' H' p'=>#[n-(i+1),by lia,rfl,hlt,p'],λx H' y=>?_]
    obtain ⟨e,y⟩:=y;subst e y;exact hs i U _ hlt p
  · have e:i=n:=by lia
    subst e;exact .inl #[aq _,hd U H p]
def Af {c:TT}{tb:TS}{D:Ends}{U:St}{H:Hp}(Pv:St->Hp->Prop)(μ:St->Hp->Nat)(h0:Pv U H)
    (hs:∀ U H,Pv U H->c U H λb H1=>if b=true then tb { D with nx:=λU' H'=>Pv U' H'/\μ U' H'<μ U H,ct:=λU' H'=>Pv U' H'/\μ U' H'<μ U H,bk:=D.nx } U H1 else D.nx U H1)
    (mono:∀ U H Q Q',(∀ b H1,Q b H1->Q' b H1)->c U H Q->c U H Q'):uJ c tb D U H:=by
  refine #[λm U H=>m=μ U H/\Pv U H,#[_,rfl,h0],?_];rintro m U H ⟨rfl,p⟩;refine mono U H _ _ (λb H1 q=>?_) (hs U H p);cases b with
  | true=>exact #[_,λU' H' ⟨p',l⟩=>#[_,l,rfl,p'],q]
  | false=>exact q
abbrev R2:=V->V->Hp->VK->Prop
def OpR (X:Cx)(f:Value->Value->Sem Value)(r:R2):Prop:=
  ∀(Rf:List (Addr×Obj)) (s:Shared) (U:St) (H:Hp) (x y:V) (v u:Value) (Q:VK),Inv X Rf U H s->RelV x v->RelV y u->r x y H Q->
    wpAny .(d) X.A (f v u) .(X) X.xe s
def UnR (X:Cx)(f:Value->Sem Value)(r:V->Hp->VK->Prop):Prop:=
  ∀(Rf:List (Addr×Obj)) (s:Shared) (U:St) (H:Hp) (x:V) (v:Value) (Q:VK),Inv X Rf U H s->RelV x v->r x H Q->
    wpAny .(d) X.A (f v) .(X) X.xe s
def cN (X:Cx)(f:Value)(r:List V->Hp->VK->Prop):Prop:=
  ∀(Rf:List (Addr×Obj)) (s:Shared) (U:St) (H:Hp) (xs:List V) (us:List Value) (Q:VK),Inv X Rf U H s->Vals xs us->r xs H Q->
    wpAny .(d) X.A (call f us) .(X) X.xe s
def tOp (r:R2)(ta tb:TE):TE:=λU H Q=>ta U H λx H1=>tb U H1 λy H2=>r x y H2 Q
def tUn (r:V->Hp->VK->Prop)(ta:TE):TE:=λU H Q=>ta U H λx H1=>r x H1 Q
inductive rI (C:Int->Int->Prop)(g:Int->Int->V)(x:V)(y:V)(H:Hp)(Q:VK):Prop
  | c:∀ i j,x=.int i->y=.int j->C i j->Q (g i j) H->rI C g x y H Q
inductive rI0 (g:Int->Int->V)(x:V)(y:V)(H:Hp)(Q:VK):Prop
  | c:∀ i j,x=.int i->y=.int j->Q (g i j) H->rI0 g x y H Q
inductive rU (g:Int->V)(x:V)(H:Hp)(Q:VK):Prop
  | c:∀ i,x=.int i->Q (g i) H->rU g x H Q
section
variable {X:Cx}{a b c:Expr}{ta tb tc:TE}{pos:Pos}
def binT (ha:PE X a ta)(hb:PE X b tb){R:V->V->Hp->Prop}(I:Inv X Rf U H s)
    (h:ta U H λx H1=>tb U H1 λy H2=>R x y H2) {Q:Value->Shared->Prop} {f:Value->Value->Sem Value}
    (hf:∀ v u s2 x y H2,Inv X Rf U H2 s2->RelV x v->RelV y u->R x y H2->wpAny .(d) X.A (f v u) Q X.xe s2) :
    wpAny .(d) X.A (eval a X.env) (λv s₁=>wpAny .(d) X.A (eval b X.env) (λu s₂=>wpAny .(d) X.A (f v u) Q X.xe s₂) X.xe s₁) X.xe s:=by
  refine thn (ha Rf s U H _ I h) λv s1 zq0=>?_;obtain ⟨x,H1,I1,r1,q1⟩:=zq0;refine thn (hb Rf s1 U H1 _ I1 q1) λu s2 zq0=>?_;obtain ⟨y,H2,I2,r2,q2⟩:=zq0;exact hf v u s2 x y H2 I2 r1 r2 q2
def aC {op:Operator}(ho:OpR X (binaryOp op) r)(ha:PE X a ta)(hb:PE X b tb):PE X (.BinOp a op b pos) (tOp r ta tb):=by
  intro Rf s U H Q I h;exact wpAny_BinOp (binT ha hb I h λv u s2 x y H2 I2 rx ry q=>ho Rf s2 U H2 x y v u Q I2 rx ry q)
def fe {op:UnaryOp}(ho:UnR X (unaryOp op) r)(ha:PE X a ta):PE X (.UnaryOp op a pos) (tUn r ta):=by
  intro Rf s U H Q I h;exact UnaryOp_ (thn (ha Rf s U H _ I h) λv s1 zq0=>(by obtain ⟨x,H1,I1,r1,q1⟩:=zq0;exact ho Rf s1 U H1 x v Q I1 r1 q1))
def opI {f:Value->Value->Sem Value}{C:Int->Int->Prop}{g:Int->Int->Int}
    (rule:∀(i j:Int) (t u:Tok) (s:Shared) (Q:Value->Shared->Prop) (E:Value->Shared->Prop),C i j->Q (.int (g i j) s.toks) { s with toks:=s.toks+1 }->wpAny .(d) X.A (f (.int i t) (.int j u)) Q E s) :
    OpR X f (rI C λi j=>.int (g i j)):=by
  intro Rf s U H x y v u Q I rx ry h;obtain ⟨i,j,rfl,rfl,hc,q⟩:=h;obtain ⟨t,rfl⟩:=rx;obtain ⟨t',rfl⟩:=ry;exact rule i j t t' s _ _ hc #[.int (g i j),H,I.tok _,.(Ba),q]
def opI0 {f:Value->Value->Sem Value}{g:Int->Int->Int}
    (rule:∀(i j:Int) (t u:Tok) (s:Shared) (Q:Value->Shared->Prop) (E:Value->Shared->Prop),Q (.int (g i j) s.toks) { s with toks:=s.toks+1 }->wpAny .(d) X.A (f (.int i t) (.int j u)) Q E s) :
    OpR X f (rI0 λi j=>.int (g i j)):=by
  intro Rf s U H x y v u Q I rx ry h;obtain ⟨i,j,rfl,rfl,q⟩:=h;obtain ⟨t,rfl⟩:=rx;obtain ⟨t',rfl⟩:=ry;exact rule i j t t' s _ _ #[.int (g i j),H,I.tok _,.(Ba),q]
def opB0 {f:Value->Value->Sem Value}{g:Int->Int->Bool}
    (rule:∀(i j:Int) (t u:Tok) (s:Shared) (Q:Value->Shared->Prop) (E:Value->Shared->Prop),Q (.bool (g i j)) s->wpAny .(d) X.A (f (.int i t) (.int j u)) Q E s) :
    OpR X f (rI0 λi j=>.bl (g i j)):=by
  intro Rf s U H x y v u Q I rx ry h;obtain ⟨i,j,rfl,rfl,q⟩:=h;obtain ⟨t,rfl⟩:=rx;obtain ⟨t',rfl⟩:=ry;exact rule i j t t' s _ _ #[.bl (g i j),H,I,rfl,q]
def CDiv (i j:Int):Prop:=0<j/\j<1073741824
def CPow (i j:Int):Prop:=0<=j/\j<=1000000/\i.natAbs<2^64
def CMul (i j:Int):Prop:=(-(2^64)<i/\i<2^64)\/(-(2^64)<j/\j<2^64)
def CMul.ok (h:CMul i j):IntMulOk i j:=by
  rcases h with ⟨h1,h2⟩|⟨h1,h2⟩
  · exact .of_left (intBits_le_64 h1 h2)
  · exact .of_right (intBits_le_64 h1 h2)
def FD (k:Nat):(0:Int)<=2^k:=by
  rw[two_pow_cast];exact jA _
def bY:OpR X (binaryOp .Add) (rI0 λi j=>.int (i+j)):=opI0 λ_ _ _ _ _ _ _ q=>add_int q
def c6:OpR X (binaryOp .Sub) (rI0 λi j=>.int (i-j)):=opI0 λ_ _ _ _ _ _ _ q=>sub_int q
def dG:OpR X (binaryOp .Mult) (rI CMul λi j=>.int (i*j)):=opI λ_ _ _ _ _ _ _ hc q=>mul_int q hc.ok
def my:OpR X (binaryOp .FloorDiv) (rI CDiv λi j=>.int (i/j)):=opI λi j _ _ _ _ _ hc q=>by
  have h1:(0:Int)<j:=hc.1;have h2:j<1073741824:=hc.2;exact floordiv_int .(a) (by rw[Int.fdiv_eq_ediv_of_nonneg i .(a)];exact q) (.inl (PyProof.noPylong_small .(a)))
def fW:OpR X (binaryOp .Mod) (rI (λ_ j=>0<j) λi j=>.int (i%j)):=opI λi j _ _ _ _ _ hc q=>by
  have h1:(0:Int)<j:=hc;exact mod_int' .(a) (by rw[Int.fmod_eq_emod_of_nonneg i .(a)];exact q)
def i0:OpR X (binaryOp .Pow) (rI CPow λi j=>.int (i^j.toNat)):=opI λ_ _ _ _ _ _ _ hc q=>pow_int_small hc.1 hc.2.1 hc.2.2 q
def FE:OpR X (binaryOp .RShift) (rI (λ_ j=>0<=j) λi j=>.int (i/2^j.toNat)):=opI λi j _ _ _ _ _ hc q=>
  rshift_int hc (by rw[Int.fdiv_eq_ediv_of_nonneg i (FD _)];exact q)
def Ag:OpR X (binaryOp .BitAnd) (rI0 λi j=>.int (Builtin.bitAnd i j)):=opI0 λ_ _ _ _ _ _ _ q=>and_int q
def FG:OpR X (binaryOp .BitXor) (rI0 λi j=>.int (Builtin.bitXor i j)):=opI0 λ_ _ _ _ _ _ _ q=>xor_int q
def unI {f:Value->Sem Value}{g:Int->Int}
    (rule:∀(i:Int) (t:Tok) (s:Shared) (Q:Value->Shared->Prop) (E:Value->Shared->Prop),Q (.int (g i) s.toks) { s with toks:=s.toks+1 }->wpAny .(d) X.A (f (.int i t)) Q E s) :
    UnR X f (rU λi=>.int (g i)):=by
  intro Rf s U H x v Q I rx h;obtain ⟨i,rfl,q⟩:=h;obtain ⟨t,rfl⟩:=rx;exact rule i t s _ _ #[.int (g i),H,I.tok _,.(Ba),q]
def ff:UnR X (unaryOp .USub) (rU λi=>.int (-i)):=unI λ_ _ _ _ _ q=>neg_int q
end
def scal:V->V->Bool
  | .non,.non=>true|.non,.int _=>true|.int _,.non=>true|.non,.bl _=>true|.bl _,.non=>true|.non,.str _=>true|.str _,.non=>true
  | .int _,.int _=>true|.bl _,.bl _=>true|.str _,.str _=>true|.byt _,.byt _=>true
  | .int _,.str _=>true|.str _,.int _=>true|.bl _,.str _=>true|.str _,.bl _=>true
  | _,_=>false
inductive rEq (x:V)(y:V)(H:Hp)(Q:VK):Prop
  | c:scal x y=true->Q (.bl (decide (x=y))) H->rEq x y H Q
inductive rNe (x:V)(y:V)(H:Hp)(Q:VK):Prop
  | c:scal x y=true->Q (.bl (!decide (x=y))) H->rNe x y H Q
def Ah {i j:Int}:decide (V.int i=V.int j)=(i==j):=by
  rw[nX];simp
def Ai {i j:Bool}:decide (V.bl i=V.bl j)=(i==j):=by
  rw[nX];simp
def Aj {i j:Str}:decide (V.str i=V.str j)=(i==j):=by
  rw[nX];simp
def Ak {i j:Array UInt8}:decide (V.byt i=V.byt j)=(i.toList==j.toList):=by
  rw[nX];cases i
  cases j
  simp
section
variable {X:Cx}{a b c:Expr}{ta tb tc:TE}{pos:Pos}
def b8 {Q:VK}{k k':Bool}(I:Inv X Rf U H s)(q:Q (.bl k) H)(e:k=k'):EP X Rf U Q (.bool k') s:=by
  subst e;exact #[.bl k,H,I,rfl,q]
def dH:OpR X (compareOp .Eq) rEq:=by
  intro Rf s U H x y v u Q I rx ry h;obtain ⟨hs,q⟩:=h;cases x with
  | non=>
    cases rx
    cases y with
    | non=>cases ry;exact PySem.EqNone.eq_none_none .(J)
    | bl j=>cases ry;exact PySem.EqNone.eq_none_bool .(J)
    | int j=>obtain ⟨t',rfl⟩:=ry;exact PySem.EqNone.eq_none_int .(J)
    | str j=>obtain ⟨t',rfl⟩:=ry;exact PySem.EqNone.eq_none_str .(J)
    | _=>exact absurd .(G) cH
  | bl i=>
    cases rx
    cases y with
    | non=>cases ry;exact PySem.EqNone.eq_bool_none .(J)
    | bl j=>cases ry;exact eq_bool (b8 I q Ai)
    | str j=>obtain ⟨t',rfl⟩:=ry;exact PySem.EqMixed.eq_bool_str .(J)
    | _=>exact absurd .(G) cH
  | int i=>
    obtain ⟨t,rfl⟩:=rx;cases y with
    | non=>cases ry;exact PySem.EqNone.eq_int_none .(J)
    | int j=>obtain ⟨t',rfl⟩:=ry;exact eq_int (b8 I q Ah)
    | str j=>obtain ⟨t',rfl⟩:=ry;exact PySem.EqMixed.eq_int_str .(J)
    | _=>exact absurd .(G) cH
  | str i=>
    obtain ⟨t,rfl⟩:=rx;cases y with
    | non=>cases ry;exact PySem.EqNone.eq_str_none .(J)
    | bl j=>cases ry;exact PySem.EqMixed.eq_str_bool .(J)
    | int j=>obtain ⟨t',rfl⟩:=ry;exact PySem.EqMixed.eq_str_int .(J)
    | str j=>obtain ⟨t',rfl⟩:=ry;exact eq_str (b8 I q Aj)
    | _=>exact absurd .(G) cH
  | byt i=>
    obtain ⟨t,rfl⟩:=rx;cases y with
    | byt j=>obtain ⟨t',rfl⟩:=ry;exact W.eq_bytes (b8 I q Ak)
    | _=>exact absurd .(G) cH
  | _=>cases y<;>exact absurd .(G) cH
def uK:OpR X (compareOp .NotEq) rNe:=by
  intro Rf s U H x y v u Q I rx ry h;obtain ⟨hs,q⟩:=h;cases x with
  | non=>
    cases rx
    cases y with
    | non=>cases ry;exact PySem.EqNone.ne_none_none .(J)
    | bl j=>cases ry;exact PySem.EqNone.ne_none_bool .(J)
    | int j=>obtain ⟨t',rfl⟩:=ry;exact PySem.EqNone.ne_none_int .(J)
    | str j=>obtain ⟨t',rfl⟩:=ry;exact PySem.EqNone.ne_none_str .(J)
    | _=>exact absurd .(G) cH
  | bl i=>
    cases rx
    cases y with
    | non=>cases ry;exact PySem.EqNone.ne_bool_none .(J)
    | bl j=>cases ry;exact ne_bool (b8 I q (congrArg not Ai))
    | str j=>obtain ⟨t',rfl⟩:=ry;exact PySem.EqMixed.ne_bool_str .(J)
    | _=>exact absurd .(G) cH
  | int i=>
    obtain ⟨t,rfl⟩:=rx;cases y with
    | non=>cases ry;exact PySem.EqNone.ne_int_none .(J)
    | int j=>obtain ⟨t',rfl⟩:=ry;exact ne_int (b8 I q (congrArg not Ah))
    | str j=>obtain ⟨t',rfl⟩:=ry;exact PySem.EqMixed.ne_int_str .(J)
    | _=>exact absurd .(G) cH
  | str i=>
    obtain ⟨t,rfl⟩:=rx;cases y with
    | non=>cases ry;exact PySem.EqNone.ne_str_none .(J)
    | bl j=>cases ry;exact PySem.EqMixed.ne_str_bool .(J)
    | int j=>obtain ⟨t',rfl⟩:=ry;exact PySem.EqMixed.ne_str_int .(J)
    | str j=>obtain ⟨t',rfl⟩:=ry;exact ne_str (b8 I q (congrArg not Aj))
    | _=>exact absurd .(G) cH
  | byt i=>
    obtain ⟨t,rfl⟩:=rx;cases y with
    | byt j=>obtain ⟨t',rfl⟩:=ry;exact W.ne_bytes (b8 I q (congrArg not Ak))
    | _=>exact absurd .(G) cH
  | _=>cases y<;>exact absurd .(G) cH
def fH:OpR X (compareOp .Lt) (rI0 λi j=>.bl (decide (i<j))):=opB0 λ_ _ _ _ _ _ _ q=>lt_int q
def uL:OpR X (compareOp .LtE) (rI0 λi j=>.bl (decide (i<=j))):=opB0 λ_ _ _ _ _ _ _ q=>le_int q
def ix:OpR X (compareOp .Gt) (rI0 λi j=>.bl (decide (j<i))):=opB0 λ_ _ _ _ _ _ _ q=>gt_int q
def uM:OpR X (compareOp .GtE) (rI0 λi j=>.bl (decide (j<=i))):=opB0 λ_ _ _ _ _ _ _ q=>ge_int q
def Al:OpR X (compareOp .IsNot) (λx y H Q=>y=.non/\Q (.bl (!decide (x=.non))) H):=by
  intro Rf s U H x y v u Q I rx ry h;obtain ⟨rfl,q⟩:=h;cases ry
  refine isnot_none_gen (b8 I q ?_);cases x<;>first
    | (cases rx;rfl)
    | (obtain ⟨t,rfl⟩:=rx;rfl)
def bf (b:Expr){op:CmpOp}(h:op≠.In:=by decide)(h2:op≠.NotIn:=by decide):behindInMarks op b=false:=by
  have e1:(op==CmpOp.In)=false:=by cases op<;>first|rfl|exact absurd rfl h
  have e2:(op==CmpOp.NotIn)=false:=by cases op<;>first|rfl|exact absurd rfl h2
  cases b<;>simp[behindInMarks,e1,e2]
def oK {op:CmpOp}(ho:OpR X (compareOp op) r)(ha:PE X a ta)(hb:PE X b tb)(hm:behindInMarks op b=false):PE X (.Compare a [op] [b] pos) (tOp r ta tb):=by
  intro Rf s U H Q I h;exact wpAny_Compare1 (binT ha hb I h λv u s2 x y H2 I2 rx ry q=>ho Rf s2 U H2 x y v u Q I2 rx ry q) hm
inductive Am (Q:Bool->Hp->Prop)(x:V)(H':Hp):Prop
  | c:∀ k,x=.bl k->Q k H'->Am Q x H'
def uN (t:TE):TT:=λU H Q=>t U H λx H'=>Am Q x H'
def aW {op:CmpOp}(ho:OpR X (compareOp op) r)(ha:PE X a ta)(hb:PE X b tb)(hm:behindInMarks op b=false):PT X (.Compare a [op] [b] pos) (uN (tOp r ta tb)):=by
  intro Rf s U H Q I h;refine wpAny_isTrue_Compare1 (thn (ha Rf s U H _ I h) λv s1 ⟨x,H1,I1,r1,q1⟩=>thn (hb Rf s1 U H1 _ I1 q1) λu s2 ⟨y,H2,I2,r2,q2⟩=>
    thn (ho Rf s2 U H2 x y v u _ I2 r1 r2 q2) λc s3 ⟨z,H3,I3,r3,k,e,q3⟩=>?_) hm
  subst e;cases r3
  exact wpAny_truthy_bool #[H3,I3,q3]
inductive An (r':R2)(tc:TE)(U:St)(Q:VK)(y:V)(z:V)(H3:Hp):Prop
  | c:∀ k,z=.bl k->(if k=true then tc U H3 λw' H4=>r' y w' H4 Q else Q (.bl false) H3)->An r' tc U Q y z H3
def Ao (r r':R2)(ta tb tc:TE):TE:=λU H Q=>ta U H λx H1=>tb U H1 λy H2=>r x y H2 λz H3=>An r' tc U Q y z H3
def FH {op op':CmpOp}(ho:OpR X (compareOp op) r)(ho':OpR X (compareOp op') r')(ha:PE X a ta)(hb:PE X b tb)(hc:PE X c tc)
    (hm:lastMarks [op,op'] [b,c]=false:=by with_unfolding_all rfl):PE X (.Compare a [op,op'] [b,c] pos) (Ao r r' ta tb tc):=by
  intro Rf s U H Q I h;refine Compare_chain (thn (ha Rf s U H _ I h) λv s1 ⟨x,H1,I1,r1,q1⟩=>chain_link (thn (hb Rf s1 U H1 _ I1 q1) λu s2 ⟨y,H2,I2,r2,q2⟩=>
    thn (ho Rf s2 U H2 x y v u _ I2 r1 r2 q2) λd s3 ⟨z,H3,I3,r3,k,e,q3⟩=>?_)) hm
  subst e;cases r3
  refine wpAny_truthy_bool ?_;cases k with
  | false=>exact ite_ff #[.bl false,H3,I3,rfl,q3]
  | true=>exact ite_tt (chain_last (thn (hc Rf s3 U H3 _ I3 q3) λw' s4 ⟨z',H4,I4,r4,q4⟩=>ho' Rf s4 U H4 y z' u w' Q I4 r2 r4 q4))
def FJ {op op':CmpOp}(ho:OpR X (compareOp op) r)(ho':OpR X (compareOp op') r')(ha:PE X a ta)(hb:PE X b tb)(hc:PE X c tc)
    (hm:lastMarks [op,op'] [b,c]=false:=by with_unfolding_all rfl):PT X (.Compare a [op,op'] [b,c] pos) (uN (Ao r r' ta tb tc)):=by
  intro Rf s U H Q I h;refine isTrue_chain (thn (ha Rf s U H _ I h) λv s1 ⟨x,H1,I1,r1,q1⟩=>test_link (thn (hb Rf s1 U H1 _ I1 q1) λu s2 ⟨y,H2,I2,r2,q2⟩=>
    thn (ho Rf s2 U H2 x y v u _ I2 r1 r2 q2) λd s3 ⟨z,H3,I3,r3,k,e,q3⟩=>?_)) hm
  subst e;cases r3
  refine wpAny_truthy_bool ?_;cases k with
  | false=>
    obtain ⟨k',e',q'⟩:=q3;cases e'
    exact ite_ff #[H3,I3,q']
  | true=>
    refine ite_tt (test_last (thn (hc Rf s3 U H3 _ I3 q3) λw' s4 zq0=>?_));obtain ⟨z',H4,I4,r4,q4⟩:=zq0;refine thn (ho' Rf s4 U H4 y z' u w' _ I4 r2 r4 q4) λd' s5 zq1=>?_;obtain ⟨z2,H5,I5,r5,k2,e2,q5⟩:=zq1;subst e2;cases r5
    exact wpAny_truthy_bool #[H5,I5,q5]
def oM:(sizeLine:Nat)<2^63:=by rw[sizeLine_eq];decide
def fX {x:V}{us:List Value}(r:Vals [x] us):∃ u,us=[u]/\RelV x u:=by
  cases r with
  | cons r1 r2=>cases r2;exact #[_,rfl,r1]
def gy {x y:V}{us:List Value}(r:Vals [x,y] us):∃ u w',us=[u,w']/\RelV x u/\RelV y w':=by
  cases r with
  | cons r1 r2=>
    cases r2 with
    | cons r3 r4=>cases r4;exact #[_,_,rfl,r1,r3]
def uO:cN X (.builtin "abs") (λxs H Q=>∃ i,xs=[.int i]/\Q (.int (if i<0 then -i else i)) H):=by
  intro Rf s U H xs us Q I r h;obtain ⟨i,rfl,q⟩:=h;obtain ⟨u,rfl,t,rfl⟩:=fX r;exact call_abs_int λu tk=>#[.int (if i<0 then -i else i),H,I.tok _,.(Ba),q]
def oN (hc:X.calm=true):cN X (.builtin "max") (λxs H Q=>∃ i j,xs=[.int i,.int j]/\Q (.int (if j>i then j else i)) H):=by
  intro Rf s U H xs us Q I r h;obtain ⟨i,j,rfl,q⟩:=h;obtain ⟨u,w',rfl,⟨t,rfl⟩,⟨t',rfl⟩⟩:=gy r;refine max_two_ints .(ha) λh' tk k=>#[_,H,I.kept k,?_,q];by_cases hj:j>i
  · rw[ak hj,ak hj];exact .(Ba)
  · rw[ao hj,ao hj];exact .(Ba)
def Ap (hc:X.calm=true):cN X (.builtin "min") (λxs H Q=>∃ i j,xs=[.int i,.int j]/\Q (.int (if j<i then j else i)) H):=by
  intro Rf s U H xs us Q I r h;obtain ⟨i,j,rfl,q⟩:=h;obtain ⟨u,w',rfl,⟨t,rfl⟩,⟨t',rfl⟩⟩:=gy r;refine min_two_ints .(ha) λh' tk k=>#[_,H,I.kept k,?_,q];by_cases hj:j<i
  · rw[ak hj,ak hj];exact .(Ba)
  · rw[ao hj,ao hj];exact .(Ba)
end
structure ObjM (h:Heap)(x dx C:Addr)(mA:Str->Option Value):Prop where
  obj:h.get? x=some (W.instObj C dx)
  ns:h.Ns1 dx mA
  ne:dx≠x
def FK {h:Heap}{dx:Addr}{mA:Str->Option Value}(n:h.Ns1 dx mA):∃ od,h.get? dx=some od/\∀ name,W.lookIn name od=some (mA name):=by
  obtain ⟨o,es,ep,ho,hd,hk,_,hm⟩:=n;refine #[o,ho,λname=>?_];have e:=hm name;unfold nsFind findBy at e;rw[<-Array.find?_toList]at e;unfold W.lookIn;rw[hd];dsimp only;split
  · rename_i y q
    rw[q]at e;exact congrArg some e
  · rename_i q
    rw[q]at e;have a:es.toList.any (·.refKey)=false:=by
      rw[List.any_eq_false];intro y hy;obtain ⟨z,t,hkey⟩:=hk y (Array.mem_toList_iff.mp hy);simp[DictEntry.refKey,hkey]
    have a':¬ es.toList.any (·.refKey)=true:=by rw[a];exact cH
    rw[ao a'];exact congrArg some e
def ObjM.look (I:ObjM h x dx C mA):∃ od,W.InstAt h x (W.instObj C dx) C (some od)/\∀ name,W.lookIn name od=some (mA name):=
  let ⟨od,ho,hl⟩:=FK I.ns
  #[od,#[I.obj,rfl,rfl,ho],hl]
section
variable {prog:Program}{w:World}{A:Around}{E:Value->Shared->Prop}{s:Shared}{K:Frag}{x dx C f:Addr}{mA:Str->Option Value}{name:Str}{v:Value}
def FL {expr:Bool}{Q:Value->Shared->Prop}(X:K.In s.heap)(I:ObjM s.heap x dx C mA)(hg:W.plainGet K C name=true)(hh:W.hasDictIn K C=true)
    (ha:findIn K (.ref C) name=some none) (hv:mA name=some v) (hv':W.handedIn v=true) (h:Q v { s with toks:=s.toks+1 }) :
    wpAny .(i) A (getAttr (.ref x) name expr) Q E s:=by
  obtain ⟨od,J,hl⟩:=I.look;exact W.get_value X J (W.plainGet_of hg).1 (W.findObj_own hh ha rfl (by rw[hl,hv])) hv' h
def FN {pl:Sem Bool}{Q:Value×List Value->Shared->Prop}(X:K.In s.heap)(I:ObjM s.heap x dx C mA)(hg:W.plainGet K C name=true)
    (hf:findIn K (.ref C) name=some (some (.ref f))) (ht:W.isFn K (.ref f)=true) (hv:mA name=none) (h:Q (.ref f,[.ref x]) s) :
    wpAny .(i) A (getMethod (.ref x) name pl) Q E s:=by
  obtain ⟨od,J,hl⟩:=I.look;exact W.method_fn X J (W.plainGet_of hg).1 (W.plainGet_of hg).2 hf (beq_iff_eq.mp ht) (by show (W.lookIn name od).map (·.isSome)=some false;rw[hl,hv];rfl) h
def FO {ns:List Str}{Q:Unit->Shared->Prop}(X:K.In s.heap)(I:ObjM s.heap x dx C mA)
    (hs:findIn K (.ref C) "__setattr__" = some (some (.builtin "object.__setattr__"))) (hp:W.plainOver K C=true) (ht:W.takerIn K C name=some none) (hh:W.hasDictIn K C=true)
    (hw:PySem.Within mA ns) (hsz:ns.length<=sizeLine)
    (h:∀ h',ObjM h' x dx C (λy=>if y=name then some v else mA y)->Heap.SameBut dx s.heap h'->Q () { s with heap:=h',toks:=s.toks+2 }) :
    wpAny .(i) A (setAttr (.ref x) name v) Q E s:=by
  obtain ⟨od,J,hl⟩:=I.look;refine W.set_plain X J hs (W.osa_open (s:={ s with toks:=s.toks+1 }) (r:=none) X J hp ht λb=>?_);obtain ⟨cd,hc,hd'⟩:=W.any_some hh;have hx:s.heap.get? x=some #[.ref C,some dx,.plain,(List.toArray [])]:=I.obj;refine ax (aM (ax (ax (wpAny_loadPart hx (ax (W.Looks.here (s:={ s with toks:=s.toks+1 }) (W.looks_clsIn X hc) ?_))))));rw[hd'];refine aM (a:=some dx) (ax (aM (ax ?_)));refine wpAny_nsSet1 (s:={ s with toks:=s.toks+1 }) I.ns λh' hn2 hs2=>?_;obtain ⟨oD,esD,epD,hoD,hdD,hcD⟩:=hn2.count (PySem.Within.cons name v hw);refine ax (wpAny_lookBehind hoD (by rw[hdD];exact pastItsLine_dict (bW hcD (by rw[dC];lia))) ?_);exact aM (h _ #[(hs2.2 _ (bt I.ne)).trans I.obj,hn2,I.ne] hs2)
def FP {R:Result->Shared->Prop}{vs:List Value}{kw:List (Str×Value)}(X:K.In s.heap)(hm:W.makesIn K C=true)
    (hi:findIn K (.ref C) "__init__" = some (some (.ref f))) (hf:W.typeIn K (.ref f)=some (.type "function"))
    (h:codeAny (model prog w) (A.under (.builtin "type.__call__" #[.ref C::vs,kw])) (.call (.ref f) #[.ref (s.heap.objs.size+1)::vs,kw]) (W.InitBack (s.heap.objs.size+1) R)
      { s with heap:=(s.heap.push W.emptyDict).push (W.instObj C s.heap.objs.size) }) :
    codeAny .(i) A (.call (.ref C) #[vs,kw]) R s:=by
  obtain ⟨hh,g,d,t,os⟩:=s;exact W.make_core (W.makes_of X hm) (W.looks_findIn X hi) (λself=>W.bind_fn X self hf) .(va) h
end
def putF (f:Str)(v:V):List (Str×V)->List (Str×V)
  | []=>[(f,v)]
  | (g,x)::r=>if g=f then (g,v)::r else (g,x)::putF f v r
def Aq (f g:Str)(v:V):∀ fs:List (Str×V),(putF f v fs).lookup g=if g=f then some v else fs.lookup g
  | []=>by
    show List.lookup g [(f,v)]=_;by_cases h:g=f
    · have hb:(g==f)=true:=beq_iff_eq.mpr h
      simp only[List.lookup,hb,ak h]
    · have hb:(g==f)=false:=beq_eq_false_iff_ne.mpr h
      simp only[List.lookup,hb,ao h]
  | (k,x)::r=>by
    have ih:=Aq f g v r;rw[show putF f v ((k,x)::r)=(if k=f then (k,v)::r else (k,x)::putF f v r) from rfl]
    by_cases hk:k=f
    · rw[ak hk]
      by_cases h:g=k
      · have hb:(g==k)=true:=beq_iff_eq.mpr h
        simp only[List.lookup,hb,ak (h.trans hk)]
      · have hb:(g==k)=false:=beq_eq_false_iff_ne.mpr h
        simp only[List.lookup,hb,ao (λe:g=f=>h (e.trans hk.symm))]
    · rw[ao hk]
      by_cases h:g=k
      · have hb:(g==k)=true:=beq_iff_eq.mpr h
        simp only[List.lookup,hb,ao (λe:g=f=>hk (h.symm.trans e))]
      · have hb:(g==k)=false:=beq_eq_false_iff_ne.mpr h
        simp only[List.lookup,hb];exact ih
def uP (f:Str)(v:V):∀ fs:List (Str×V),f∈(putF f v fs).map (·.1)/\∀ g,g∈fs.map (·.1)->g∈(putF f v fs).map (·.1)
  | []=>#[by simp[putF],λg h=>by simp at h]
  | (k,x)::r=>by
    obtain ⟨i1,i2⟩:=uP f v r;rw[show putF f v ((k,x)::r)=(if k=f then (k,v)::r else (k,x)::putF f v r) from rfl]
    by_cases hk:k=f
    · rw[ak hk]
      subst hk;exact #[by simp,λg h=>by simpa using h]
    · rw[ao hk]
      refine #[?_,λg h=>?_]
      · rw[bL]
        exact bP _ i1
      · rw[bL]at h ⊢
        rcases aU.mp h with e|e
        · exact aU.mpr (.inl e)
        · exact bP _ (i2 g e)
def Ar (f:Str)(v:V):∀ fs:List (Str×V),(putF f v fs).length<=fs.length+1
  | []=>by simp[putF]
  | (k,x)::r=>by
    have ih:=Ar f v r;rw[show putF f v ((k,x)::r)=(if k=f then (k,v)::r else (k,x)::putF f v r) from rfl]
    by_cases hk:k=f
    · rw[ak hk,dC,dC];lia
    · rw[ao hk,dC,dC];lia
def RelO.some_of {v:V}{o:Option Value}(r:RelO (some v) o):∃ u,o=some u/\RelV v u:=by
  cases o with
  | none=>exact (show False from r).elim
  | some u=>exact #[u,rfl,r]
def RelO.none_of {o:Option Value}(r:RelO none o):o=none:=by
  cases o with
  | none=>rfl
  | some u=>exact (show False from r).elim
def FQ {v:V}{u:Value}(r:RelV v u):W.handedIn u=true:=by
  cases v with
  | non=>cases (show u=Value.none from r);rfl
  | bl b=>cases (show u=Value.bool b from r);rfl
  | int i=>obtain ⟨t,e⟩:=(show ∃ t,u=Value.int i t from r);cases e;rfl
  | str x=>obtain ⟨t,e⟩:=(show ∃ t,u=Value.str x t from r);cases e;rfl
  | byt b=>obtain ⟨t,e⟩:=(show ∃ t,u=Value.bytes b t from r);cases e;rfl
  | flt b=>obtain ⟨t,e⟩:=(show ∃ t,u=Value.float b t from r);cases e;rfl
  | ref a=>cases (show u=Value.ref a from r);rfl
  | ty n=>cases (show u=Value.type n from r);rfl
section
variable {P:Program}{w:World}{H H':Hp}{h h':Heap}{a C dx:Addr}{fs fs':List (Str×V)}
def oO (hok:HOk P w H h)(e:H a=some (.ins C dx fs)):∃ mA,ObjM h a dx C mA/\(∀ f,RelO (fs.lookup f) (mA f))/\PySem.Within mA (fs.map (·.1))/\fs.length<=1000/\H dx=some (.own a):=by
  obtain ⟨d,z,ne,ob,mA,n,r,q⟩:=(show bJ P w H h a (.ins C dx fs) from hok a _ e);exact #[mA,#[ob,n,ne],r,q,z,d]
end
structure Cls (K:Frag)(C:Addr):Prop where
  pg:W.plainGet K C Str.empty=true
  hd:W.hasDictIn K C=true
  po:W.plainOver K C=true
  sa:findIn K (.ref C) "__setattr__" = some (some (.builtin "object.__setattr__"))
def Cls.get {K:Frag}{C:Addr}(c:Cls K C)(f:Str):W.plainGet K C f=true:=c.pg
def i3 (K:Frag)(C:Addr)(f:Str):Prop:=findIn K (.ref C) f=some none
def i3.taker {K:Frag}{f:Str}(n:i3 K C f):W.takerIn K C f=some none:=by
  unfold W.takerIn;rw[show findIn K (.ref C) f=some none from n];rfl
structure Meth (K:Frag)(C:Addr)(m:Str)(f:Addr):Prop where
  at_:findIn K (.ref C) m=some (some (.ref f))
  fn:W.isFn K (.ref f)=true
  kp:keepIn K (.ref f)=true
section
variable {X:Cx}{Rf:List (Addr×Obj)}{U:St}{H:Hp}{s:Shared}{a C dx:Addr}{fs:List (Str×V)}{f:Str}{v:V}{A:Around}{E:Value->Shared->Prop}
def FR {b:Bool}{Q:Value->Shared->Prop}(I:Inv X Rf U H s)(e:H a=some (.ins C dx fs))(c:Cls X.K C)(n:i3 X.K C f)(l:fs.lookup f=some v)
    (h:∀ u s',Inv X Rf U H s'->RelV v u->Q u s'):wpAny .(d) A (getAttr (.ref a) f b) Q E s:=by
  obtain ⟨mA,O,r,_,_,_⟩:=oO I.hok e;obtain ⟨u,hu,ru⟩:=RelO.some_of (v:=v) (o:=mA f) (by rw[<-l];exact r f);exact FL I.kIn O (c.get f) c.hd n hu (FQ ru) (h u _ (I.tok _) ru)
def uQ {pl:Sem Bool}{Q:Value×List Value->Shared->Prop}(I:Inv X Rf U H s)(e:H a=some (.ins C dx fs))(c:Cls X.K C)(k:Meth X.K C m g)(l:fs.lookup m=none)
    (h:Q (.ref g,[.ref a]) s):wpAny .(d) A (getMethod (.ref a) m pl) Q E s:=by
  obtain ⟨mA,O,r,_,_,_⟩:=oO I.hok e;have hn:mA m=none:=RelO.none_of (by rw[<-l];exact r m);exact FN I.kIn O (c.get m) k.at_ k.fn hn h
def FS {y:V}{u:Value}{Q:Unit->Shared->Prop}(I:Inv X Rf U H s)(e:H a=some (.ins C dx fs))(c:Cls X.K C)(n:i3 X.K C f)(hl:fs.length<1000)(ry:RelV y u)
    (h:∀ s',Inv X Rf U (upd H a (.ins C dx (putF f y fs))) s'->Q () s'):wpAny .(d) A (setAttr (.ref a) f u) Q E s:=by
  obtain ⟨mA,O,r,wi,_,ho⟩:=oO I.hok e;have hz:(fs.map (·.1)).length<=sizeLine:=by rw[ai,sizeLine_eq];lia
  refine FO I.kIn O c.sa c.po n.taker c.hd wi hz λh' O' sb=>h _ ?_;have hd:∃ o,h'.get? dx=some o:=let ⟨o,_,_,e',_⟩:=O'.ns;#[o,e'];refine I.write (x:=a) (e:=dx) (by rw[e];exact True.intro) (.inr ho) (λb q hb z=>(sb.2 b hb).trans z) hd ?_;refine #[by rw[aj O.ne];exact ho,?_,O.ne,O'.obj,_,O'.ns,λg=>?_,λg hg=>?_]
  · have:=Ar f y fs;lia
  · show RelO ((putF f y fs).lookup g) (if g=f then some u else mA g)
    rw[Aq];by_cases q:g=f
    · rw[ak q,ak q];exact ry
    · rw[ao q,ao q];exact r g
  · by_cases q:g=f
    · rw[q];exact (uP f y fs).1
    · refine (uP f y fs).2 g (wi g λz=>hg ?_)
      show (if g=f then some u else mA g)=none
      rw[ao q];exact z
def Inv.made (I:Inv X Rf U H s):Inv X Rf U (upd (upd H s.heap.objs.size (.own (s.heap.objs.size+1))) (s.heap.objs.size+1) (.ins C s.heap.objs.size []))
    { s with heap:=(s.heap.push W.emptyDict).push (W.instObj C s.heap.objs.size) }:=by
  have e1:(s.heap.push W.emptyDict).get? s.heap.objs.size=some W.emptyDict:=cB s.heap rfl;have e2:((s.heap.push W.emptyDict).push (W.instObj C s.heap.objs.size)).get? (s.heap.objs.size+1)=some (W.instObj C s.heap.objs.size):=by
    have:=cB (s.heap.push W.emptyDict) (o:=W.instObj C s.heap.objs.size) rfl;rwa[jB]at this
  have e3:(s.heap.push W.emptyDict).Ns s.heap.objs.size (λ_=>none):=#[W.emptyDict,(List.toArray []),_,e1,rfl,(λe he=>absurd he .(k)),λ_=>rfl];have I1:=I.laid (a:=s.heap.objs.size) (o:=.own (s.heap.objs.size+1)) (h':=s.heap.push W.emptyDict) (t':=s.toks) (λb u q=>aY _ q) (aq _) #[_,e1];refine I1.laid (a:=s.heap.objs.size+1) (o:=.ins C s.heap.objs.size []) (t':=s.toks) (λb u q=>aY _ q) (lZ (jB _ _)) ?_;have ne:s.heap.objs.size≠s.heap.objs.size+1:=bK (kh _);refine #[by rw[aj ne,ag],cv _,ne,e2,λ_=>none,(Heap.Ns1.of_empty e3).at λo q=>aY _ q,λ_=>True.intro,λy hy=>absurd rfl hy]
def FT {prog:Program}{w:World}{env:Env}{e:Expr}{f:Str}{pos:Pos}{s:Shared}{Q:Value->Shared->Prop}(hb:attributeBase e f env (eval e env)=eval e env)
    (h:wpAny .(i) A (eval e env) (λo s₁=>wpAny .(i) A (getAttr o f true) Q E s₁) E s):wpAny .(i) A (eval (.Attribute e f pos) env) Q E s:=
  Attribute_any_ h (by rw[arm_eval_Attribute,hb])
end
inductive As (K:Frag)(f:Str)(Q:VK)(x:V)(H1:Hp):Prop
  | c:∀ a C dx fs v,x=.ref a->H1 a=some (.ins C dx fs)->Cls K C->i3 K C f->fs.lookup f=some v->Q v H1->As K f Q x H1
def tFld (K:Frag)(ta:TE)(f:Str):TE:=λU H Q=>ta U H λx H1=>As K f Q x H1
inductive Au (K:Frag)(f:Str)(D:Ends)(U:St)(y:V)(x:V)(H2:Hp):Prop
  | c:∀ a C dx fs,x=.ref a->H2 a=some (.ins C dx fs)->Cls K C->i3 K C f->fs.length<1000->D.nx U (upd H2 a (.ins C dx (putF f y fs)))->Au K f D U y x H2
def sFld (K:Frag)(ta tv:TE)(f:Str):TS:=λD U H=>tv U H λy H1=>ta U H1 λx H2=>Au K f D U y x H2
section
variable {X:Cx}{o e value:Expr}{f:Str}{pos pos' tpos:Pos}{ta tv:TE}
def fg (he:PE X e ta)(hb:attributeBase e f X.env (eval e X.env)=eval e X.env):PE X (.Attribute e f pos) (tFld X.K ta f):=by
  intro Rf s U H Q I h;refine FT hb (thn .(sa) λu s1 zq0=>?_);obtain ⟨x,H1,I1,rx,a,C,dx,fs,v,ex,ea,c,n,l,q⟩:=zq0;subst ex;obtain rfl:u=Value.ref a:=rx;exact FR I1 ea c n l λu' s2 I2 ru=>#[v,H1,I2,ru,q]
def oP (ha:PE X o ta)(hv:PE X value tv)(hs:swapsWith value (some (.Attribute o f pos')) pos.line X.env=pure false):PS X (.Assign [.Attribute o f pos'] value pos) (sFld X.K ta tv f):=by
  intro Rf s U H D I h;refine plainObj_wpAny_Assign_Attribute (thn (hv Rf s U H _ I h) λu s1 zq0=>?_) hs;obtain ⟨y,H1,I1,ry,q⟩:=zq0;refine thn (ha Rf s1 U H1 _ I1 q) λov s2 zq1=>?_;obtain ⟨x,H2,I2,rx,a,C,dx,fs,ex,ea,c,n,l,q2⟩:=zq1;subst ex;obtain rfl:ov=Value.ref a:=rx;exact FS I2 ea c n l ry λs3 I3=>#[U,_,I3,q2]
end
section
variable {X:Cx}{Rf:List (Addr×Obj)}{U:St}{H:Hp}{s:Shared}{A:Around}{E:Value->Shared->Prop}{Q:Value->Shared->Prop}{c:Value}{b:Bool}
inductive TyOf (K:Frag)(H:Hp):V->Value->Prop where
  | non:TyOf K H .non (.type "NoneType")
  | bl (x:Bool):TyOf K H (.bl x) (.type "bool")
  | int (i:Int):TyOf K H (.int i) (.type "int")
  | str (x:Str):TyOf K H (.str x) (.type "str")
  | flt (x:UInt64):TyOf K H (.flt x) (.type "float")
  | lst {a:Addr} {xs:List V} (e:H a=some (.lst xs)):TyOf K H (.ref a) (.type "list")
  | frz {a:Addr} {o:Obj} {xs:List V} (e:H a=some (.frz o (.lst xs))):TyOf K H (.ref a) (.type "list")
  | tup {a:Addr} {xs:List V} (e:H a=some (.tup xs)):TyOf K H (.ref a) (.type "tuple")
  | dK {a:Addr} {kvs:List (Key×V)} (e:H a=some (.dK kvs)):TyOf K H (.ref a) (.type "dict")
  | dT {a:Addr} {kvs:List (List Key×V)} (e:H a=some (.dT kvs)):TyOf K H (.ref a) (.type "dict")
  | ins {a C dx:Addr} {fs:List (Str×V)} (e:H a=some (.ins C dx fs)) (cl:Cls K C) (ha:findIn K (.ref C) "__class__" = some (some (.builtin "object.__class__")))
      (hn:W.specialIn K .(aa) "__get__" = some (some (.builtin "getset_descriptor.__get__"))) (htk:W.takesIn K .(aa)=some true)
      (hm:mroIn K C (.type "object")=some true):TyOf K H (.ref a) (.ref C)
def FU {x:V}{u t:Value}(I:Inv X Rf U H s)(rx:RelV x u)(ty:TyOf X.K H x t)(e:kitOne X.K t c=some b)(h:∀ tk,Q (.bool b) { s with toks:=tk }) :
    wpAny .(d) A (call (.builtin "isinstance") [u,c]) Q E s:=by
  cases ty with
  | non=>cases (show u=Value.none from rx);exact W.kia_one W.kitx_none I.kIn True.intro e nofun h
  | bl y=>cases (show u=Value.bool y from rx);exact W.kia_one W.kitx_bool I.kIn True.intro e nofun h
  | int i=>obtain ⟨t,q⟩:=(show ∃ t,u=Value.int i t from rx);cases q;exact W.kia_one W.kitx_int I.kIn True.intro e nofun h
  | str y=>obtain ⟨t,q⟩:=(show ∃ t,u=Value.str y t from rx);cases q;exact W.kia_one W.kitx_str I.kIn True.intro e nofun h
  | flt y=>obtain ⟨t,q⟩:=(show ∃ t,u=Value.float y t from rx);cases q;exact W.kia_one W.kitx_float I.kIn True.intro e nofun h
  | @lst a xs ea=>
    cases (show u=Value.ref a from rx)
    obtain ⟨_,_,n,_,h1⟩:=(show bJ X.prog X.w H s.heap a (.lst xs) from I.hok a _ ea);exact W.kia_one W.kitx_list I.kIn #[_,h1,rfl] e nofun h
  | @frz a ob xs ea=>
    cases (show u=Value.ref a from rx)
    obtain ⟨_,_,_,n,_,h1⟩:=(show bJ X.prog X.w H s.heap a (.frz ob (.lst xs)) from I.hok a _ ea);exact W.kia_one W.kitx_list I.kIn #[_,h1,rfl] e nofun h
  | @tup a xs ea=>
    cases (show u=Value.ref a from rx)
    obtain ⟨_,_,_,p⟩:=(show bJ X.prog X.w H s.heap a (.tup xs) from I.hok a _ ea);obtain ⟨o,h1,h2,_⟩:=p;exact W.kia_one W.kitx_tuple I.kIn #[o,h1,h2] e nofun h
  | @dK a kvs ea=>
    cases (show u=Value.ref a from rx)
    obtain ⟨_,_,vs,_,p⟩:=(show bJ X.prog X.w H s.heap a (.dK kvs) from I.hok a _ ea);obtain ⟨o,es,ep,h1,h2,_⟩:=p;exact W.kia_one W.kitx_dict I.kIn #[o,h1,h2.1] e nofun h
  | @dT a kvs ea=>
    cases (show u=Value.ref a from rx)
    obtain ⟨_,_,xs,_,o,es,ep,h1,h2,_⟩:=(show bJ X.prog X.w H s.heap a (.dT kvs) from I.hok a _ ea);exact W.kia_one W.kitx_dict I.kIn #[o,h1,h2.1] e nofun h
  | @ins a C dx fs ea cl ha hn htk hm=>
    cases (show u=Value.ref a from rx)
    obtain ⟨mA,O,_⟩:=oO I.hok ea;obtain ⟨od,J,_⟩:=O.look;exact W.kia_one (W.kitx_own (cl.get _) cl.hd ha hn htk hm) I.kIn J e nofun h
end
structure Room (k:Nat)(A:Around):Prop where
  hd:A.handled=none
  dp:A.depth+3*k+5<recursionLimit
  un:A.units+16*k+200<cLine
  gd:A.guards=some []
def Room.mono {j k:Nat}{A:Around}(r:Room k A)(h:j<=k):Room j A:=#[r.hd,by have:=r.dp;lia,by have:=r.un;lia,r.gd]
def Room.deeper {k:Nat}{A:Around}(r:Room (k+1) A)(env:Env):Room k (A.deeper env):=
  #[r.hd,by have:=r.dp;show A.depth+1+3*k+5<_;lia,by have:=r.un;show A.units+3+16*k+200<_;lia,r.gd]
def FW {A:Around}{C:Addr}{us:List Value}{kw:List (Str×Value)}:(A.under (.builtin "type.__call__" #[.ref C::us,kw])).depth=A.depth+1:=by
  first|rfl|simp[Around.under,Code.weight,Code.isCreation,Code.isGuard,Code.isCaller,Code.frames,Code.isFrame,guardIds]
def FY {A:Around}{C:Addr}{us:List Value}{kw:List (Str×Value)}:(A.under (.builtin "type.__call__" #[.ref C::us,kw])).units=A.units+1:=by
  first|rfl|simp[Around.under,Code.cUnits,Code.frames,Code.isFrame]
def Room.make {k:Nat}{A:Around}(r:Room (k+1) A)(C:Addr)(us:List Value)(kw:List (Str×Value)):Room k (A.under (.builtin "type.__call__" #[.ref C::us,kw])):=
  #[r.hd,by have:=r.dp;rw[FW];lia,by have:=r.un;rw[FY];lia,by have h:=r.gd;simp[Around.under,Code.guards,Code.isGuard,guardIds,pushGuards,h]]
def Room.depth {k:Nat}{A:Around}(r:Room k A):A.depth<recursionLimit:=by have:=r.dp;lia
def Room.units {k:Nat}{A:Around}(r:Room k A):A.units+64<cLine:=by have:=r.un;lia
def tNil:TA:=λ_ H Q=>Q [] H
def uR (ta:TE)(tr:TA):TA:=λU H Q=>ta U H λx H1=>tr U H1 λxs H2=>Q (x::xs) H2
section
variable {X:Cx}{e:Expr}{es:List Expr}{te:TE}{t:TA}{pos:Pos}
def ae:PA X [] tNil:=λ_ _ _ _ H Q I h=>Calls.spliced_nil #[[],H,I,.nil,h]
def aa (ha:PE X e te)(hr:PA X es t)(hs:starEach (e::es) X.env= .(w)::starEach es X.env:=by rfl):PA X (e::es) (uR te t):=by
  intro pos Rf s U H Q I h;rw[hs];show wpAny _ _ (spliced (.(w)::backTo pos (starEach es X.env))) _ _ s;refine Calls.spliced_cons (thn (ha Rf s U H _ I h) λu s1 zq0=>?_);obtain ⟨x,H1,I1,r1,q1⟩:=zq0;exact thn (hr pos Rf s1 U H1 _ I1 q1) λus s2 zq0=>(by obtain ⟨xs,H2,I2,r2,q2⟩:=zq0;exact #[x::xs,H2,I2,.cons r1 r2,q2])
inductive Aw (Q:VK)(xs:List V)(H1:Hp):Prop
  | c:xs.length<=sizeLine->(∀ p,H1 p=none->Q (.ref p) (upd H1 p (.tup xs)))->Aw Q xs H1
def tTup (t:TA):TE:=λU H Q=>t U H λxs H1=>Aw Q xs H1
inductive Ax (Q:VK)(xs:List V)(H1:Hp):Prop
  | c:xs.length<=sizeLine->(∀ p,H1 p=none->Q (.ref p) (upd H1 p (.lst xs)))->Ax Q xs H1
def tLst (t:TA):TE:=λU H Q=>t U H λxs H1=>Ax Q xs H1
def cE {x1}(h:PA X es t):PE X (.Tuple es x1 pos) (tTup t):=by
  intro Rf s U H Q I hq;refine wpAny_Tuple_spliced (thn (h pos Rf s U H _ I hq) λus s1 zq0=>?_);obtain ⟨xs,H1,I1,r,z,q⟩:=zq0;refine #[by rw[<-r.length];exact z,?_];have hf:H1 s1.heap.objs.size=none:=I1.hok.fresh (aq _);refine #[.ref s1.heap.objs.size,upd H1 s1.heap.objs.size (.tup xs),I1.laid (t':=s1.toks) (λb u e=>aY _ e) (aq _) ?_,rfl,q _ hf];exact #[z,us,r,#[_,cB _ rfl,rfl,_,rfl]]
def bN (h:PA X es t):PE X (.List es pos) (tLst t):=by
  intro Rf s U H Q I hq;refine wpAny_List_spliced (thn (h pos Rf s U H _ I hq) λus s1 zq0=>?_);obtain ⟨xs,H1,I1,r,z,q⟩:=zq0;refine #[by rw[<-r.length];exact z,?_];have hf:H1 s1.heap.objs.size=none:=I1.hok.fresh (aq _);refine #[.ref s1.heap.objs.size,upd H1 s1.heap.objs.size (.lst xs),I1.laid (t':=s1.toks) (λb u e=>aY _ e) (aq _) ?_,rfl,q _ hf];exact #[z,us,0,r,cB _ rfl]
end
abbrev Sp:=List V->Hp->VK->XK->Prop
abbrev CXT:=List Env->Hp->Shared->XK->Value->Shared->Prop
structure Env0 (P:Program)(w:World)(K:Frag)(mg:Str->Option Value)(base:Heap)(A:Around)(outer:List Env)(s:Shared)(H:Hp):Prop where
  frames:A.frames=some outer
  mod:Mod K mg base
  bs:∀ b o,base.get? b=some o->s.heap.get? b=some o/\H b=none
  bsz:base.objs.size<=s.heap.objs.size
  funs:s.heap.FunFrames base outer
  frf:∀ b∈frs outer,H b=none
  hok:HOk P w H s.heap
  bare:AllBare s.gens
def CE (outer:List Env)(P:Program)(w:World)(H:Hp)(s:Shared)(Q:VK)(u:Value)(s':Shared):Prop:=
  ∃ v H',s'.os=s.os/\AllBare s'.gens/\Un (frs outer) [] H H' s.heap s'.heap/\HOk P w H' s'.heap/\RelV v u/\Q v H'
def CR (CX:CXT)(outer:List Env)(P:Program)(w:World)(H:Hp)(s:Shared)(Q:VK)(E:XK)(r:Result)(s':Shared):Prop:=
  match r with
  | .ok (.ret u)=>CE outer P w H s Q u s'
  | .ok _=>False
  | .error e=>CX outer H s E e s'
structure FnOk (P:Program)(w:World)(K:Frag)(mg:Str->Option Value)(base:Heap)(CX:CXT)(k:Nat)(f:Addr)(fd:FuncData)(ps:List Str)(sp:Sp):Prop where
  len:∀ vs H Q E,sp vs H Q E->vs.length=ps.length
  run:∀(A:Around) (outer:List Env) (s:Shared) (H:Hp) (args:Args) (us:List Value) (vs:List V) (Q:VK) (E:XK),Room k A->Env0 P w K mg base A outer s H->BindsTo s fd args (ps.zip us)->Vals vs us->sp vs H Q E->
    codeAny (model P w) A (.call (.ref f) args) (CR CX outer P w H s Q E) s
def FnOk.mono {w:World}{K:Frag}{mg:Str->Option Value}{base:Heap}{k:Nat}{f:Addr}{fd:FuncData}(F:FnOk P w K mg base CX j f fd ps sp)(h:j<=k) :
    FnOk P w K mg base CX k f fd ps sp:=#[F.len,λA outer s H args us vs Q E hr=>F.run A outer s H args us vs Q E (hr.mono h)]
def Env0.make {w:World}{K:Frag}{mg:Str->Option Value}{base:Heap}{A:Around}{outer:List Env}{s:Shared}(e:Env0 P w K mg base A outer s H)(C:Addr)(us:List Value)(kw:List (Str×Value)) :
    Env0 P w K mg base (A.under (.builtin "type.__call__" #[.ref C::us,kw])) outer s H:=#[by first|exact e.frames|(simpa [Around.under,Code.envs,Code.isFrame,pushEnvs] using e.frames),e.mod,e.bs,e.bsz,e.funs,e.frf,e.hok,e.bare]
section
variable {X:Cx}{Rf:List (Addr×Obj)}{U:St}{H:Hp}{s s':Shared}
def Inv.env0 (I:Inv X Rf U H s):Env0 X.prog X.w X.K X.mg X.base X.A X.stack s H:=
  #[I.ok.frames,I.ok.mod,I.bs,bW I.ok.bsz I.sz,I.stack,I.stkFree,I.hok,I.bare]
def Inv.after (I:Inv X Rf U H s)(h:CE X.stack X.prog X.w H s Q u s'):EP X Rf U Q u s':=by
  obtain ⟨v,H',os,bare,un,hok,r,q⟩:=h;obtain ⟨hh,g,d,t,os'⟩:=s';obtain rfl:os'=s.os:=os;exact #[v,H',I.call (h':=hh) (g':=g) (d':=d) (t':=t) (ch:=[]) un hok bare (λb z=>absurd z .(k)),r,q]
end
def uS (sp:Sp)(dvs:List V)(E:XK)(t:TA):TE:=λU H Q=>t U H λvs H1=>sp (vs++dvs) H1 Q E
inductive Ay (C:Addr)(m:Str)(sp:Sp)(dvs:List V)(E:XK)(t:TA)(U:St)(Q:VK)(x:V)(H1:Hp):Prop
  | c:∀ a dx fs,x=.ref a->H1 a=some (.ins C dx fs)->fs.lookup m=none->(t U H1 λvs H2=>sp (x::(vs++dvs)) H2 Q E)->Ay C m sp dvs E t U Q x H1
def oQ (C:Addr)(m:Str)(sp:Sp)(dvs:List V)(E:XK)(ta:TE)(t:TA):TE:=λU H Q=>ta U H λx H1=>Ay C m sp dvs E t U Q x H1
def Az (C:Addr)(sp:Sp)(dvs:List V)(E:XK)(t:TA):TE:=λU H Q=>t U H λvs H1=>∀ x dx,H1 x=none->H1 dx=none->dx≠x->
  sp (.ref x::(vs++dvs)) (upd (upd H1 dx (.own x)) x (.ins C dx [])) (λv H2=>v=.non/\Q (.ref x) H2) E
def dn (K:Frag)(fd:FuncData)(ps:List Str)(ds:List Value):Prop:=
  ∀(s:Shared) (us:List Value),K.In s.heap->(us++ds).length=ps.length->BindsTo s fd #[us,[]] (ps.zip (us++ds))
def dn.all {K:Frag}{fd:FuncData}{ps:List Str}(h:∀ us:List Value,us.length=ps.length->bindArgs fd #[us,[]]=pure (ps.zip us)):dn K fd ps []:=λs us _ hl=>by
  rw[bQ]at hl ⊢;exact .of_eq (h us hl)
def iy (CX:CXT)(X:Cx)(E:XK):Prop:=∀(Rf:List (Addr×Obj)) (U:St) (H:Hp) (s:Shared) (e:Value) (s':Shared),Inv X Rf U H s->CX X.stack H s E e s'->X.xe e s'
section
variable {X:Cx}{CX:CXT}{k:Nat}{f C:Addr}{fd:FuncData}{ps:List Str}{sp:Sp}{dvs:List V}{ds:List Value}{E:XK}{x m:Str}{p pos apos:Pos}{e o:Expr}{es:List Expr}{ta:TE}{t:TA}
def oR {Q:VK}{us:List Value}{vs:List V}(F:FnOk X.prog X.w X.K X.mg X.base CX k f fd ps sp)(hr:Room k X.A)(hb:dn X.K fd ps ds)(hd:Vals dvs ds)(hx:iy CX X E)
    (I:Inv X Rf U H s) (r:Vals vs us) (h:sp (vs++dvs) H Q E):wpAny .(d) X.A (call (.ref f) us) .(X) X.xe s:=by
  have r2:Vals (vs++dvs) (us++ds):=r.append hd;have hl:(us++ds).length=ps.length:=by rw[<-r2.length];exact F.len _ _ _ _ h
  refine wpAny_call (codeAny_mono (F.run X.A X.stack s H #[us,[]] (us++ds) (vs++dvs) Q E hr I.env0 (hb s us I.kIn hl) r2 h) λr s' hq=>?_);cases r with
  | error e=>exact hx Rf U H s e s' I hq
  | ok fl=>
    cases fl with
    | ret u=>exact I.after hq
    | next=>exact False.elim hq
    | brk=>exact False.elim hq
    | cont=>exact False.elim hq
def FZ (F:FnOk X.prog X.w X.K X.mg X.base CX k f fd ps sp)(hr:Room k X.A)(hg:Gl X x)(hm:X.mg x=some (.ref f))(hk:keepIn X.K (.ref f)=true)(hb:dn X.K fd ps ds)(hd:Vals dvs ds)(hx:iy CX X E)
    (ha:PA X (e::es) t) (hdb: .(o)=false:=by decide) (he:starEach (e::es) X.env= .(w)::starEach es X.env:=by rfl) (hpl: .(r).any (·.1)=false:=by rfl) :
    PE X .(C) (uS sp dvs E t):=by
  intro Rf s U H Q I h;refine wpAny_Call_Name_kw (ir I hg hm ?_ hdb);refine W.callWith_K (h₀:=X.base) I.ok.mod.kin hk .(F) he hpl;obtain ⟨vs,H1,I1,r,q⟩:=zq0;refine #[I1.kIn,?_];exact oR F hr hb hd hx I1 r q
def F1 {pl:Sem Bool}(he:PE X o ta)(c:Cls X.K C)(hm:Meth X.K C m f)(F:FnOk X.prog X.w X.K X.mg X.base CX k f fd ps sp)(hr:Room k X.A)(hb:dn X.K fd ps ds)(hd:Vals dvs ds)(hx:iy CX X E)(ha:PA X (e::es) t)
    (hst:starEach (e::es) X.env= .(w)::starEach es X.env:=by rfl) (hpl: .(r).any (·.1)=false:=by rfl)
    (ht:eval (.Call (.Attribute o m apos) (e::es) [] pos) X.env=(do
      let ov <-eval o X.env
      standAt apos.atName
      let (f,first) <-holding [ov] (getMethod ov m pl)
      callWith pos f first (backTo pos (starEach (e::es) X.env)) (backToKw pos (keywordEach [] X.env))):=by rfl) :
    PE X (.Call (.Attribute o m apos) (e::es) [] pos) (oQ C m sp dvs E ta t):=by
  intro Rf s U H Q I h;refine W.methodCall_KW (pl:=pl) (thn .(sa) λu s1 zq0=>?_) ht;obtain ⟨x,H1,I1,rx,a,dx,fs,ex,ea,l,q⟩:=zq0;subst ex;obtain rfl:u=Value.ref a:=rx;refine uQ I1 ea c hm l ?_;refine W.callWith_K (first:=[.ref a]) (h₀:=X.base) I.ok.mod.kin hm.kp (thn (ha pos Rf s1 U H1 _ I1 q) λus s2 zq0=>?_) hst hpl
  obtain ⟨vs,H2,I2,r,q2⟩:=zq0;refine #[I2.kIn,?_];exact oR (us:=.ref a::us) (vs:=.ref a::vs) F hr hb hd hx I2 (.cons rfl r) q2
def Ga {pl:Sem Bool}(he:PE X o ta)(c:Cls X.K C)(hm:Meth X.K C m f)(F:FnOk X.prog X.w X.K X.mg X.base CX k f fd ps sp)(hr:Room k X.A)(hb:dn X.K fd ps ds)(hd:Vals dvs ds)(hx:iy CX X E)
    (ht:eval (.Call (.Attribute o m apos) [] [] pos) X.env=(do
      let ov <-eval o X.env
      standAt apos.atName
      let (f,first) <-holding [ov] (getMethod ov m pl)
      callWith pos f first (backTo pos (starEach [] X.env)) (backToKw pos (keywordEach [] X.env))):=by rfl) :
    PE X (.Call (.Attribute o m apos) [] [] pos) (oQ C m sp dvs E ta tNil):=by
  intro Rf s U H Q I h;refine W.methodCall_KW (pl:=pl) (thn .(sa) λu s1 zq0=>?_) ht;obtain ⟨x,H1,I1,rx,a,dx,fs,ex,ea,l,q⟩:=zq0;subst ex;obtain rfl:u=Value.ref a:=rx;refine uQ I1 ea c hm l ?_;exact W.callWith_K0 (first:=[.ref a]) I1.kIn hm.kp (oR (us:=[.ref a]) (vs:=[.ref a]) F hr hb hd hx I1 (.cons rfl .nil) q)
structure Mk (K:Frag)(C f:Addr):Prop where
  makes:W.makesIn K C=true
  init:findIn K (.ref C) "__init__" = some (some (.ref f))
  fn:W.isFn K (.ref f)=true
  kp:keepIn K (.ref C)=true
def Gb {Q:VK}{us:List Value}{vs:List V}(M:Mk X.K C f)(F:FnOk X.prog X.w X.K X.mg X.base CX k f fd ps sp)(hr:Room (k+1) X.A)(hb:dn X.K fd ps ds)(hd:Vals dvs ds)
    (hx:iy CX X E) (I:Inv X Rf U H s) (r:Vals vs us)
    (h:∀ x dx,H x=none->H dx=none->dx≠x->sp (.ref x::(vs++dvs)) (upd (upd H dx (.own x)) x (.ins C dx [])) (λv H2=>v=.non/\Q (.ref x) H2) E) :
    wpAny .(d) X.A (call (.ref C) us) .(X) X.xe s:=by
  have hq:=h (s.heap.objs.size+1) s.heap.objs.size (I.hok.fresh (fD _)) .(ja) (bK (kh _));have I2:=Inv.made (C:=C) I;have r2:Vals (V.ref (s.heap.objs.size+1)::(vs++dvs)) (Value.ref (s.heap.objs.size+1)::(us++ds)):=.cons rfl (r.append hd);have hl:(Value.ref (s.heap.objs.size+1)::us++ds).length=ps.length:=by
    have e:=r2.length;rw[F.len _ _ _ _ hq]at e;exact e.symm
  refine wpAny_call (FP (f:=f) I.kIn M.makes M.init (beq_iff_eq.mp M.fn) (codeAny_mono (F.run _ X.stack _ _ #[Value.ref (s.heap.objs.size+1)::us,[]] (Value.ref (s.heap.objs.size+1)::(us++ds)) _ _ E (hr.make C us [])
    (I2.env0.make C us []) (hb _ (Value.ref (s.heap.objs.size+1)::us) I2.kIn hl) r2 hq) λr s' hq'=>?_))
  cases r with
  | error e=>exact hx Rf U _ _ e s' I2 hq'
  | ok fl=>
    cases fl with
    | ret u=>
      obtain ⟨v,H',I3,rv,ev,q3⟩:=I2.after hq';subst ev;exact #[rv,#[V.ref (s.heap.objs.size+1),H',I3,rfl,q3]]
    | next=>exact False.elim hq'
    | brk=>exact False.elim hq'
    | cont=>exact False.elim hq'
def Gc (M:Mk X.K C f)(F:FnOk X.prog X.w X.K X.mg X.base CX k f fd ps sp)(hr:Room (k+1) X.A)(hg:Gl X x)(hm:X.mg x=some (.ref C))(hb:dn X.K fd ps ds)(hd:Vals dvs ds)(hx:iy CX X E)
    (ha:PA X (e::es) t) (hdb: .(o)=false:=by decide) (he:starEach (e::es) X.env= .(w)::starEach es X.env:=by rfl) (hpl: .(r).any (·.1)=false:=by rfl) :
    PE X .(C) (Az C sp dvs E t):=by
  intro Rf s U H Q I h;refine wpAny_Call_Name_kw (ir I hg hm ?_ hdb);refine W.callWith_K (h₀:=X.base) I.ok.mod.kin M.kp .(F) he hpl;obtain ⟨vs,H1,I1,r,q⟩:=zq0;refine #[I1.kIn,?_];exact Gb M F hr hb hd hx I1 r q
end
structure aL (N P:List Str)(sc:Scope):Prop where
  kind:sc.kind=.function
  co:sc.isCoroutine=false
  gen:sc.isGenerator=false
  nd:N.Nodup
  pre:N.take P.length=P
  par:∀ x∈P,sc.names.lookup x=some .local\/sc.names.lookup x=some .cell
  nofree:∀ y∈sc.names,y.2≠.free
def AA {kindOf:Str->Option NameKind}{x:Str}:∀{binds:List (Str×Value)} {m:Str->Option Value},(∀ v,(x,v)∉binds)->bindL kindOf binds m x=m x
  | [],_,_=>rfl
  | (n,v)::r,m,h=>by
    unfold bindL;rw[AA λw hw=>h w (bP _ hw)];split
    · have:x≠n:=by rintro rfl;exact h v bZ
      simp[this]
    · rfl
def AB {kindOf:Str->Option NameKind}{x:Str}:∀{binds:List (Str×Value)} {m:Str->Option Value},(∀ v,(x,v)∉binds)->bindC kindOf binds m x=m x
  | [],_,_=>rfl
  | (n,v)::r,m,h=>by
    unfold bindC;rw[AB λw hw=>h w (bP _ hw)];split
    · rfl
    · have:x≠n:=by rintro rfl;exact h v bZ
      simp[this]
def AC {kindOf:Str->Option NameKind}{x:Str}{v:Value}:∀{P:List Str} {vs:List Value} {i:Nat} {m:Str->Option Value},P.Nodup->P[i]?=some x->vs[i]?=some v->kindOf x=some .local->
    bindL kindOf (P.zip vs) m x=some v
  | [],_,_,_,_,h,_,_=>by simp at h
  | _::_,[],_,_,_,_,h,_=>by simp at h
  | p::P,w::vs,0,m,nd,h1,h2,hk=>by
    simp at h1 h2;subst h1;subst h2;show bindL kindOf ((p,w)::P.zip vs) m p=_;unfold bindL;rw[AA λv hv=>(dD.mp nd).1 (l0 hv).1,ak hk];simp
  | p::P,w::vs,i+1,m,nd,h1,h2,hk=>by
    show bindL kindOf ((p,w)::P.zip vs) m x=_;unfold bindL;exact AC (i:=i) (dD.mp nd).2 (by simpa using h1) (by simpa using h2) hk
def AE {kindOf:Str->Option NameKind}{x:Str}{v:Value}:∀{P:List Str} {vs:List Value} {i:Nat} {m:Str->Option Value},P.Nodup->P[i]?=some x->vs[i]?=some v->kindOf x≠some .local->
    bindC kindOf (P.zip vs) m x=some v
  | [],_,_,_,_,h,_,_=>by simp at h
  | _::_,[],_,_,_,_,h,_=>by simp at h
  | p::P,w::vs,0,m,nd,h1,h2,hk=>by
    simp at h1 h2;subst h1;subst h2;show bindC kindOf ((p,w)::P.zip vs) m p=_;unfold bindC;rw[AB λv hv=>(dD.mp nd).1 (l0 hv).1,ao hk];simp
  | p::P,w::vs,i+1,m,nd,h1,h2,hk=>by
    show bindC kindOf ((p,w)::P.zip vs) m x=_;unfold bindC;exact AE (i:=i) (dD.mp nd).2 (by simpa using h1) (by simpa using h2) hk
def cO (N:List Str)(vs:List V):St:=vs.map some++List.replicate (N.length-vs.length) none
def cxOf (CX:CXT)(P:Program)(w:World)(K:Frag)(mg:Str->Option Value)(base:Heap)(N:List Str)(qual:Str)(scope:Scope)(f:Addr)(cd:Value)(A:Around)(outer:List Env)(s:Shared)(H:Hp)(E:XK):Cx where
  prog:=P
  w:=w
  K:=K
  mg:=mg
  base:=base
  A:=A.deeper (envOfC qual scope s.heap.objs.size f cd)
  N:=N
  s₀:=s
  H₀:=H
  env:=envOfC qual scope s.heap.objs.size f cd
  outer:=outer
  stack:=envOfC qual scope s.heap.objs.size f cd::outer
  ex:=[]
  calm:=true
  fn:=λ_=>true
  pn:=[]
  xe:=λe s'=>wpAny (model P w) (A.deeper (envOfC qual scope s.heap.objs.size f cd)) (leaving (envOfC qual scope s.heap.objs.size f cd) e) (λ_ s''=>CX outer H s E e s'') (λe' s''=>CX outer H s E e' s'') s'
def AG {sc:Scope}{n:Nat}{x:Str}(h:sc.names.lookup x=some .cell):∃ c,(cellsFrom n sc.names []).lookup x=some c:=by
  have q:=W.cellsFrom_some sc.names n [] (.inl h);exact l6.mp q
def Gd {K:Frag}{qual:Str}{f:Addr}{cd:Value}{A:Around}{s1:Shared}{us:List Value}{vs:List V}
    (S:aL N ps scope) (hd:A.handled=none) (e0:Env0 P w K mg base A outer s H) (hl:vs.length=ps.length) (r:Vals vs us)
    (x:InCallC s s.heap.objs.size (bindL (envOfC qual scope s.heap.objs.size f cd).kindOf (ps.zip us) λ_=>none) (cellsFrom (s.heap.objs.size+1) scope.names []) (bindC (envOfC qual scope s.heap.objs.size f cd).kindOf (ps.zip us) λ_=>none) s1) :
    Inv (cxOf CX P w K mg base N qual scope f cd A outer s H E) [] (cO N vs) H s1:=by
  have hpl:ps.length<=N.length:=by have:=congrArg List.length S.pre;rw[bu]at this;lia
  obtain ⟨h1,tk,rfl,hk⟩:=x.done;have noA:∀ b:Addr,b∉(cxOf CX P w K mg base N qual scope f cd A outer s H E).ex:=λb z=>absurd (show b∈([]:List Addr) from z) (by simp);refine #[#[e0.mod,S.kind,rfl,rfl,aq _,λy z c h1 h2=>?_,λy hy=>?_,λy c _ h=>?_,λ_=>hd,Around.frames_deeper e0.frames,.inr #[rfl,rfl],λb z=>absurd z (noA b),e0.bs,e0.bsz,λb _ _=>noA b,λb z=>absurd z (noA b),e0.funs,e0.frf],
    rfl,e0.bare,Un.kept hk,#[_,x.toInCall.ns,λi y v h1 h2 h3=>?_],λy c h=>#[_,x.cell y c h],e0.hok.fresh (aq _),λy c h=>?_,λp hp=>absurd (show p∈([]:List (Addr×Obj)) from hp) (by simp),e0.hok.kept hk,?_]
  · exact name_of_addr x.apart (PySem.mem_of_lookup h1) (PySem.mem_of_lookup h2)
  · have hy:scope.names.lookup y=some .cell\/scope.names.lookup y=some .free:=hy
    rcases hy with hy|hy
    · exact AG hy
    · exact absurd rfl (S.nofree _ (PySem.mem_of_lookup hy))
  · exact eS (x.above y c (PySem.mem_of_lookup h))
  · have hi:i<vs.length:=by
      unfold cO at h2;by_cases hi:i<vs.length
      · exact hi
      · rw[gi (by simpa using hi)]at h2
        rw[List.getElem?_replicate]at h2;split at h2<;>cases h2
    have ha:vs[i]?=some v:=by
      unfold cO at h2;rw[iO (by simpa using hi),aZ]at h2;cases e:vs[i]? with
      | none=>rw[e]at h2;cases h2
      | some a=>rw[e]at h2;cases h2;rfl
    obtain ⟨u,hu,rv⟩:=r.get ha;have hp:ps[i]?=some y:=by
      rw[<-S.pre,List.getElem?_take_of_lt .(a)];exact h1
    have ndP:ps.Nodup:=by rw[<-S.pre];exact S.nd.sublist (List.take_sublist _ _)
    refine #[u,rv,?_];rcases S.par y (cX hp) with k|k
    · exact .inl #[k,AC ndP hp hu k]
    · obtain ⟨c,e⟩:=AG (n:=s.heap.objs.size+1) k
      refine .inr #[.inl k,c,e,?_];have q:=x.cell y c e;rw[AE ndP hp hu (by show scope.names.lookup y≠_;rw[k];decide)]at q;exact q
  · exact e0.hok.fresh (eS (x.above y c (PySem.mem_of_lookup h)))
  · unfold cO
    show _=N.length;rw[aS,ai,jC];lia
def oS {K:Frag}{k:Nat}{f:Addr}{name qual:Str}{params:Arguments}{body:List Stmt}{scope:Scope}{dV kV doc pm cdv ct oc:Value}{an od:Option Addr}
    {osl:Array (Option Value)}  {sp:Sp} (lk:K.lookup f=some #[oc,od,.func (fnOf name qual params body scope dV kV doc pm an cdv ct),osl]) (hcd:codeIn K cdv qual=true) (S:aL N ps scope)
    (len:∀ vs H Q E,sp vs H Q E->vs.length=ps.length)
    (hbody:∀(A:Around) (outer:List Env) (s:Shared) (H:Hp) (vs:List V) (Q:VK) (E:XK),Room k (A.deeper (envOfC qual scope s.heap.objs.size f cdv))->sp vs H Q E->
      ∃ t,PSs (cxOf CX P w K mg base N qual scope f cdv A outer s H E) body t/\t { nx:=λ_ H'=>Q .non H',rt:=Q } (cO N vs) H) :
    FnOk P w K mg base CX (k+1) f (fnOf name qual params body scope dV kV doc pm an cdv ct) ps sp:=by
  refine #[len,λA outer s H args us vs Q E hr e0 hb r hsp=>?_];have hl:=len _ _ _ _ hsp;have KX:K.In s.heap:=e0.mod.kin.keeps λb o e=>(e0.bs b o e).1;have lim:s.heap.NoLimit:=e0.mod.nolimit.keeps λb o e=>(e0.bs b o e).1;have hkind:∀ y∈ps.zip us,scope.names.lookup y.1=some .local\/(scope.names.lookup y.1=some .cell/\((cellsFrom (s.heap.objs.size+1) scope.names []).lookup y.1).isSome=true):=λ⟨n,v⟩ hy=>by
    rcases S.par n (l0 hy).1 with q|q
    · exact .inl q
    · exact .inr #[q,W.cellsFrom_some _ _ _ (.inl q)]
  refine codeAny_call_function hr.depth (KX _ _ lk) rfl S.co S.gen rfl (W.codeRec_of KX hcd) (hb _ _ _ _ ?_);refine wpAny_newFunctionEnv_cells S.kind hkind λenv he s1 x=>?_;subst he;refine #[lim.keeps x.toInCall.keep,codeAny_func ?_];obtain ⟨t,ht,hq⟩:=hbody A outer s H vs Q E (hr.deeper _) hsp;have I:Inv (cxOf CX P w K mg base N qual scope f cdv A outer s H E) [] (cO N vs) H s1:=Gd S hr.hd e0 hl r x;refine cW (ht [] s1 (cO N vs) H _ I hq) (λfl s' hs=>?_) λe s' hs=>hs;have fin:∀{U':St} {H':Hp} {v:V} {u:Value},Inv (cxOf CX P w K mg base N qual scope f cdv A outer s H E) [] U' H' s'->RelV v u->Q v H'->CE outer P w H s Q u s':=
    λ{U' H' v u} J rv q=>#[v,H',J.os,J.bare,J.base,J.hok,rv,q]
  cases fl with
  | ret u=>
    obtain ⟨v,U',H',J,rv,q⟩:=hs;exact fin J rv q
  | next=>
    obtain ⟨U',H',J,q⟩:=hs;exact fin (v:=V.non) (u:=Value.none) J rfl q
  | brk=>
    obtain ⟨_,_,_,q⟩:=hs;exact False.elim q
  | cont=>
    obtain ⟨_,_,_,q⟩:=hs;exact False.elim q
section
variable {X:Cx}{x:Str}{p pos:Pos}{e:Expr}{es:List Expr}{t:TA}{id T:String}{r:List V->Hp->VK->Prop}
def tCB (r:List V->Hp->VK->Prop)(t:TA):TE:=λU H Q=>t U H λvs H1=>r vs H1 Q
def aN (hc:cN X (.builtin id) r)(hg:Gl X x)(hm:X.mg x=none)(hv:bootBuiltins x=some (.builtin id))(ha:PA X (e::es) t)(hn:x ≠ "__name__":=by decide)(hdb: .(o)=false:=by decide)
    (he:starEach (e::es) X.env= .(w)::starEach es X.env:=by rfl) (hpl: .(r).any (·.1)=false:=by rfl):PE X .(C) (tCB r t):=by
  intro Rf s U H Q I h;refine wpAny_Call_Name_kw (iu I hg hm hv ?_ hn hdb);exact PyProof.Rows.callWith_builtin1 (thn (ha pos Rf s U H _ I h) λus s1 zq0=>(by obtain ⟨vs,H1,I1,r1,q1⟩:=zq0;exact hc Rf s1 U H1 vs us Q I1 r1 q1)) he hpl
def dI (hc:cN X (.type T) r)(hg:Gl X x)(hm:X.mg x=none)(hv:bootBuiltins x=some (.type T))(ha:PA X (e::es) t)(hn:x ≠ "__name__":=by decide)(hdb: .(o)=false:=by decide)
    (he:starEach (e::es) X.env= .(w)::starEach es X.env:=by rfl) (hpl: .(r).any (·.1)=false:=by rfl):PE X .(C) (tCB r t):=by
  intro Rf s U H Q I h;refine wpAny_Call_Name_kw (iu I hg hm hv ?_ hn hdb);exact PyProof.Rows.callWith_type1 (thn (ha pos Rf s U H _ I h) λus s1 zq0=>(by obtain ⟨vs,H1,I1,r1,q1⟩:=zq0;exact hc Rf s1 U H1 vs us Q I1 r1 q1)) he hpl
end
end L2
namespace HT
open PySem PyProof.Rows
section
variable {prog:Program}{w:World}{A:Around}{E:Value->Shared->Prop}{s:Shared}
def cat_tup {t b:Addr}{vs ws:List Value}{Q:Value->Shared->Prop}(ht:IsTup s.heap t vs.toArray)(hb:IsTup s.heap b ws.toArray)(hv:vs≠[])
    (h1:ws=[]->Q (.ref t) s) (h2:ws≠[]->Q .(ca) { s with heap:=s.heap.push { cls:=.type "tuple",data:=.seq (vs++ws).toArray } })
    (hsz:vs.length+ws.length<=sizeLine):wpAny .(i) A (binaryOp .Add (.ref t) (.ref b)) Q E s:=by
  obtain ⟨⟨cls,dd,data,sl⟩,ho,hc,n,hd⟩:=id ht;obtain ⟨⟨cls2,dd2,data2,sl2⟩,ho2,hc2,n2,hd2⟩:=id hb;simp only at hc hd hc2 hd2;subst hc hd hc2 hd2;have e:vs.toArray++ws.toArray=(vs++ws).toArray:=by simp
  by_cases hw:ws=[]
  · exact concat_meets #[_,ho,rfl] #[_,ho2,rfl] noFill_tuple_add seq_tuple_add PySem.F.slot_tuple_add PySem.F.entry_tuple_add (PySem.F.args_tuple_add_2 _ _)
      (tuple_addW1 t b vs.toArray ws.toArray n n2 dd dd2 sl sl2 (by simpa using hv) (by simp[hw])) #[ho,ho2,h1 hw]
  · refine concat_meets #[_,ho,rfl] #[_,ho2,rfl] noFill_tuple_add seq_tuple_add PySem.F.slot_tuple_add PySem.F.entry_tuple_add (PySem.F.args_tuple_add_2 _ _)
      (tuple_addW2 t b vs.toArray ws.toArray n n2 dd dd2 sl sl2 (by simpa using hv) (by simpa using hw) (by rw[bT,bT];exact hsz)) #[ho,ho2,?_]
    rw[e];exact h2 hw
def sIx (n d:Nat):Option Int->Nat
  | none=>d
  | some v=>if v<0 then (v+(n:Int)).toNat else min v.toNat n
def gM (n d k:Nat):sIx n d (some (k:Int))=min k n:=by
  show (if (k:Int)<0 then ((k:Int)+(n:Int)).toNat else min (k:Int).toNat n)=min k n
  rw[ao .(a),fU]
def Ge (n d:Nat)(hd:d<=n)(o:Option Int):sIx n d o<=n:=by
  cases o with
  | none=>exact hd
  | some v=>
    show (if v<0 then (v+(n:Int)).toNat else min v.toNat n)<=n
    by_cases hv:v<0
    · rw[ak hv];lia
    · rw[ao hv];exact Nat.min_le_right _ _
def AH (v:Int)(n d:Nat):(if v<0 then max (v+(n:Int)) 0 else min v (n:Int))=((sIx n d (some v):Nat):Int):=by
  show (if v<0 then max (v+(n:Int)) 0 else min v (n:Int))=(((if v<0 then (v+(n:Int)).toNat else min v.toNat n):Nat):Int)
  by_cases hv:v<0
  · simp only[ak hv];lia
  · simp only[ao hv];lia
def Gf (lo hi:Option Int)(n:Nat):Builtin.Slice.sliceAdjust lo hi 1 (n:Int)=(((sIx n 0 lo:Nat):Int),((sIx n n hi:Nat):Int)):=by
  have h1:¬ ((1:Int)<0):=by lia
  unfold Builtin.Slice.sliceAdjust;simp only[h1,if_false];refine Prod.ext ?_ ?_
  · cases lo with
    | none=>rfl
    | some v=>exact AH v n 0
  · cases hi with
    | none=>rfl
    | some v=>exact AH v n n
def Gg (i j:Nat):Builtin.Slice.slicePlaces (i:Int) (j:Int) 1=j-i:=by
  unfold Builtin.Slice.slicePlaces;have h1:(1:Int)>0:=by lia
  simp only[h1,if_true,Int.ediv_one];split<;>lia
def AI {v:Value}{o:Option Int}{Q:Option Int->Shared->Prop}(p:IsPart v o)(h:Q o s):wpAny .(i) A (Builtin.Slice.slicePartIndex v) Q E s:=by
  cases p with
  | none=>exact slicePart_none h
  | int i t=>exact slicePart_int h
def AJ {sl:Addr}{vl vu:Value}{lo hi:Option Int}{Q:Int×Int×Nat->Shared->Prop}(hs:s.heap.IsSliceOf sl vl vu .none)(pl:IsPart vl lo)(pu:IsPart vu hi)
    (h:Q (((sIx n 0 lo:Nat):Int),1,sIx n n hi-sIx n 0 lo) s):wpAny .(i) A (Builtin.Slice.sliceApplied (.ref sl) (pure (n:Int))) Q E s:=by
  obtain ⟨os,hos,hcs,hds⟩:=id hs;unfold Builtin.Slice.sliceApplied Builtin.Slice.sliceFields;refine ax (ax (wpAny_field hos hds (x:=vl) rfl (ax (wpAny_field hos hds (x:=vu) rfl (ax (wpAny_field hos hds (x:=.none) rfl (aM ?_)))))));refine ax (slicePart_none ?_);show wpAny _ _ (if ((1:Int)==0)=true then _ else _) _ _ s
  rw[ao .(q)];refine ax (AI pl (ax (AI pu (ax (aM ?_)))));show wpAny _ _ (match Builtin.Slice.sliceAdjust lo hi 1 (n:Int) with|(lo,hi)=>pure (lo,(1:Int),Builtin.Slice.slicePlaces lo hi 1)) _ _ s
  rw[Gf lo hi n];show wpAny _ _ (pure (((sIx n 0 lo:Nat):Int),(1:Int),Builtin.Slice.slicePlaces ((sIx n 0 lo:Nat):Int) ((sIx n n hi:Nat):Int) 1)) _ _ s;rw[Gg];exact aM h
def Gh (xs:Array Value)(i k:Nat):((List.range k).filterMap λ(m:Nat)=>xs[((i:Int)+(m:Int)*1).toNat]?).toArray=((xs.toList.drop i).take k).toArray:=by
  have e:(λ(m:Nat)=>xs[((i:Int)+(m:Int)*1).toNat]?)=λm=>xs[i+m]?:=by
    funext m
    have:((i:Int)+(m:Int)*1).toNat=i+m:=by lia
    rw[this]
  rw[e];have:=pick_run xs i k;rw[List.filterMap_map]at this;have e2:((λx=>xs[x]?) ∘ λx=>i+x)=λm=>xs[i+m]?:=rfl;rw[e2]at this;rw[this]
def getItem_tuple_cut {t sl:Addr}{items:Array Value}{vl vu:Value}{lo hi:Option Int}{Q:Value->Shared->Prop}(ht:IsTup s.heap t items)(hs:s.heap.IsSliceOf sl vl vu .none)(pl:IsPart vl lo)(pu:IsPart vu hi)
    (hw:¬ (sIx items.size 0 lo=0/\sIx items.size items.size hi=items.size))
    (h:Q .(ca) { s with heap:=s.heap.push { cls:=.type "tuple",data:=.seq ((items.toList.drop (sIx items.size 0 lo)).take .(W)).toArray } })
    (hsz:items.size<=sizeLine):wpAny .(i) A (getItem (.ref t) (.ref sl)) Q E s:=by
  have htake:sizeOk (.seq ((items.toList.drop (sIx items.size 0 lo)).take .(W)).toArray):=by
    show ((items.toList.drop (sIx items.size 0 lo)).take .(W)).toArray.size<=sizeLine;rw[bT,bu,eU,jy];lia
  have hj:sIx items.size items.size hi<=items.size:=Ge _ _ (aq _) hi;obtain ⟨os,hos,hcs,hds⟩:=id hs;have hTs:s.TypeIs (.ref sl) "slice":=#[os,hos,hcs];unfold getItem
  try with_reducible refine wpAny_holding ?_
  first|refine ax (aM ?_)|skip
  refine ax (wpAny_sequenceKey ht.typeIs (by decide) ?_);refine ax (wpAny_callSpecial?_slot (name:=Str.ofString "__getitem__") ht.typeIs PyProof.Rows.slot_tuple_getitem
    (wpAny_call_entry PyProof.Rows.slot_tuple_getitem ht.typeIs entry_tuple_getitem ?_ (args_tuple_getitem _ _)))
  show wpAny _ _ (Builtin.Tuple.tupleItemsOf (.ref t) >>= _) _ _ s;refine ax (tupleItemsOf_ ht ?_);refine ax (wpAny_typeOf hTs ?_);rw[ak .(q)];refine ax (AJ hs pl pu ?_);have hno:¬ ((((sIx items.size 0 lo:Nat):Int)==0&&(1:Int)==1&& .(W)==items.size)=true):=by
    intro q;rw[eV,eV]at q;have q1:((sIx items.size 0 lo:Nat):Int)=0:=eq_of_beq q.1.1;have q2:sIx items.size items.size hi-sIx items.size 0 lo=items.size:=eq_of_beq q.2;exact hw .(ka)
  show wpAny _ _ (if (((sIx items.size 0 lo:Nat):Int)==0&&(1:Int)==1&& .(W)==items.size)=true then _ else _) _ _ s
  rw[ao hno,Gh]
  first
    | exact ax (m:=Builtin.Tuple.tupleExact _) (wpAny_newObj_type (aM ⟨_,rfl,aM h⟩) htake)
    | exact ax (m:=Builtin.Tuple.tupleExact _) (wpAny_newObj_type (ax (aM (aM ⟨_,rfl,aM h⟩))) htake)
    | exact ax (ax (m:=Builtin.Tuple.tupleExact _) (wpAny_newObj_type (aM (aM ⟨_,rfl,aM h⟩)) htake))
    | exact ax (ax (m:=Builtin.Tuple.tupleExact _) (wpAny_newObj_type (aM ⟨_,rfl,aM h⟩) htake))
end
end HT
namespace L2
open PySem PySem.Spec PyProof.Rows
abbrev TO:=St->Hp->(Option Int->Hp->Prop)->Prop
def PO (X:Cx)(e:Option Expr)(t:TO):Prop:=
  ∀(Rf:List (Addr×Obj)) (s:Shared) (U:St) (H:Hp) (Q:Option Int->Hp->Prop),Inv X Rf U H s->t U H Q->
    wpAny .(d) X.A (evalPart e X.env) (λu s'=>∃ o H',Inv X Rf U H' s'/\IsPart u o/\Q o H') X.xe s
def uT:TO:=λ_ H Q=>Q none H
inductive AK (Q:Option Int->Hp->Prop)(x:V)(H1:Hp):Prop
  | c:∀ i,x=.int i->Q (some i) H1->AK Q x H1
def mz (t:TE):TO:=λU H Q=>t U H λx H1=>AK Q x H1
section
variable {X:Cx}{e:Expr}{te:TE}{lo hi:Option Expr}{tl th:TO}{pos p2:Pos}
def i4:PO X none uT:=by
  intro Rf s U H Q I h;rw[evalPart_none];exact aM #[none,H,I,.none,h]
def dr (h:PE X e te):PO X (some e) (mz te):=by
  intro Rf s U H Q I hw;rw[evalPart_some];refine thn (h Rf s U H _ I hw) λu s1 zq0=>?_;obtain ⟨x,H1,I1,r1,q1⟩:=zq0;obtain ⟨i,rfl,q⟩:=q1;obtain ⟨t,rfl⟩:=r1;exact #[some i,H1,I1,.int i t,q]
def SlR (X:Cx)(r:V->Option Int->Option Int->Hp->VK->Prop):Prop:=
  ∀(Rf:List (Addr×Obj)) (s:Shared) (U:St) (H:Hp) (x:V) (v vl vu:Value) (lo hi:Option Int) (sl:Addr) (Q:VK),Inv X Rf U H s->RelV x v->s.heap.IsSliceOf sl vl vu .none->IsPart vl lo->IsPart vu hi->r x lo hi H Q->
    ∃ T id,typeLookup (.type T) "__getitem__" = pure (some (.builtin id))/\s.TypeIs v T/\wpAny .(d) X.A (getItem v (.ref sl)) .(X) X.xe s
def tSl (r:V->Option Int->Option Int->Hp->VK->Prop)(te:TE)(tl th:TO):TE:=λU H Q=>te U H λx H1=>tl U H1 λl H2=>th U H2 λu H3=>r x l u H3 Q
def fI (hr:SlR X r)(he:PE X e te)(hl:PO X lo tl)(hu:PO X hi th):PE X (.Subscript e (.Slice lo hi none p2) pos) (tSl r te tl th):=by
  intro Rf s U H Q I h;refine Subscript_ (thn .(sa) λv s1 zq0=>?_);obtain ⟨x,H1,I1,r1,q1⟩:=zq0;refine wpAny_Slice (thn (hl Rf s1 U H1 _ I1 q1) λvl s2 zq0=>?_);obtain ⟨l,H2,I2,pl,q2⟩:=zq0;refine thn (hu Rf s2 U H2 _ I2 q2) λvu s3 zq1=>?_;obtain ⟨u,H3,I3,pu,q3⟩:=zq1;rw[evalPart_none];refine aM ?_;have I4:Inv X Rf U H3 { s3 with heap:=s3.heap.push { cls:=.type "slice",data:=.fields (List.toArray [vl,vu,.none]) } }:=I3.kept (t':=s3.toks) λb ob q=>aY _ q;obtain ⟨T,id,hT,ht,hg⟩:=hr Rf { s3 with heap:=s3.heap.push { cls:=.type "slice",data:=.fields (List.toArray [vl,vu,.none]) } } U H3 x v vl vu l u s3.heap.objs.size Q I4 r1 (Heap.IsSliceOf.new ..) pl pu q3;show wpAny .(d) X.A (subscriptTail e (.Slice lo hi none p2) v (.ref s3.heap.objs.size)) .(X) X.xe { s3 with heap:=s3.heap.push { cls:=.type "slice",data:=.fields (List.toArray [vl,vu,.none]) } };exact tail_any (ops:=[.ref s3.heap.objs.size,v]) ht hT hg (by with_unfolding_all rfl)
def cutV (xs:List V)(lo hi:Option Int):List V:=(xs.drop (HT.sIx xs.length 0 lo)).take (HT.sIx xs.length xs.length hi-HT.sIx xs.length 0 lo)
def uU (xs:List V)(lo hi:Option Int):(cutV xs lo hi).length<=xs.length:=by
  unfold cutV;rw[bu,eU];lia
inductive rSlT (K:Frag)(x:V)(lo:Option Int)(hi:Option Int)(H:Hp)(Q:VK):Prop
  | c:∀ a xs,x=.ref a->SqT K H a xs->¬ (HT.sIx xs.length 0 lo=0/\HT.sIx xs.length xs.length hi=xs.length)->(∀ p,H p=none->Q (.ref p) (upd H p (.tup (cutV xs lo hi))))->rSlT K x lo hi H Q
def Gi:SlR X (rSlT X.K):=by
  intro Rf s U H x v vl vu lo hi sl Q I rx hs pl pu h;obtain ⟨a,xs,rfl,hx,hw,q⟩:=h;cases rx
  obtain ⟨its,r,ht,hz⟩:=I.tuple hx;have hlen:its.toArray.size=xs.length:=by rw[bT];exact r.length.symm
  refine #["tuple",_,PyProof.Rows.slot_tuple_getitem.lookup,ht.typeIs,?_];refine HT.getItem_tuple_cut ht hs pl pu (by rw[hlen];exact hw) ?_ (by rw[hlen];exact hz);rw[hlen];refine #[.ref s.heap.objs.size,_,I.laid (t':=s.toks) (o:=.tup (cutV xs lo hi)) (λb ob q=>aY _ q) (aq _) ?_,rfl,q _ .(ja)];exact #[bW (uU xs lo hi) hz,_,(r.drop (HT.sIx xs.length 0 lo)).take (HT.sIx xs.length xs.length hi-HT.sIx xs.length 0 lo),IsTup.new _ _]
inductive oU (K:Frag)(x:V)(y:V)(H:Hp)(Q:VK):Prop
  | c:∀ a b xs ys,x=.ref a->y=.ref b->SqT K H a xs->SqT K H b ys->xs≠[]->xs.length+ys.length<=sizeLine->(ys=[]->Q (.ref a) H)->(ys≠[]->∀ p,H p=none->Q (.ref p) (upd H p (.tup (xs++ys))))->oU K x y H Q
def Vals.nil_iff {xs:List V}{us:List Value}(r:Vals xs us):us=[]↔xs=[]:=by
  cases r with
  | nil=>simp
  | cons _ _=>simp
def oV:OpR X (binaryOp .Add) (oU X.K):=by
  intro Rf s U H x y v u Q I rx ry h;obtain ⟨a,b,xs,ys,rfl,rfl,ha,hb,hx,hz,q1,q2⟩:=h;cases rx
  cases ry
  obtain ⟨its,r1,p1,_⟩:=I.tuple ha;obtain ⟨its2,r2,p2,_⟩:=I.tuple hb;refine HT.cat_tup p1 p2 (λz=>hx (r1.nil_iff.mp z)) (λz=>#[.ref a,H,I,rfl,q1 (r2.nil_iff.mp z)]) .(ua) (by rw[<-r1.length,<-r2.length];exact hz);refine #[.ref s.heap.objs.size,_,I.laid (t':=s.toks) (o:=.tup (xs++ys)) (λb ob q=>aY _ q) (aq _) ?_,rfl,q2 (λw=>z (r2.nil_iff.mpr w)) _ .(ja)];exact #[by rw[aS];exact hz,_,r1.append r2,IsTup.new _ _]
end
def ixN (n:Nat)(i:Int):Option Nat:=if 0<=i then (if i<n then some i.toNat else none) else if -(n:Int)<=i then some (i+n).toNat else none
def atI {α:Type}(xs:List α)(i:Int):Option α:=(ixN xs.length i).bind λj=>xs[j]?
def AL {j:Nat}(h:ixN n i=some j):seqIndex? i n=some j/\j<n/\-(n:Int)<=i/\i<n:=by
  unfold ixN at h;by_cases h0:0<=i
  · rw[ak h0]at h
    by_cases h1:i<n
    · rw[ak h1]at h
      have e:i.toNat=j:=aJ h;exact #[by rw[seqIndex_of h0 h1,e],by lia,by lia,h1]
    · rw[ao h1]at h;cases h
  · rw[ao h0]at h
    by_cases h1:-(n:Int)<=i
    · rw[ak h1]at h
      have e:(i+n).toNat=j:=aJ h;exact #[by rw[seqIndex_neg .(a) h1,e],by lia,h1,by lia]
    · rw[ao h1]at h;cases h
def AN {α:Type}{xs:List α}{v:α}(h:atI xs i=some v):∃ j,seqIndex? i xs.length=some j/\xs[j]?=some v/\j<xs.length/\-(xs.length:Int)<=i/\i<xs.length:=by
  unfold atI at h;cases e:ixN xs.length i with
  | none=>rw[e]at h;cases h
  | some j=>
    rw[e]at h;obtain ⟨h1,h2,h3,h4⟩:=AL e;exact #[j,h1,h,h2,h3,h4]
def c8 {α:Type}{xs:List α}{j:Nat}{v:α}(h:xs[j]?=some v):atI xs (j:Int)=some v:=by
  have hj:j<xs.length:=(aT.mp h).1;have e:ixN xs.length (j:Int)=some j:=by
    unfold ixN;rw[ak .(a),ak .(a)];simp
  unfold atI;rw[e];exact h
def Gj (b:Expr):Prop:=∀ o i,subscripted b false o i=operate [o,i] (getItem o i)
def IxR (X:Cx)(r:R2):Prop:=
  ∀(value slice:Expr) (Rf:List (Addr×Obj)) (s:Shared) (U:St) (H:Hp) (x y:V) (v u:Value) (Q:VK),Inv X Rf U H s->RelV x v->RelV y u->r x y H Q->
    subscripted slice false v u=operate [v,u] (getItem v u)->wpAny .(d) X.A (subscriptTail value slice v u) .(X) X.xe s
def MtR (X:Cx)(id:String)(r:V->List V->Hp->VK->Prop):Prop:=
  ∀(Rf:List (Addr×Obj)) (s:Shared) (U:St) (H:Hp) (x:V) (xs:List V) (v:Value) (us:List Value) (Q:VK),Inv X Rf U H s->RelV x v->Vals xs us->r x xs H Q->
    wpAny .(d) X.A (call (.builtin id) (v::us)) .(X) X.xe s
section
variable {X:Cx}{a b:Expr}{ta tb:TE}{pos:Pos}
def aH (hr:IxR X r)(ha:PE X a ta)(hb:PE X b tb)(hs:Gj b):PE X (.Subscript a b pos) (tOp r ta tb):=by
  intro Rf s U H Q I h;exact Subscript_ (binT ha hb I h λv u s2 x y H2 I2 rx ry q=>hr a b Rf s2 U H2 x y v u Q I2 rx ry q (hs _ _))
inductive rIxL (K:Frag)(x:V)(y:V)(H:Hp)(Q:VK):Prop
  | c:∀ p xs i v,x=.ref p->y=.int i->SqL K H p xs->atI xs i=some v->Q v H->rIxL K x y H Q
inductive rIxT (K:Frag)(x:V)(y:V)(H:Hp)(Q:VK):Prop
  | c:∀ p xs i v,x=.ref p->y=.int i->SqT K H p xs->atI xs i=some v->Q v H->rIxT K x y H Q
def Gk:IxR X (rIxL X.K):=by
  intro value slice Rf s U H x y v u Q I rx ry h hs;obtain ⟨p,xs,i,z,rfl,rfl,hq,he,q⟩:=h;cases rx
  obtain ⟨t,rfl⟩:=ry;obtain ⟨its,r,pl,hz⟩:=I.list hq;obtain ⟨j,h1,h2,h3,h4,h5⟩:=AN he;obtain ⟨w,ew,rw'⟩:=r.get h2;have hl:=r.length;have hn:=oM;have fin:EP X Rf U Q w s:=#[z,H,I,rw',q];by_cases h0:0<=i
  · have hj:i.toNat=j:=by
      rw[seqIndex_of h0 h5]at h1;exact aJ h1
    exact item_listR pl.isList h0 .(a) (by rw[hj];simpa using ew) fin hs
  · have hj:(i+(its.toArray.size:Int)).toNat=j:=by
      rw[seqIndex_neg .(a) h4]at h1;rw[bT,<-hl];exact aJ h1
    exact subscriptTail_builtinR (x:=w) pl.isList.typeIs slot_list_getitem.lookup
      (wpAny_getItem_list_neg (Q:=λr s'=>r=w/\EP X Rf U Q r s') pl.isList .(a) (by rw[bT]<;>lia) .(a) (by rw[hj];simpa using ew) #[rfl,fin]) hs
def Gm:IxR X (rIxT X.K):=by
  intro value slice Rf s U H x y v u Q I rx ry h hs;obtain ⟨p,xs,i,z,rfl,rfl,hq,he,q⟩:=h;cases rx
  obtain ⟨t,rfl⟩:=ry;obtain ⟨its,r,pl,hz⟩:=I.tuple hq;obtain ⟨j,h1,h2,h3,h4,h5⟩:=AN he;obtain ⟨w,ew,rw'⟩:=r.get h2;have hl:=r.length;have hn:=oM;have fin:EP X Rf U Q w s:=#[z,H,I,rw',q];exact subscriptTail_builtinR (x:=w) pl.typeIs slot_tuple_getitem.lookup
    (getItem_tuple (j:=j) (Q:=λr s'=>r=w/\EP X Rf U Q r s') pl .(a) .(a) (by rw[bT,<-hl];exact h1) (by simpa using ew) #[rfl,fin]) hs
def Gn (its:List Value)(n j:Nat)(u:Value):Obj.mapSeq (·.setIfInBounds j u) { cls:=.type "list",data:=.seq its.toArray n }={ cls:=.type "list",data:=.seq (its.set j u).toArray n }:=by
  simp[Obj.mapSeq]
def Inv.lst {Rf:List (Addr×Obj)}{U:St}{H:Hp}{s:Shared}{p:Addr}{xs:List V}(I:Inv X Rf U H s)(h:H p=some (.lst xs)) :
    ∃(its:List Value) (n:Nat),Vals xs its/\s.heap.get? p=some { cls:=.type "list",data:=.seq its.toArray n }/\xs.length<=sizeLine:=by
  obtain ⟨z,its,n,r,e⟩:=I.hok p _ h;exact #[its,n,r,e,z]
def Inv.lstUpd {s:Shared}{p:Addr}{xs ys:List V}{its its':List Value}{n n':Nat}{f:Obj->Obj}(I:Inv X Rf U H s)(h:H p=some (.lst xs))
    (ho:s.heap.get? p=some { cls:=.type "list",data:=.seq its.toArray n }) (hf:f { cls:=.type "list",data:=.seq its.toArray n }={ cls:=.type "list",data:=.seq its'.toArray n' }) (r:Vals ys its') (hz:ys.length<=sizeLine) (t:Nat) :
    Inv X Rf U (upd H p (.lst ys)) { s with heap:=s.heap.update p f,toks:=t }:=by
  have e:(s.heap.update p f).get? p=some { cls:=.type "list",data:=.seq its'.toArray n' }:=by
    rw[Heap.get?_update_self f ho (by rw[hf]<;>rfl),hf]
  refine I.write (x:=p) (e:=p) (by rw[h];trivial) .(va) (λb u hb q=>(jD _ _ (bt hb)).trans q) #[_,e] ?_;exact #[hz,its',n',r,e]
inductive AO (o:V)(i:V)(v:V)(H:Hp)(Q:Hp->Prop):Prop
  | c:∀ p xs k j,o=.ref p->i=.int k->H p=some (.lst xs)->ixN xs.length k=some j->Q (upd H p (.lst (xs.set j v)))->AO o i v H Q
def iz:PSet X AO:=by
  intro Rf s U H o i v ov iv u Q I ro ri rv h;obtain ⟨p,xs,k,j,rfl,rfl,hp,hj,q⟩:=h;cases ro
  obtain ⟨t,rfl⟩:=ri;obtain ⟨its,n,r,ho,hz⟩:=I.lst hp;obtain ⟨h1,h2,h3,h4⟩:=AL hj;have hl:=r.length;have hn:=oM;have I':Inv X Rf U (upd H p (.lst (xs.set j v))) { s with heap:=s.heap.update p (Obj.mapSeq (·.setIfInBounds j u)) }:=
    I.lstUpd hp ho (Gn its n j u) (r.set rv j) (by rw[nY];exact hz) s.toks
  by_cases h0:0<=k
  · have hk:k.toNat=j:=by
      rw[seqIndex_of h0 h4]at h1;exact aJ h1
    exact W.ki_setAt ho h0 .(a) (by rw[bT,<-hl];exact h4) (by rw[hk];exact #[_,I',q])
  · have hk:(k+(its.toArray.size:Int)).toNat=j:=by
      rw[seqIndex_neg .(a) h3]at h1;rw[bT,<-hl];exact aJ h1
    exact W.ki_setBack ho .(a) (by rw[bT,<-hl];exact h3) .(a) (by rw[hk];exact #[_,I',q])
def Gp (lo hi:Option Int)(n:Nat):(sliceBounds lo hi none n).1=((HT.sIx n 0 lo:Nat):Int)/\(sliceBounds lo hi none n).2.1=((HT.sIx n n hi:Nat):Int)/\(sliceBounds lo hi none n).2.2=1:=by
  refine #[?_,?_,rfl]
  · cases lo with
    | none=>simp[sliceBounds,HT.sIx]
    | some i=>
      simp only[sliceBounds,HT.sIx,Option.getD_none,show (1:Int)>0 by decide,if_true];by_cases h:i<0
      · simp only[h,if_true]<;>lia
      · simp only[h,if_false]<;>lia
  · cases hi with
    | none=>simp[sliceBounds,HT.sIx]
    | some i=>
      simp only[sliceBounds,HT.sIx,Option.getD_none,show (1:Int)>0 by decide,if_true];by_cases h:i<0
      · simp only[h,if_true]<;>lia
      · simp only[h,if_false]<;>lia
def Gq (its:List Value)(lo hi:Option Int):slicePick its.toArray lo hi none=((its.drop (HT.sIx its.length 0 lo)).take (HT.sIx its.length its.length hi-HT.sIx its.length 0 lo)).toArray:=by
  obtain ⟨h1,h2,h3⟩:=Gp lo hi its.toArray.size;unfold slicePick;rw[h1,h2,h3];simp only[sliceRange_one,pick_run,bT]<;>rfl
inductive rSlL (K:Frag)(x:V)(lo:Option Int)(hi:Option Int)(H:Hp)(Q:VK):Prop
  | c:∀ a xs,x=.ref a->SqL K H a xs->(∀ p,H p=none->Q (.ref p) (upd H p (.lst (cutV xs lo hi))))->rSlL K x lo hi H Q
def Gr:SlR X (rSlL X.K):=by
  intro Rf s U H x v vl vu lo hi sl Q I rx hs pl pu h;obtain ⟨a,xs,rfl,hx,q⟩:=h;cases rx
  obtain ⟨its,r,ht,hz⟩:=I.list hx;have hlen:=r.length;refine #["list",_,slot_list_getitem.lookup,ht.isList.typeIs,?_];refine wpAny_getItem_list_slice ht.isList hs pl pu .none .(k) ?_ (by rw[bT]<;>lia)
  rw[Gq,<-hlen];refine #[.ref s.heap.objs.size,_,I.laid (t':=s.toks) (o:=.lst (cutV xs lo hi)) (λb ob q=>aY _ q) (aq _) ?_,rfl,q _ .(ja)];exact #[bW (uU xs lo hi) hz,_,0,(r.drop (HT.sIx xs.length 0 lo)).take (HT.sIx xs.length xs.length hi-HT.sIx xs.length 0 lo),cB _ rfl]
def fK:V->Bool
  | .non=>true
  | .bl _=>true
  | .int _=>true
  | .str _=>true
  | _=>false
def eqV:V->V->Bool
  | .non,.non=>true
  | .bl a,.bl b=>a==b
  | .bl a,.int b=>(if a then 1 else 0)==b
  | .int a,.bl b=>a==(if b then 1 else 0)
  | .int a,.int b=>a==b
  | .str a,.str b=>a==b
  | _,_=>false
def Gs {A:Around}{s:Shared}{y x:V}{u v:Value}(ry:RelV y u)(rx:RelV x v)(fy:fK y=true)(fx:fK x=true):SeqAt.EqAt A s u v (eqV y x):=by
  cases y with
  | non=>
    cases ry
    cases x with
    | non=>cases rx;exact SeqAt.EqAt.same _
    | bl b=>cases rx;exact SeqAt.EqAt.none_bool b
    | int b=>obtain ⟨t,rfl⟩:=rx;exact SeqAt.EqAt.none_int b t
    | str b=>obtain ⟨t,rfl⟩:=rx;exact SeqAt.EqAt.none_str b t
    | _=>exact absurd (show false=true from fx) cH
  | bl a=>
    cases ry
    cases x with
    | non=>cases rx;exact SeqAt.EqAt.bool_none a
    | bl b=>cases rx;exact SeqAt.EqAt.bool_bool a b
    | int b=>obtain ⟨t,rfl⟩:=rx;exact SeqAt.EqAt.bool_int a b t
    | str b=>obtain ⟨t,rfl⟩:=rx;exact SeqAt.EqAt.bool_str a b t
    | _=>exact absurd (show false=true from fx) cH
  | int a=>
    obtain ⟨t',rfl⟩:=ry;cases x with
    | non=>cases rx;exact SeqAt.EqAt.int_none a t'
    | bl b=>cases rx;exact SeqAt.EqAt.int_bool a t' b
    | int b=>obtain ⟨t,rfl⟩:=rx;exact SeqAt.EqAt.int_int a t' b t
    | str b=>obtain ⟨t,rfl⟩:=rx;exact SeqAt.EqAt.int_str a t' b t
    | _=>exact absurd (show false=true from fx) cH
  | str a=>
    obtain ⟨t',rfl⟩:=ry;cases x with
    | non=>cases rx;exact SeqAt.EqAt.str_none a t'
    | bl b=>cases rx;exact SeqAt.EqAt.str_bool a t' b
    | int b=>obtain ⟨t,rfl⟩:=rx;exact SeqAt.EqAt.str_int a t' b t
    | str b=>obtain ⟨t,rfl⟩:=rx;exact SeqAt.EqAt.str_str a t' b t
    | _=>exact absurd (show false=true from fx) cH
  | _=>exact absurd (show false=true from fy) cH
def eqU (x:V)(u:Value):Bool:=match u with
  | .none=>eqV .non x
  | .bool b=>eqV (.bl b) x
  | .int i _=>eqV (.int i) x
  | .str z _=>eqV (.str z) x
  | _=>false
def AQ {y:V}{u:Value}(r:RelV y u)(f:fK y=true):eqU x u=eqV y x:=by
  cases y with
  | non=>cases r;rfl
  | bl b=>cases r;rfl
  | int i=>obtain ⟨t,rfl⟩:=r;rfl
  | str z=>obtain ⟨t,rfl⟩:=r;rfl
  | _=>exact absurd (show false=true from f) cH
def mB :∀{xs:List V} {us:List Value},Vals xs us->xs.all fK=true->us.any (eqU x)=xs.any λy=>eqV y x
  | _,_,.nil,_=>rfl
  | y::xs,u::us,.cons r t,f=>by
    rw[nZ,eV]at f;rw[hZ,hZ,AQ r f.1,mB t f.2]
def mC {A:Around}{s:Shared}{x:V}{v:Value}(rx:RelV x v)(fx:fK x=true):∀{xs:List V} {us:List Value},Vals xs us->xs.all fK=true->∀ u∈us,SeqAt.EqAt A s u v (eqU x u)
  | _,_,.nil,_=>λu hu=>by cases hu
  | y::xs,u::us,.cons r t,f=>λu' hu=>by
    rw[nZ,eV]at f;rcases aU.mp hu with rfl|hu
    · rw[AQ r f.1];exact Gs r rx f.1 fx
    · exact mC rx fx t f.2 u' hu
def inV (x:V)(xs:List V):Bool:=xs.any λy=>eqV y x
inductive rIn (K:Frag)(neg:Bool)(x:V)(y:V)(H:Hp)(Q:VK):Prop
  | c:∀ p xs,y=.ref p->(SqL K H p xs\/SqT K H p xs)->fK x=true->xs.all fK=true->Q (.bl (if neg then !inV x xs else inV x xs)) H->rIn K neg x y H Q
def Gu:OpR X (compareOp .In) (rIn X.K false):=by
  intro Rf s U H x y v u Q I rx ry h;obtain ⟨p,xs,rfl,hq,fx,fs,q⟩:=h;cases ry
  rcases hq with hq|hq
  · obtain ⟨its,r,pl,hz⟩:=I.list hq
    refine SeqAt.in_listAt (eqU x) pl.isList (λw hw=>mC rx fx r fs w (by simpa using hw)) #[.bl _,H,I,rfl,?_];rw[show its.toArray.any (eqU x)=its.any (eqU x) by simp,mB r fs];exact q
  · obtain ⟨its,r,pl,hz⟩:=I.tuple hq
    refine SeqAt.in_tupleAt (eqU x) pl (λw hw=>mC rx fx r fs w (by simpa using hw)) #[.bl _,H,I,rfl,?_];rw[show its.toArray.any (eqU x)=its.any (eqU x) by simp,mB r fs];exact q
def Gv:OpR X (compareOp .NotIn) (rIn X.K true):=by
  intro Rf s U H x y v u Q I rx ry h;obtain ⟨p,xs,rfl,hq,fx,fs,q⟩:=h;cases ry
  rcases hq with hq|hq
  · obtain ⟨its,r,pl,hz⟩:=I.list hq
    refine SeqAt.notIn_listAt (eqU x) pl.isList (λw hw=>mC rx fx r fs w (by simpa using hw)) #[.bl _,H,I,rfl,?_];rw[show its.toArray.any (eqU x)=its.any (eqU x) by simp,mB r fs];exact q
  · obtain ⟨its,r,pl,hz⟩:=I.tuple hq
    refine SeqAt.notIn_tupleAt (eqU x) pl (λw hw=>mC rx fx r fs w (by simpa using hw)) #[.bl _,H,I,rfl,?_];rw[show its.toArray.any (eqU x)=its.any (eqU x) by simp,mB r fs];exact q
def Gw:cN X (.builtin "len") (λxs H Q=>∃ p ys,xs=[.ref p]/\(SqL X.K H p ys\/SqT X.K H p ys)/\Q (.int ys.length) H):=by
  intro Rf s U H xs us Q I r h;obtain ⟨p,ys,rfl,hq,q⟩:=h;obtain ⟨u,rfl,rx⟩:=fX r;cases rx
  have hn:=oM;rcases hq with hq|hq
  · obtain ⟨its,r',pl,hz⟩:=I.list hq
    have hlen:=r'.length;exact Calls.call_len_list pl.isList (by simp only[bT]<;>lia) #[.int ys.length,H,I.tok _,#[s.toks+1,by rw[bT,hlen]],q]
  · obtain ⟨its,r',pl,hz⟩:=I.tuple hq
    have hlen:=r'.length;exact len_tuple pl (by simp only[bT]<;>lia) #[.int ys.length,H,I.tok _,#[s.toks+1,by rw[bT,hlen]],q]
def Gx:cN X (.type "list") (λxs H Q=>∃ p ys,xs=[.ref p]/\(SqL X.K H p ys\/SqT X.K H p ys)/\∀ l,H l=none->Q (.ref l) (upd H l (.lst ys))):=by
  intro Rf s U H xs us Q I r h;obtain ⟨p,ys,rfl,hq,q⟩:=h;obtain ⟨u,rfl,rx⟩:=fX r;cases rx
  have fin:∀(its:List Value),Vals ys its->ys.length<=sizeLine->∀(h':Heap) (c':Nat),(∀ b o',s.heap.get? b=some o'->h'.get? b=some o')->
      h'.get? s.heap.objs.size=some { cls:=.type "list",dict:=none,data:=.seq its.toArray c',slots:=(List.toArray []) }->EP X Rf U Q .(ca) { s with heap:=h' }:=λits r' hz h' c' kp e=>
    #[.ref s.heap.objs.size,_,I.laid (t':=s.toks) kp (aq _) (show bJ X.prog X.w _ h' _ (.lst ys) from #[hz,its,c',r',e]),rfl,q _ .(ja)]
  rcases hq with hq|hq
  · obtain ⟨its,r',pl,hz⟩:=I.list hq
    have hlen:=r'.length;obtain ⟨o,ho,hc,n,hd⟩:=pl.isList;exact call_list_seq p .(va) ho hc hd (λh' c' kp e=>fin its r' hz h' c' kp e) (by simp only[bT]<;>lia)
  · obtain ⟨its,r',pl,hz⟩:=I.tuple hq
    have hlen:=r'.length;obtain ⟨o,ho,hc,n,hd⟩:=pl;exact call_list_seq p (.inr rfl) ho hc hd (λh' c' kp e=>fin its r' hz h' c' kp e) (by simp only[bT]<;>lia)
def Gy:cN X (.type "tuple") (λxs H Q=>∃ p ys,xs=[.ref p]/\((SqL X.K H p ys/\∀ l,H l=none->Q (.ref l) (upd H l (.tup ys)))\/(SqT X.K H p ys/\Q (.ref p) H))):=by
  intro Rf s U H xs us Q I r h;obtain ⟨p,ys,rfl,h⟩:=h;obtain ⟨u,rfl,rx⟩:=fX r;cases rx
  rcases h with ⟨hq,q⟩|⟨hq,q⟩
  · obtain ⟨its,r',pl,hz⟩:=I.list hq
    have hlen:=r'.length;refine call_tuple_list pl.isList (λh' kp=>?_) (by simp only[bT]<;>lia)
    have I1:Inv X Rf U H { s with heap:=h' }:=I.kept (t':=s.toks) kp;have I2:Inv X Rf U (upd H h'.objs.size (.tup ys)) { s with heap:=h'.push { cls:=.type "tuple",data:=.seq its.toArray } }:=
      I1.laid (t':=s.toks) (λb o e=>aY _ e) (aq _) (show bJ X.prog X.w _ _ _ (.tup ys) from #[hz,its,r',IsTup.new _ _])
    exact #[.ref h'.objs.size,_,I2,rfl,q _ (I1.hok.fresh (aq _))]
  · obtain ⟨its,r',pl,hz⟩:=I.tuple hq
    exact call_tuple_same pl #[.ref p,H,I,rfl,q]
def tyV (K:Frag)(T:String)(x:V)(H:Hp):Prop:=match x with
  | .str _=>T = "str"
  | .int _=>T = "int"
  | .ref p=>(T = "list"/\∃ xs,SqL K H p xs)\/(T = "tuple"/\∃ o,K.lookup p=some o/\o.cls=.type "tuple"/\o.dict=none)\/
      (T = "dict"/\((∃ kvs,H p=some (.dK kvs))\/∃ kvs,H p=some (.dT kvs)))\/(T = "set"/\∃ S n,H p=some (.set S n))
  | _=>False
def AR {x:V}{v:Value}(I:Inv X Rf U H s)(r:RelV x v)(ty:tyV X.K T x H) :
    s.TypeIs v T/\∀ a,v=.ref a->∃ ob,s.heap.get? a=some ob/\ob.dict=none:=by
  cases x with
  | str z=>
    obtain ⟨t,rfl⟩:=r;cases (show T = "str" from ty)
    exact #[typeIs_str s z t,λ_ e=>nomatch e]
  | int i=>
    obtain ⟨t,rfl⟩:=r;cases (show T = "int" from ty)
    exact #[typeIs_int s i t,λ_ e=>nomatch e]
  | ref p=>
    cases r
    rcases ty with ⟨rfl,xs,hq⟩|⟨rfl,o,hk,hc,hd⟩|⟨rfl,hk⟩|⟨rfl,S,n,hk⟩
    · obtain ⟨its,_,pl,_⟩:=I.list hq
      refine #[pl.isList.typeIs,λa e=>?_];cases e
      obtain ⟨o,n,e,c,hd,_⟩:=pl;exact #[o,e,hd]
    · refine #[#[o,I.kIn p o hk,hc],λa e=>?_]
      cases e
      exact #[o,I.kIn _ o hk,hd]
    · have z:∃ o,s.heap.get? p=some o/\o.ExactDict:=by
        rcases hk with ⟨kvs,hk⟩|⟨kvs,hk⟩
        · obtain ⟨_,_,_,_,o,_,_,e,ex,_⟩:=I.hok p _ hk
          exact #[o,e,ex]
        · obtain ⟨_,_,_,_,o,_,_,e,ex,_⟩:=I.hok p _ hk
          exact #[o,e,ex]
      obtain ⟨o,e,ex⟩:=z;refine #[#[o,e,ex.1],λa e2=>?_];cases e2
      exact #[o,e,ex.2.1]
    · obtain ⟨o,_,_,_,e,ex,_⟩:=I.hok p _ hk
      refine #[#[o,e,ex.1],λa e2=>?_];cases e2
      exact #[o,e,ex.2.1]
  | _=>exact False.elim ty
inductive AS (K:Frag)(T:String)(r:V->List V->Hp->VK->Prop)(Q:VK)(x:V)(H1:Hp):Prop
  | c:tyV K T x H1->r x [] H1 Q->AS K T r Q x H1
def tBM0 (K:Frag)(T:String)(r:V->List V->Hp->VK->Prop)(to:TE):TE:=λU H Q=>to U H λx H1=>AS K T r Q x H1
inductive GtBM (K:Frag)(T:String)(r:V->List V->Hp->VK->Prop)(t:TA)(U:St)(Q:VK)(x:V)(H1:Hp):Prop
  | c:tyV K T x H1->(t U H1 λxs H2=>r x xs H2 Q)->GtBM K T r t U Q x H1
def tBM (K:Frag)(T:String)(r:V->List V->Hp->VK->Prop)(to:TE)(t:TA):TE:=λU H Q=>to U H λx H1=>GtBM K T r t U Q x H1
variable {o e:Expr}{es:List Expr}{to:TE}{t:TA}{name:Str}{apos cpos:Pos}{T id:String}{r:V->List V->Hp->VK->Prop}
def AU (pa:PlainAttrs T)(slot:Slot T name id)(hty:typeOf (.builtin id)=pure (.type "method_descriptor"))(hm:MtR X id r)(ho:PE X o to)
    (hbase:attributeBase o name X.env (eval o X.env)=eval o X.env:=by rfl) (hline:(apos.endLine==cpos.line)=true:=by rfl):PE X (.Call (.Attribute o name apos) [] [] cpos) (tBM0 X.K T r to):=by
  intro Rf s U H Q I h;refine wpAny_Call_method0_late hbase hline (thn (ho Rf s U H _ I h) λv s1 zq0=>?_);obtain ⟨x,H1,I1,r1,ty,q1⟩:=zq0;obtain ⟨h1,h2⟩:=AR I1 r1 ty;exact #[T,id,pa,slot,hty,h1,h2,Calls.callWith_builtin rfl (PySem.evalArgs_none (hm Rf s1 U H1 x [] v [] Q I1 r1 .nil q1))]
def dJ (pa:PlainAttrs T)(slot:Slot T name id)(hty:typeOf (.builtin id)=pure (.type "method_descriptor"))(hm:MtR X id r)(ho:PE X o to)(ha:PA X (e::es) t)
    (hbase:attributeBase o name X.env (eval o X.env)=eval o X.env:=by rfl)
    (hfew:((backTo cpos (starEach (e::es) X.env)).all (λx=>!x.1) && (backToKw cpos (keywordEach [] X.env)).all (λx=>x.1.isSome)
      && decide ((e::es).length+([]:List Keyword).length+(if ([]:List Keyword).isEmpty then 0 else 1)<30))=true:=by rfl)
    (hline:(apos.endLine==cpos.line)=true:=by rfl) (hs:starEach (e::es) X.env= .(w)::starEach es X.env:=by rfl) (hplain:(backTo cpos (starEach es X.env)).any (·.1)=false:=by rfl) :
    PE X (.Call (.Attribute o name apos) (e::es) [] cpos) (tBM X.K T r to t):=by
  intro Rf s U H Q I h;refine wpAny_Call_method_late hbase hfew hline rfl (thn (ho Rf s U H _ I h) λv s1 zq0=>?_);obtain ⟨x,H1,I1,r1,ty,q1⟩:=zq0;obtain ⟨h1,h2⟩:=AR I1 r1 ty;refine #[T,id,pa,slot,hty,h1,h2,?_];have hA:=ha cpos Rf s1 U H1 _ I1 q1;rw[hs]at hA ⊢;refine Calls.callWith_builtin (by show (false||(backTo cpos (starEach es X.env)).any (·.1))=false;rw[hplain]<;>rfl) (Calls.evalArgs_plain ?_)
  exact thn hA λus s2 zq0=>(by obtain ⟨vs,H2,I2,r2,q2⟩:=zq0;exact hm Rf s2 U H2 x vs v us Q I2 r1 r2 q2)
end
def MtM (X:Cx)(id:String)(r:V->List V->Hp->VK->Prop):Prop:=
  ∀(Rf:List (Addr×Obj)) (s:Shared) (U:St) (H:Hp) (x:V) (xs:List V) (v:Value) (us:List Value) (Q:VK),Inv X Rf U H s->RelV x v->Vals xs us->r x xs H Q->
    wpAny .(d) X.A (call (.builtin id) (v::us)) .(X) X.xe s
def Vals.one:∀{x:V} {us:List Value},Vals [x] us->∃ u,us=[u]/\RelV x u
  | _,_,.cons r .nil=>#[_,rfl,r]
def Vals.zero:∀{us:List Value},Vals [] us->us=[]
  | _,.nil=>rfl
section
variable {X:Cx}{Rf:List (Addr×Obj)}{U:St}{H:Hp}{s:Shared}{l b:Addr}{xs ys zs:List V}
def Inv.lset {its its':List Value}{n:Nat}{f:Array Value->Array Value}{t':Nat}(I:Inv X Rf U H s)(hH:H l=some (.lst xs))
    (e:s.heap.get? l=some { cls:=.type "list",data:=.seq its.toArray n }) (hf:f its.toArray=its'.toArray) (hv:Vals ys its') (hz:ys.length<=sizeLine) :
    Inv X Rf U (upd H l (.lst ys)) { s with heap:=s.heap.update l (Obj.mapSeq f),toks:=t' }:=by
  have q:=PySem.IsL.update e f;rw[hf]at q;refine I.write (x:=l) (e:=l) (by rw[hH];exact trivial) .(va) (λb' u hb hu=>(jD s.heap (Obj.mapSeq f) (bt hb)).trans hu) #[_,q] ?_;exact #[hz,its',_,hv,q]
def Inv.lnew {its:List Value}{t':Nat}(I:Inv X Rf U H s)(hv:Vals ys its)(hz:ys.length<=sizeLine) :
    Inv X Rf U (upd H s.heap.objs.size (.lst ys)) { s with heap:=s.heap.push { cls:=.type "list",data:=.seq its.toArray },toks:=t' }:=
  I.laid (λ_ _ q=>aY _ q) (aq _) #[hz,its,0,hv,cB _ rfl]
def Inv.fresh (I:Inv X Rf U H s):H s.heap.objs.size=none:=I.hok.fresh (aq _)
def Inv.lstM (I:Inv X Rf U H s)(hH:H l=some (.lst xs)):xs.length<=sizeLine/\∃(its:List Value) (n:Nat),Vals xs its/\xs.length=its.length/\s.heap.get? l=some { cls:=.type "list",data:=.seq its.toArray n }:=by
  obtain ⟨z,its,n,r,e⟩:=I.hok l _ hH;exact #[z,its,n,r,r.length,e]
def Gz {n:Nat}(h:n<=sizeLine):Builtin.List.listTooLong n=false:=by
  unfold Builtin.List.listTooLong;exact bx .(a)
end
section
variable {X:Cx}
inductive AV (x:V)(vs:List V)(H:Hp)(Q:VK):Prop
  | c:∀ l xs y,x=.ref l->vs=[y]->H l=some (.lst xs)->xs.length<sizeLine->Q .non (upd H l (.lst (xs++[y])))->AV x vs H Q
def dM:MtM X "list.append" AV:=by
  intro Rf s U H x vs v us Q I rx rv h;obtain ⟨l,xs,y,rfl,rfl,hH,hz,q⟩:=h;cases rx
  obtain ⟨u,rfl,ru⟩:=rv.one;obtain ⟨z,its,n,r,hl,e⟩:=I.lstM hH;refine call_meets F.slot_list_append #[_,e,rfl] F.entry_list_append (F.args_list_append_2 _ _) (PySem.list_append l its.toArray n u (by rw[bT];lia)) #[e,?_];refine #[.non,_,I.lset (its':=its++[u]) hH e .(k) (r.append (.cons ru .nil)) ?_,rfl,q];rw[aS,cS];lia
inductive AW (x:V)(vs:List V)(H:Hp)(Q:VK):Prop
  | c:∀ l b xs zs,x=.ref l->vs=[.ref b]->H l=some (.lst xs)->H b=some (.lst zs)->xs.length+zs.length<=sizeLine->Q .non (upd H l (.lst (xs++zs)))->AW x vs H Q
def GA:MtM X "list.extend" AW:=by
  intro Rf s U H x vs v us Q I rx rv h;obtain ⟨l,b,xs,zs,rfl,rfl,hH,hB,hz,q⟩:=h;cases rx
  obtain ⟨u,rfl,ru⟩:=rv.one;cases ru
  obtain ⟨z,its,n,r,hl,e⟩:=I.lstM hH;obtain ⟨z2,its2,n2,r2,hl2,e2⟩:=I.lstM hB;have hsz:its.toArray.size+its2.toArray.size<=sizeLine:=by rw[bT,bT];lia
  have hlong:¬ (!its.toArray.isEmpty&&Builtin.List.listTooLong (its.toArray.size+its2.toArray.size))=true:=by
    rw[Gz hsz,jE];exact cH
  refine call_meets F.slot_list_extend #[_,e,rfl] F.entry_list_extend (F.args_list_extend_2 _ _)
    (AutoSeq1.list_extend_list_list_0 l its.toArray n b its2.toArray n2 hlong (by rw[bT];lia) .(a)) #[e,e2,?_]
  refine #[.non,_,I.lset (its':=its++its2) hH e .(k) (r.append r2) ?_,rfl,q];rw[aS];lia
inductive AX (x:V)(vs:List V)(H:Hp)(Q:VK):Prop
  | c:∀ l xs,x=.ref l->vs=[]->H l=some (.lst xs)->Q .non (upd H l (.lst []))->AX x vs H Q
def GB:MtM X "list.clear" AX:=by
  intro Rf s U H x vs v us Q I rx rv h;obtain ⟨l,xs,rfl,rfl,hH,q⟩:=h;cases rx
  have hus:=rv.zero;subst hus;obtain ⟨z,its,n,r,hl,e⟩:=I.lstM hH;refine call_meets F.slot_list_clear #[_,e,rfl] F.entry_list_clear (F.args_list_clear_1 _) (AutoSeq1.list_clear_list_0 l its.toArray n (by rw[bT];lia)) #[e,?_];exact #[.non,_,I.lset (its':=[]) (ys:=[]) hH e rfl .nil (cv _),rfl,q]
inductive rCat (x:V)(y:V)(H:Hp)(Q:VK):Prop
  | c:∀ l b xs zs,x=.ref l->y=.ref b->H l=some (.lst xs)->H b=some (.lst zs)->xs.length+zs.length<=sizeLine->(∀ p,H p=none->Q (.ref p) (upd H p (.lst (xs++zs))))->rCat x y H Q
def i5:OpR X (binaryOp .Add) rCat:=by
  intro Rf s U H x y v u Q I rx ry h;obtain ⟨l,b,xs,zs,rfl,rfl,hH,hB,hz,q⟩:=h;cases rx
  cases ry
  obtain ⟨z,its,n,r,hl,e⟩:=I.lstM hH;obtain ⟨z2,its2,n2,r2,hl2,e2⟩:=I.lstM hB;refine PySem.P.add_list e e2 ?_ (by rw[bT,bT];lia);have ea:its.toArray++its2.toArray=(its++its2).toArray:=by simp
  rw[ea];exact #[.ref _,_,I.lnew (t':=s.toks) (r.append r2) (by rw[aS];lia),rfl,q _ I.fresh]
end
section
variable {κ:Type}[DecidableEq κ]
def valV (kvs:List (κ×V))(k:κ):Option V:=(kvs.find? λkv=>decide (kv.1=k)).map (·.2)
def putK (kvs:List (κ×V))(k:κ)(v:V):List (κ×V):=
  if (kvs.any λkv=>decide (kv.1=k))=true then kvs.map (λkv=>if kv.1=k then (kv.1,v) else kv) else kvs++[(k,v)]
def iA {p:κ×V}{r:List (κ×V)}{k:κ}(e:p.1=k):valV (p::r) k=some p.2:=by simp[valV,kj,e]
def fL {p:κ×V}{r:List (κ×V)}{k:κ}(e:¬ p.1=k):valV (p::r) k=valV r k:=by simp[valV,kj,e]
def uV (k:κ):∀ kvs:List (κ×V),(kvs.any λkv=>decide (kv.1=k))=(valV kvs k).isSome
  | []=>rfl
  | p::r=>by
    rw[hZ];by_cases e:p.1=k
    · simp only[iA e,aV e,Bool.true_or,Option.isSome_some]
    · rw[fL e,bx e,Bool.false_or];exact uV k r
def oW (kvs:List (κ×V))(k:κ)(v:V):(putK kvs k v).length<=kvs.length+1:=by
  unfold putK;split
  · rw[ai];lia
  · rw[aS,dC,ie];lia
def kO {kvs:List (κ×V)}{k:κ}(v:V)(h:valV kvs k=none):putK kvs k v=kvs++[(k,v)]:=by
  unfold putK;rw[uV,h];exact ao .(q)
def RelO.isSome_eq {o:Option V}{u:Option Value}(r:RelO o u):o.isSome=u.isSome:=by
  cases o with
  | none=>cases u with
    | none=>rfl
    | some _=>exact (show False from r).elim
  | some _=>cases u with
    | none=>exact (show False from r).elim
    | some _=>rfl
def RelO.getD {o:Option V}{u:Option Value}{d:V}{d':Value}(r:RelO o u)(rd:RelV d d'):RelV (o.getD d) (u.getD d'):=by
  cases o with
  | none=>cases u with
    | none=>exact rd
    | some _=>exact (show False from r).elim
  | some _=>cases u with
    | none=>exact (show False from r).elim
    | some _=>exact r
def KV.val {kvs:List (κ×V)}{vs:List (κ×Value)}(r:KV kvs vs)(k:κ):RelO (valV kvs k) (valueAt vs k):=by
  unfold KV at r
  induction r with
  | nil=>exact True.intro
  | @cons p q ps qs h t ih=>
    obtain ⟨h1,h2⟩:=h;by_cases e:p.1=k
    · have e':q.1=k:=h1.symm.trans e
      have b:valueAt (q::qs) k=some q.2:=by simp[valueAt,kj,e']
      rw[iA e,b];exact h2
    · have e':¬ q.1=k:=λz=>e (h1.trans z)
      have b:valueAt (q::qs) k=valueAt qs k:=by simp[valueAt,kj,e']
      rw[fL e,b];exact ih
def KV.any {kvs:List (κ×V)}{vs:List (κ×Value)}(r:KV kvs vs)(k:κ):(kvs.any λkv=>decide (kv.1=k))=vs.any λkv=>decide (kv.1=k):=by
  unfold KV at r
  induction r with
  | nil=>rfl
  | cons h t ih=>rw[hZ,hZ,ih,h.1]
def KV.repl {kvs:List (κ×V)}{vs:List (κ×Value)}(r:KV kvs vs)(k:κ){y:V}{u:Value}(ry:RelV y u) :
    KV (kvs.map λkv=>if kv.1=k then (kv.1,y) else kv) (vs.map λkv=>if kv.1=k then (kv.1,u) else kv):=by
  unfold KV at r ⊢
  induction r with
  | nil=>exact .nil
  | @cons p q ps qs h t ih=>
    rw[bL,bL];refine .cons ?_ ih;obtain ⟨h1,h2⟩:=h;by_cases e:p.1=k
    · rw[ak e,ak (h1.symm.trans e)];exact #[h1,ry]
    · rw[ao e,ao (λz=>e (h1.trans z))];exact #[h1,h2]
def KV.put {kvs:List (κ×V)}{vs:List (κ×Value)}(r:KV kvs vs)(k:κ){y:V}{u:Value}(ry:RelV y u):KV (putK kvs k y) (stored vs k u):=by
  unfold putK stored;rw[r.any k];by_cases e:(vs.any λkv=>decide (kv.1=k))=true
  · rw[ak e,ak e];exact r.repl k ry
  · rw[ao e,ao e];exact Paired.snoc r #[rfl,ry]
def KV.length {kvs:List (κ×V)}{vs:List (κ×Value)}(r:KV kvs vs):kvs.length=vs.length:=Paired.length r
end
def jN {k:Key}{u:Value}(r:RelV (kV k) u):(cf P w).is k u=true:=by
  cases k with
  | inl i=>obtain ⟨t,e⟩:=(show ∃ t,u=Value.int i t from r);subst e;exact Fg P w i t
  | inr x=>obtain ⟨t,e⟩:=(show ∃ t,u=Value.str x t from r);subst e;exact Fh P w x t
def AY :∀{ks:List Key} {us:List Value},Vals (ks.map kV) us->ItemsAre (cf P w) ks us
  | [],_,r=>by rw[kl]at r;cases r;exact .nil
  | k::ks,_,r=>by
    rw[bL]at r;cases r with
    | cons h t=>exact .cons (jN h) (AY t)
abbrev KT (H:Hp):List (List Key×V)->List (List Key×Addr×Value)->Prop:=Paired λp q=>p.1=q.1/\H q.2.1=some (.tup (p.1.map kV))/\RelV p.2 q.2.2
def KT.val {kvs:List (List Key×V)}{xs:List (List Key×Addr×Value)}(r:KT H kvs xs)(k:List Key):RelO (valV kvs k) ((atKey xs k).map (·.2)):=by
  induction r with
  | nil=>exact True.intro
  | @cons p q ps qs h t ih=>
    obtain ⟨h1,_,h2⟩:=h;by_cases e:p.1=k
    · have e':q.1=k:=h1.symm.trans e
      have b:atKey (q::qs) k=some q.2:=by simp[atKey,kj,e']
      rw[iA e,b];exact h2
    · have e':¬ q.1=k:=λz=>e (h1.trans z)
      have b:atKey (q::qs) k=atKey qs k:=by simp[atKey,kj,e']
      rw[fL e,b];exact ih
def KT.repl {kvs:List (List Key×V)}{xs:List (List Key×Addr×Value)}(r:KT H kvs xs)(k:List Key){y:V}{u:Value}(ry:RelV y u) :
    KT H (kvs.map λkv=>if kv.1=k then (kv.1,y) else kv) (xs.map (putAt k u)):=by
  induction r with
  | nil=>exact .nil
  | @cons p q ps qs h t ih=>
    rw[bL,bL];refine .cons ?_ ih;obtain ⟨h1,h2,h3⟩:=h;unfold putAt;by_cases e:p.1=k
    · rw[ak e,ak (h1.symm.trans e)];exact #[h1,h2,ry]
    · rw[ao e,ao (λz=>e (h1.trans z))];exact #[h1,h2,h3]
def KT.put {kvs:List (List Key×V)}{xs:List (List Key×Addr×Value)}(r:KT H kvs xs)(k:List Key){b:Addr}{y:V}{u:Value}(hb:H b=some (.tup (k.map kV)))(ry:RelV y u) :
    KT H (putK kvs k y) (storedH xs k b u):=by
  have e:(kvs.any λkv=>decide (kv.1=k))=(atKey xs k).isSome:=by
    rw[uV,(r.val k).isSome_eq,Option.isSome_map]
  unfold putK storedH;rw[e];by_cases q:(atKey xs k).isSome=true
  · rw[ak q,ak q];exact r.repl k ry
  · rw[ao q,ao q];exact Paired.snoc r #[rfl,hb,ry]
def KT.keeps {H':Hp}{kvs:List (List Key×V)}{xs:List (List Key×Addr×Value)}(r:KT H kvs xs)(ht:∀ b ys,H b=some (.tup ys)->H' b=some (.tup ys)):KT H' kvs xs:=
  Paired.mapP r λ_ _ z=>#[z.1,ht _ _ z.2.1,z.2.2]
section
variable {P:Program}{w:World}{H:Hp}{h:Heap}{a:Addr}
def AZ (ok:HOk P w H h)(e:Rd H a u):bJ P w H h a u:=e.ok ok
def kQ {kvs:List (Key×V)}(ok:HOk P w H h)(e:Rd H a (.dK kvs)):kvs.length<=sizeLine/\(a==sysModules)=false/\∃ vs,KV kvs vs/\h.DictOf (cf P w) a vs:=
  show bJ P w H h a (.dK kvs) from AZ ok e
def uW {kvs:List (Key×V)}(ok:HOk P w H h)(e:H a=some (.dK kvs)):kvs.length<=sizeLine/\(a==sysModules)=false/\∃ vs,KV kvs vs/\h.DictOf (cf P w) a vs:=kQ ok (.inl e)
def mD {ks:List Key}(ok:HOk P w H h)(e:H a=some (.tup (ks.map kV))):(tupleKind (cf P w)).is h ks a:=by
  obtain ⟨_,its,r,o,h1,h2,n,h3⟩:=(show bJ P w H h a (.tup (ks.map kV)) from ok a _ e);exact #[o,its.toArray,n,h1,h2,h3,by simpa using AY r]
def kR {kvs:List (List Key×V)}(ok:HOk P w H h)(e:Rd H a (.dT kvs)):kvs.length<=sizeLine/\(a==sysModules)=false/\
    ∃ xs,KT H kvs xs/\h.DictOfH (tupleKind (cf P w)) a xs:=by
  obtain ⟨z,y,xs,r,o,es,ep,h1,h2,h3,h4,h5⟩:=(show bJ P w H h a (.dT kvs) from AZ ok e);refine #[z,y,xs,r,o,es,ep,h1,h2,h3,h4,λx hx=>?_,h5];have all:∀{l:List (List Key×V)} {m:List (List Key×Addr×Value)},KT H l m->∀ x∈m,(tupleKind (cf P w)).is h x.1 x.2.1:=by
    intro l m q
    induction q with
    | nil=>intro x hx;exact nomatch hx
    | @cons p q ps qs hq t ih=>
      intro x hx;rcases aU.mp hx with e|hx
      · subst e
        exact mD ok (by rw[<-hq.1];exact hq.2.1)
      · exact ih x hx
  exact all r x hx
def GC {kvs:List (List Key×V)}(ok:HOk P w H h)(e:H a=some (.dT kvs)):kvs.length<=sizeLine/\(a==sysModules)=false/\
    ∃ xs,KT H kvs xs/\h.DictOfH (tupleKind (cf P w)) a xs:=kR ok (.inl e)
end
def DGet (H:Hp)(a:Addr)(y:V)(r:Option V):Prop:=
  (∃ kvs k,Rd H a (.dK kvs)/\y=kV k/\r=valV kvs k)\/∃ kvs k b,Rd H a (.dT kvs)/\y=.ref b/\H b=some (.tup (k.map kV))/\r=valV kvs k
def DPut (H:Hp)(a:Addr)(y v:V)(H':Hp):Prop:=
  (∃ kvs k,H a=some (.dK kvs)/\y=kV k/\kvs.length<sizeLine/\H'=upd H a (.dK (putK kvs k v)))\/
  ∃ kvs k b,H a=some (.dT kvs)/\y=.ref b/\H b=some (.tup (k.map kV))/\kvs.length<sizeLine/\H'=upd H a (.dT (putK kvs k v))
def DGet.k {H:Hp}{a:Addr}{kvs:List (Key×V)}{k:Key}(e:H a=some (.dK kvs)):DGet H a (kV k) (valV kvs k):=.inl #[kvs,k,.inl e,rfl,rfl]
def DGet.t {H:Hp}{a b:Addr}{kvs:List (List Key×V)}{k:List Key}(e:H a=some (.dT kvs))(eb:H b=some (.tup (k.map kV))):DGet H a (.ref b) (valV kvs k):=.inr #[kvs,k,b,.inl e,rfl,eb,rfl]
def DPut.k {H:Hp}{a:Addr}{kvs:List (Key×V)}{k:Key}(e:H a=some (.dK kvs))(hl:kvs.length<sizeLine):DPut H a (kV k) v (upd H a (.dK (putK kvs k v))):=.inl #[kvs,k,e,rfl,hl,rfl]
def DPut.t {H:Hp}{a b:Addr}{kvs:List (List Key×V)}{k:List Key}(e:H a=some (.dT kvs))(eb:H b=some (.tup (k.map kV)))(hl:kvs.length<sizeLine) :
    DPut H a (.ref b) v (upd H a (.dT (putK kvs k v))):=.inr #[kvs,k,b,e,rfl,eb,hl,rfl]
section
variable {X:Cx}{Rf:List (Addr×Obj)}{U:St}{H:Hp}{s:Shared}{a:Addr}{y v:V}{u r:Value}{o:Option V}{A:Around}{E:Value->Shared->Prop}
def Inv.big (I:Inv X Rf U H s):sysModules<s.heap.objs.size:=by
  have h:mainGlobals<s.heap.objs.size:=(I.mod.glob.keeps I.bk).lt;exact Nat.lt_trans .(q) h
def GD {Q:Value->Shared->Prop}(hu:A.units+1<cLine)(I:Inv X Rf U H s)(g:DGet H a y (some v))(ry:RelV y u)(h:∀ w' s',Inv X Rf U H s'->RelV v w'->Q w' s') :
    wpAny .(d) A (getItem (.ref a) u) Q E s:=by
  rcases g with ⟨kvs,k,e,ey,l⟩|⟨kvs,k,b,e,ey,eb,l⟩
  · subst ey
    obtain ⟨z,hd,vs,rel,dd⟩:=kQ I.hok e;obtain ⟨w',hw,rw'⟩:=RelO.some_of (v:=v) (o:=valueAt vs k) (by rw[l];exact rel.val k);exact wpAny_getItem_of (jN ry) dd.mapOf hw (h w' _ (I.tok _) rw')
  · subst ey
    cases (show u=Value.ref b from ry)
    obtain ⟨z,hd,xs,rel,dd⟩:=kR I.hok e;obtain ⟨w',hw,rw'⟩:=RelO.some_of (v:=v) (o:=(atKey xs k).map (·.2)) (by rw[l];exact rel.val k);obtain ⟨p,hp,hp2⟩:=gI.mp hw;refine wpAny_getItem_heap (tupleKind_room_in1 hu) (mD I.hok eb) dd hp ?_;rw[hp2];exact h w' _ (I.tok _) rw'
def GE {Q:Value->Shared->Prop}(hu:A.units+1<cLine)(I:Inv X Rf U H s)(g:DGet H a y o)(ry:RelV y u)(h:∀ s',Inv X Rf U H s'->Q (.bool (!o.isSome)) s') :
    wpAny .(d) A (compareOp .NotIn u (.ref a)) Q E s:=by
  rcases g with ⟨kvs,k,e,ey,l⟩|⟨kvs,k,b,e,ey,eb,l⟩
  · subst ey
    obtain ⟨z,hd,vs,rel,dd⟩:=kQ I.hok e;refine wpAny_notIn_of (jN ry) hd dd.mapOf ?_;rw[<-(rel.val k).isSome_eq,<-l];exact h _ (I.tok _)
  · subst ey
    cases (show u=Value.ref b from ry)
    obtain ⟨z,hd,xs,rel,dd⟩:=kR I.hok e;refine wpAny_notIn_heap (tupleKind_room_in1 hu) (mD I.hok eb) hd dd ?_;have q:=(rel.val k).isSome_eq;rw[Option.isSome_map]at q;rw[<-q,<-l];exact h _ (I.tok _)
def uX {h':Heap}{t':Nat}(I:Inv X Rf U H s)(mu:Mut (H a))(hs:Heap.SameBut a s.heap h')(he:∃ q,h'.get? a=some q)(new:bJ X.prog X.w (upd H a ob) h' a ob) :
    Inv X Rf U (upd H a ob) { s with heap:=h',toks:=t' }:=
  I.write (x:=a) (e:=a) mu .(va) (λb q hb z=>(hs.2 b hb).trans z) he new
def A0 {h':Heap}{kvs:List (Key×V)}{vs:List (Key×Value)}(z:kvs.length<=sizeLine)(hd:(a==sysModules)=false)(rel:KV kvs vs)(dd:h'.DictOf (cf P w) a vs) :
    bJ P w H' h' a (.dK kvs):=#[z,hd,vs,rel,dd]
def GF {Q:Unit->Shared->Prop}(hu:A.units+1<cLine)(I:Inv X Rf U H s)(g:DPut H a y v H')(ry:RelV y u)(rv:RelV v r)(h:∀ s',Inv X Rf U H' s'->Q () s') :
    wpAny .(d) A (setItem (.ref a) u r) Q E s:=by
  rcases g with ⟨kvs,k,e,ey,l,eH⟩|⟨kvs,k,b,e,ey,eb,l,eH⟩
  · subst ey eH
    obtain ⟨z,hd,vs,rel,dd⟩:=uW I.hok e;have hz:vs.length<=sizeLine:=by rw[<-rel.length];exact z
    have hl:(putK kvs k v).length<=sizeLine:=by have:=oW kvs k v;lia
    refine wpAny_setItem_pairs (hsz:=hz) (jN ry) dd λh' dd' hs=>h _ ?_;have he:∃ q,h'.get? a=some q:=let ⟨q,_,_,hq,_⟩:=dd';#[q,hq];exact uX I (by rw[e];exact True.intro) hs he (A0 hl hd (rel.put k rv) dd')
  · subst ey eH
    cases (show u=Value.ref b from ry)
    obtain ⟨z,hd,xs,rel,dd⟩:=GC I.hok e;have hz:xs.length<=sizeLine:=by rw[<-Paired.length rel];exact z
    have hl:(putK kvs k v).length<=sizeLine:=by have:=oW kvs k v;lia
    refine wpAny_setItem_heap (hsz:=hz) (tupleKind_room_in1 hu) (mD I.hok eb) dd λh' dd' hs=>h _ ?_;obtain ⟨q,es,ep,hq,h2,h3,h4,_,h5⟩:=dd';refine uX I (by rw[e];exact True.intro) hs #[q,hq] #[hl,hd,_,(rel.put k eb rv).keeps λc ys ec=>?_,q,es,ep,hq,h2,h3,h4,h5];rw[aj (zV ec e nofun)];exact ec
end
def NoSl (i:Expr):Prop:=∀ ov iv,subscripted i false ov iv=operate [ov,iv] (getItem ov iv)
def GG {prog:Program}{w:World}{A:Around}{E:Value->Shared->Prop}{s:Shared}{env:Env}{value:Expr}{pos:Pos}{T id:String}{Q:Value->Shared->Prop}
    (hl:typeLookup (.type T) "__getitem__" = pure (some (.builtin id))) (hs:NoSl slice)
    (h:wpAny .(i) A (eval value env) (λo s₁=>wpAny .(i) A (eval slice env) (λi s₂=>s₂.TypeIs o T/\wpAny .(i) A (getItem o i) Q E s₂) E s₁) E s) :
    wpAny .(i) A (eval (.Subscript value slice pos) env) Q E s:=by
  refine Subscript_ (cW h (λo s₁ h₁=>cW h₁ (λi s₂ h₂=>?_) λ_ _ x=>x) λ_ _ x=>x);obtain ⟨hT,h₂⟩:=h₂;unfold subscriptTail;refine ax ?_;rw[getitemInPython_of_ne hT.not_modules];refine ax (wpAny_specialOf hT hl ?_);have fin:wpAny .(i) A (subscripted slice false o i) (λr s₃=>wpAny .(i) A (letTemporaryGo value o r >>= λ_=>pure r) Q E s₃) E s₂:=by
    rw[hs o i];exact wpAny_operating (cW h₂ (λr s₃ h₃=>ax (wpAny_letTemporaryGo (aM h₃))) λ_ _ x=>x)
  first
    | exact aM (ax fin)
    | exact ax (aM (ax fin))
    | exact ax fin
def GH {a:Addr}(I:Inv X Rf U H s)(g:DGet H a y o):s.TypeIs (.ref a) "dict":=by
  rcases g with ⟨kvs,k,e,_,_⟩|⟨kvs,k,b,e,_,_,_⟩
  · obtain ⟨_,_,vs,_,dd⟩:=kQ I.hok e
    exact dd.typeIs
  · obtain ⟨_,_,xs,_,dd⟩:=kR I.hok e
    exact dd.typeIs
inductive A2 (Q:VK)(x:V)(y:V)(H2:Hp):Prop
  | c:∀ a v,x=.ref a->DGet H2 a y (some v)->Q v H2->A2 Q x y H2
def GI (td ty:TE):TE:=λU H Q=>td U H λx H1=>ty U H1 λy H2=>A2 Q x y H2
inductive A4 (D:Ends)(U:St)(v:V)(x:V)(y:V)(H3:Hp):Prop
  | c:∀ a H4,x=.ref a->DPut H3 a y v H4->D.nx U H4->A4 D U v x y H3
def GJ (td ty tv:TE):TS:=λD U H=>tv U H λv H1=>td U H1 λx H2=>ty U H2 λy H3=>A4 D U v x y H3
section
variable {X:Cx}{o i e value:Expr}{pos pos' tpos:Pos}{td ty tv:TE}
def ja (hu:X.A.units+1<cLine)(ho:PE X o td)(hi:PE X i ty)(hs:NoSl i):PE X (.Subscript o i pos) (GI td ty):=by
  intro Rf s U H Q I h;refine GG PySem.F.slot_dict_getitem.lookup hs (thn (ho Rf s U H _ I h) λu s1 zq0=>?_);obtain ⟨x,H1,I1,rx,q1⟩:=zq0;refine thn (hi Rf s1 U H1 _ I1 q1) λiv s2 zq1=>?_;obtain ⟨y,H2,I2,ry,a,v,ex,g,q2⟩:=zq1;subst ex;obtain rfl:u=Value.ref a:=rx;exact #[GH I2 g,GD hu I2 g ry λw' s3 I3 rw'=>#[v,H2,I3,rw',q2]]
def jO (hu:X.A.units+1<cLine)(ho:PE X o td)(hi:PE X i ty)(hv:PE X value tv)(hs:swapsWith value (some (.Subscript o i pos')) pos.line X.env=pure false) :
    PS X (.Assign [.Subscript o i pos'] value pos) (GJ td ty tv):=by
  intro Rf s U H D I h;refine wpAny_Assign_Subscript (thn (hv Rf s U H _ I h) λr s1 zq0=>?_) hs;obtain ⟨v,H1,I1,rv,q1⟩:=zq0;refine thn (ho Rf s1 U H1 _ I1 q1) λu s2 zq1=>?_;obtain ⟨x,H2,I2,rx,q2⟩:=zq1;refine thn (hi Rf s2 U H2 _ I2 q2) λiv s3 zq2=>?_;obtain ⟨y,H3,I3,ry,a,H4,ex,g,q3⟩:=zq2;subst ex;obtain rfl:u=Value.ref a:=rx;exact GF hu I3 g ry rv λs4 I4=>#[U,H4,I4,q3]
end
def A5 (h:Heap)(hb:sysModules<h.objs.size):bJ P w H (h.push { cls:=.type "dict",data:=.dict (List.toArray []) }) h.objs.size (.dK []):=
  #[cv _,beq_eq_false_iff_ne.mpr (bt (bK hb)),[],.nil,Heap.DictOf.new h]
def GK (h:Heap)(hb:sysModules<h.objs.size):bJ P w H (h.push { cls:=.type "dict",data:=.dict (List.toArray []) }) h.objs.size (.dT []):=
  #[cv _,beq_eq_false_iff_ne.mpr (bt (bK hb)),[],.nil,_,(List.toArray []),0,cB _ rfl,#[rfl,rfl,rfl],rfl,rfl,iP]
def GL:TE:=λ_ H Q=>∀ p,H p=none->Q (.ref p) (upd H p (.dK []))
def GM:TE:=λ_ H Q=>∀ p,H p=none->Q (.ref p) (upd H p (.dT []))
section
variable {X:Cx}{pos:Pos}
def uY:PE X (.Dict [] [] pos) GL:=λRf s U H Q I h=>
  wpAny_Dict_empty #[.ref s.heap.objs.size,_,I.laid (a:=s.heap.objs.size) (o:=.dK []) (t':=s.toks) (λ_ _ q=>aY _ q) (aq _) (A5 s.heap I.big),rfl,h _ .(ja)]
def A6:PE X (.Dict [] [] pos) GM:=λRf s U H Q I h=>
  wpAny_Dict_empty #[.ref s.heap.objs.size,_,I.laid (a:=s.heap.objs.size) (o:=.dT []) (t':=s.toks) (λ_ _ q=>aY _ q) (aq _) (GK s.heap I.big),rfl,h _ .(ja)]
end
def uZ:List (TE×TE)->St->Hp->(List (V×V)->Hp->Prop)->Prop
  | [],_,H,Q=>Q [] H
  | (tk,tv)::r,U,H,Q=>tk U H λx H1=>tv U H1 λy H2=>uZ r U H2 λps H3=>Q ((x,y)::ps) H3
abbrev VV:List (V×V)->List (Value×Value)->Prop:=Paired λp q=>RelV p.1 q.1/\RelV p.2 q.2
def PPs (X:Cx)(pos:Pos)(keys:List (Option Expr))(values:List Expr)(trs:List (TE×TE)):Prop:=
  ∀(Rf:List (Addr×Obj)) (s:Shared) (U:St) (H:Hp) (Q:List (V×V)->Hp->Prop),Inv X Rf U H s->uZ trs U H Q->
    wpAny .(d) X.A (evalPairs (pairTrees keys values X.env pos)) (λvs s'=>∃ ps H',Inv X Rf U H' s'/\VV ps vs/\Q ps H') X.xe s
def GN :PPs X pos [] [] []:=λRf s U H Q I h=>pairTrees_nil_walk #[[],H,I,.nil,h]
def u7 {k:Expr}(hk:PE X k tk)(hv:PE X v tv)(hr:PPs X pos ks vs trs) :
    PPs X pos (some k::ks) (v::vs) ((tk,tv)::trs):=λRf s U H Q I h=>
  pairTrees_cons_walk (thn (hk Rf s U H _ I h) λu s1 ⟨x,H1,I1,rx,q1⟩=>thn (hv Rf s1 U H1 _ I1 q1) λw2 s2 ⟨y,H2,I2,ry,q2⟩=>
    thn (hr Rf s2 U H2 _ I2 q2) λws s3 ⟨ps,H3,I3,rel,q3⟩=>#[(x,y)::ps,H3,I3,.cons #[rx,ry] rel,q3])
def jb (kvs more:List (Key×V)):List (Key×V):=more.foldl (λacc kv=>putK acc kv.1 kv.2) kvs
def KV.merge:∀{more:List (Key×V)} {rs:List (Key×Value)} {kvs:List (Key×V)} {vs:List (Key×Value)},KV more rs->KV kvs vs->KV (jb kvs more) (merged vs rs):=by
  intro more rs kvs vs r;unfold KV at r
  induction r generalizing kvs vs with
  | nil=>intro q;exact q
  | @cons p q ps qs h t ih=>
    intro r0;have e:KV (putK kvs p.1 p.2) (stored vs q.1 q.2):=by
      have:=r0.put p.1 h.2;rw[<-h.1];exact this
    exact ih e
def A7:∀(more kvs:List (Key×V)),(jb kvs more).length<=kvs.length+more.length
  | [],kvs=>by show kvs.length<=kvs.length+0;lia
  | p::r,kvs=>by
    have h1:=A7 r (putK kvs p.1 p.2);have h2:=oW kvs p.1 p.2;show (jb (putK kvs p.1 p.2) r).length<=_;rw[dC];lia
def A8 :∀{kvs:List (Key×V)} {ws:List (Value×Value)},VV (kvs.map λkv=>(kV kv.1,kv.2)) ws->∃ rs,Carries (cf P w) ws rs/\KV kvs rs
  | [],_,r=>by rw[kl]at r;cases r;exact #[[],True.intro,.nil]
  | p::kvs,_,r=>by
    rw[bL]at r;cases r with
    | @cons a b as bs h t=>
      obtain ⟨rs,c,q⟩:=A8 (P:=P) (w:=w) t;obtain ⟨b1,b2⟩:=b;exact #[(p.1,b2)::rs,#[jN h.1,rfl,c],.cons #[rfl,h.2] q]
def GO (trs:List (TE×TE)):TE:=λU H Q=>∀ p,H p=none->uZ trs U (upd H p (.dK [])) λps H2=>H2 p=some (.dK [])/\∃ kvs:List (Key×V),ps=kvs.map (λkv=>(kV kv.1,kv.2))/\kvs.length<=15/\Q (.ref p) (upd H2 p (.dK (jb [] kvs)))
def GP (h:PPs X pos keys values trs)(hall:keys.all (·.isSome)=true)(hl:keys.length=values.length)(h0:keys≠[])
    (h15:keys.length<=15):PE X (.Dict keys values pos) (GO trs):=by
  intro Rf s U H Q I q;have hn:=I.hok.fresh (aq s.heap.objs.size);have I1:=I.laid (a:=s.heap.objs.size) (o:=.dK []) (h':=s.heap.push { cls:=.type "dict",data:=.dict (List.toArray []) }) (t':=s.toks) (λ_ _ q=>aY _ q) (aq _) (A5 s.heap I.big);refine wpAny_Dict_walk (knd:=cf X.prog X.w) hall hl h0 h15 (thn (h Rf _ U _ _ I1 (q _ hn)) λws s2 zq0=>?_);obtain ⟨ps,H2,I2,rel,e,kvs,ep,lk,q2⟩:=zq0;subst ep;obtain ⟨rs,c,rk⟩:=A8 (P:=X.prog) (w:=X.w) rel;obtain ⟨z,hd,vs0,r0,dd⟩:=uW I2.hok e;cases r0
  refine #[rs,c,dd,λh' dd' hs=>#[.ref s.heap.objs.size,_,?_,rfl,q2]];have hz:(jb [] kvs).length<=sizeLine:=by
    have h1:=A7 kvs [];rw[ie]at h1;rw[sizeLine_eq];lia
  have he:∃ q,h'.get? s.heap.objs.size=some q:=let ⟨q,_,_,hq,_⟩:=dd';#[q,hq];exact uX I2 (by rw[e];exact True.intro) hs he (A0 hz hd (rk.merge .nil) dd')
structure M2 (X:Cx)(o:Expr)(m:Str)(apos:Pos)(e f:Expr)(cpos:Pos):Prop where
  base:attributeBase o m X.env (eval o X.env)=eval o X.env
  few:((backTo cpos (starEach [e,f] X.env)).all (λx=>!x.1) && (backToKw cpos (keywordEach [] X.env)).all (λx=>x.1.isSome)
    && decide (([e,f]:List Expr).length+([]:List Keyword).length+(if ([]:List Keyword).isEmpty then 0 else 1)<30))=true
  line:(apos.endLine==cpos.line)=true
  trees:backTo cpos (starEach [e,f] X.env)=[.(w),(false,eval f X.env)]
def IsD (H:Hp)(a:Addr):Prop:=(∃ kvs,Rd H a (.dK kvs))\/∃ kvs,Rd H a (.dT kvs)
def GQ {a:Addr}(I:Inv X Rf U H s)(d:IsD H a) :
    s.TypeIs (.ref a) "dict"/\(∀ b,Value.ref a=.ref b->∃ ob,s.heap.get? b=some ob/\ob.dict=none)/\(a==sysModules)=false:=by
  rcases d with ⟨kvs,e⟩|⟨kvs,e⟩
  · obtain ⟨_,hd,vs,_,dd⟩:=kQ I.hok e
    refine #[dd.typeIs,λb q=>?_,hd];cases q
    obtain ⟨ob,_,_,h1,h2,_⟩:=dd;exact #[ob,h1,h2.2.1]
  · obtain ⟨_,hd,xs,_,dd⟩:=kR I.hok e
    refine #[dd.typeIs,λb q=>?_,hd];cases q
    obtain ⟨ob,_,_,h1,h2,_⟩:=dd;exact #[ob,h1,h2.2.1]
section
variable {X:Cx}{Rf:List (Addr×Obj)}{U:St}{H:Hp}{s:Shared}{a:Addr}{y d:V}{u r:Value}{o:Option V}{A:Around}{E:Value->Shared->Prop}
def GR {Q:Value->Shared->Prop}(hu:A.units+1<cLine)(I:Inv X Rf U H s)(g:DGet H a y o)(ry:RelV y u)(rd:RelV d r)(h:∀ w' s',Inv X Rf U H s'->RelV (o.getD d) w'->Q w' s') :
    wpAny .(d) A (call (.builtin "dict.get") [.ref a,u,r]) Q E s:=by
  rcases g with ⟨kvs,k,e,ey,l⟩|⟨kvs,k,b,e,ey,eb,l⟩
  · subst ey
    obtain ⟨z,hd,vs,rel,dd⟩:=kQ I.hok e;refine call_meetsIn PySem.F.slot_dict_get dd.typeIs PySem.F.entry_dict_get (PySem.F.args_dict_get_3 _ _ _) (meets_dict_get_default (cf X.prog X.w) a (jN ry) hd r) #[_,dd.mapOf,h _ _ (I.tok _) ?_];rw[l];exact (rel.val k).getD rd
  · subst ey
    cases (show u=Value.ref b from ry)
    obtain ⟨z,hd,xs,rel,dd⟩:=kR I.hok e;refine call_meetsIn PySem.F.slot_dict_get dd.typeIs PySem.F.entry_dict_get (PySem.F.args_dict_get_3 _ _ _) (meetsH_dict_get_default (tupleKind (cf X.prog X.w)) a b hd r) #[tupleKind_room_in1 hu,k,xs,mD I.hok eb,dd,h _ _ (I.tok _) ?_];rw[l];exact (rel.val k).getD rd
end
inductive A9 (ty:TE)(tx:TE)(U:St)(Q:VK)(x:V)(H1:Hp):Prop
  | c:∀ a,x=.ref a->IsD H1 a->(ty U H1 λy H2=>tx U H2 λz H3=>∃ o,DGet H3 a y o/\Q (o.getD z) H3)->A9 ty tx U Q x H1
def GS (td ty tx:TE):TE:=λU H Q=>td U H λx H1=>A9 ty tx U Q x H1
section
variable {X:Cx}{o e f:Expr}{apos cpos:Pos}{td ty tx:TE}
def GT (hu:X.A.units+1<cLine)(ho:PE X o td)(he:PE X e ty)(hf:PE X f tx)(m:M2 X o "get" apos e f cpos):PE X (.Call (.Attribute o "get" apos) [e,f] [] cpos) (GS td ty tx):=by
  intro Rf s U H Q I h;refine wpAny_Call_method m.base m.few m.line PySem.F.plainAttrs_dict PySem.F.slot_dict_get PySem.F.type_dict_get (thn (ho Rf s U H _ I h) λu s1 zq0=>?_);obtain ⟨x,H1,I1,rx,a,ex,d,q1⟩:=zq0;subst ex;obtain rfl:u=Value.ref a:=rx;obtain ⟨t1,t2,_⟩:=GQ I1 d;refine #[t1,t2,?_];rw[m.trees];refine Calls.callWith_builtin rfl (Calls.evalArgs_plain (Calls.spliced_cons (thn (he Rf s1 U H1 _ I1 q1) λiv s2 ⟨y,H2,I2,ry,q2⟩=>
    Calls.spliced_cons (thn (hf Rf s2 U H2 _ I2 q2) λfv s3 ⟨z,H3,I3,rz,ov,g,q3⟩=>Calls.spliced_nil ?_))))
  exact GR hu I3 g ry rz λw' s4 I4 rw'=>#[_,H3,I4,rw',q3]
end
end L2
namespace Att
open PySem PySem.W PySem.Calls PyProof.Rows
def GU {P:Params}{h:Heap}:∀(ns:List Int) (vs:List Value),WellAll P h vs (ns.map WData.int)->IntsAre vs ns:=by
  intro ns
  induction ns with
  | nil=>
    intro vs w;rw[kl]at w;cases w
    exact .nil
  | cons n ns ih=>
    intro vs w;rw[bL]at w;cases w with
    | cons a b=>
      cases a
      exact .cons _ _ (ih _ b)
def GV {l:OpenLaw}{n:Nat}(hn:l.most=some n){P:Params}{h:Heap}{args:List WData}{vals:List Value}
    (hpre:l.row.toRowW.claim.pre args=true) (hwl:WellAll P h vals args) :
    ∃ a vs ns,vals=[Value.ref a]/\args=[WData.list (ns.map WData.int)]/\h.get? a=some { cls:=.type "list",data:=.seq vs.toArray }/\IntsAre vs ns/\ns.length<=n:=by
  have hsh:WShape.hasAll [] args [.list .int]=true:=(pre_splitW hpre).1;have hc:l.pre.holds [] { args:=args }=true:=(pre_splitW hpre).2;obtain ⟨d,r,rfl,h1,h2⟩:=hasAllW_cons hsh;obtain rfl:=hasAllW_nil h2;obtain ⟨xs,rfl,h3⟩:=hasW_list h1;obtain ⟨ns,rfl⟩:=items_int h3;have hlen:ns.length<=n:=by
    unfold OpenLaw.pre at hc;have h4:(WTm.not (.lt (.lit (.int (n:Int))) (.len (.arg 0)))).holds [] { args:=[.list (ns.map .int)] }=true:=by
      have h4:=(holds_andW hc).1;rw[hn]at h4;exact h4
    have h5:=condW_of h4 (w_not (w_lt w_lit (w_len_list (w_arg rfl))));rw[ai]at h5;refine jF λq=>?_;have q':(n:Int)<((ns.length:Nat):Int):=by lia
    first
      | (rw[aV q']at h5;exact absurd h5 (by decide))
      | (simp at h5;lia)
  cases hwl with
  | cons w1 w2=>
    cases w2
    cases w1 with
    | list ho hall=>exact #[_,_,ns,rfl,rfl,ho,GU ns _ hall,hlen]
def GW (l:OpenLaw)(args:List WData):l.row.toRowW.claim.post args (.bool true) args=true:=
  postW_of (r:=l.row.toRowW) (X:=(true==true))
    (show WShape.has [] (.bool true) .bool=true by first|rfl|decide|simp[WShape.has,WShape.arms,WShape.armsAll])
    (show (WTm.eq .res (.lit (.bool true))).value [] { args:=args,res:=some (.bool true),after:=args }=some (.bool (true==true)) from w_eq_bool (w_res rfl) w_lit) rfl
def attach_call {l:OpenLaw}{n:Nat}{q:Program}{loose:List Str}{XP:(Str->Option Value)->Heap->Prop}{YP:World->Heap->Prop}{d:DefRec}
    (hn:l.most=some n) (hdf:d.params.defaults=[])
    (call:∀(w:World) (s₀ s₁:Shared) (mg mb:Str->Option Value) (fa:Addr) (o:Obj) (pm cd doc:Value) (a:Addr) (vs:List Value) (ns:List Int),
      Ground q loose [] XP w s₀ mg mb s₁.heap->YP w s₁.heap->
      s₁.heap.get? fa=some o->o.data=.func (docDef d.name d.params d.body d.scope pm cd doc)->s₁.heap.CodeRec cd d.name->mg d.name=some (.ref fa)->
      s₁.heap.get? a=some { cls:=.type "list",data:=.seq vs.toArray }->IntsAre vs ns->ns.length<=n->s₁.gens=(List.toArray [])->
      codeAny (model l.prog w) callerA (.call (.ref fa) #[[.ref a],[]]) (λr s'=>r=.ok (.ret (.bool true))/\OldK s₁.heap s'.heap/\s'.os=s₁.os/\AllBare s'.gens) s₁) :
    WalkO q loose XP YP l.row.toRowW d [] (λf vs=>PySem.call f vs):=by
  intro w s₀ s₁ mg mb G Y fa o pm cd doc dV kV ho hd hcd hD hmg hg args vals as hpre hlay hrd hwl hlo;obtain rfl:dV=.none:=Dflts.none hD hdf;obtain rfl:kV=.none:=Dflts.noKw hD;obtain ⟨a,vs,ns,rfl,rfl,hobj,hints,hlen⟩:=GV hn hpre hwl;refine enter_call (codeAny_mono (call w s₀ s₁ mg mb fa o pm cd doc a vs ns G Y ho (fd_plain hd) hcd hmg hobj hints hlen hg) λr s' hq=>?_);obtain ⟨rfl,h2,h3,h4⟩:=hq;exact #[.inl #[.bool true,.bool true,[],rfl,λ_=>rfl,.bool true,GW l _,λ_=>#[List.Pairwise.nil,λ_ hm=>(nomatch hm)]],h2,h3,h4]
end Att
namespace L2
open PySem PySem.Spec PyProof.Rows
def Ba:∀{vs:List Value} {ns:List Int},IntsAre vs ns->Vals .(H) vs
  | _,_,.nil=>.nil
  | _,_,.cons n t h=>.cons #[t,rfl] (Ba h)
def iB (s:Stmt)(j:Nat):Stmt:=match s with
  | .ClassDef _ _ _ body _ _ _ _ _ _ _=>body.getD j (.Pass #[0,0,0,0])
  | _=>.Pass #[0,0,0,0]
def fh (s:Stmt):Arguments:=match s with
  | .FunctionDef _ a _ _ _ _ _ _ _ _=>a
  | _=>{ posonlyargs:=[],args:=[],vararg:=none,kwonlyargs:=[],kw_defaults:=[],kwarg:=none,defaults:=[] }
def c9 (s:Stmt):List Stmt:=match s with
  | .FunctionDef _ _ b _ _ _ _ _ _ _=>b
  | _=>[]
def aE (s:Stmt):Scope:=match s with
  | .FunctionDef _ _ _ _ _ _ sc _ _ _=>sc
  | _=>{ kind:=.function,names:=[],isGenerator:=false,isCoroutine:=false }
abbrev CX0:CXT:=λ_ _ _ _ _ _=>False
abbrev E0:XK:=λ_ _ _=>False
def mE :iy CX0 X E0:=λ_ _ _ _ _ _ _ h=>h.elim
structure Fun (K:Frag)(x qual:Str)(st:Stmt)(f:Addr)(fd:FuncData):Prop where
  ex:∃(oc:Value) (od:Option Addr) (kV doc pm:Value) (an:Option Addr) (cdv ct:Value) (osl:Array (Option Value)),
    fd=fnOf x qual (fh st) (c9 st) (aE st) .none kV doc pm an cdv ct/\K.lookup f=some #[oc,od,.func fd,osl]/\codeIn K cdv qual=true
  kp:keepIn K (.ref f)=true
section
variable {P:Program}{w:World}{K:Frag}{mg:Str->Option Value}{base:Heap}
def Fun.ok {st:Stmt}{f:Addr}{fd:FuncData}{N:List Str}{k:Nat}{sp:Sp}(F:Fun K x qual st f fd)(S:aL N ps (aE st))(len:∀ vs H Q E,sp vs H Q E->vs.length=ps.length)
    (hbody:∀(cdv:Value) (A:Around) (outer:List Env) (s:Shared) (H:Hp) (vs:List V) (Q:VK) (E:XK),Room k (A.deeper (envOfC qual (aE st) s.heap.objs.size f cdv))->sp vs H Q E->
      ∃ t,PSs (cxOf CX0 P w K mg base N qual (aE st) f cdv A outer s H E).nox (c9 st) t/\t { nx:=λ_ H'=>Q .non H',rt:=Q } (cO N vs) H):FnOk P w K mg base CX0 (k+1) f fd ps sp:=by
  obtain ⟨oc,od,kV,doc,pm,an,cdv,ct,osl,rfl,lk,hcd⟩:=F.ex;refine oS lk hcd S len λA outer s H vs Q E hr hsp=>?_;obtain ⟨t,h,q⟩:=hbody cdv A outer s H vs Q E hr hsp;exact #[t,h.nox,q]
def Fun.binds {st:Stmt}{f:Addr}{fd:FuncData}{ps:List Str}(F:Fun K x qual st f fd)
    (h:∀(kV doc pm:Value) (an:Option Addr) (cdv ct:Value) (us:List Value),us.length=ps.length->bindArgs (fnOf x qual (fh st) (c9 st) (aE st) .none kV doc pm an cdv ct) #[us,[]]=pure (ps.zip us)):dn K fd ps []:=by
  obtain ⟨oc,od,kV,doc,pm,an,cdv,ct,osl,rfl,lk,hcd⟩:=F.ex;exact .all (h kV doc pm an cdv ct)
def jP {x qual:Str}{st:Stmt}{f:Addr}{oc:Value}{od an:Option Addr}{osl:Array (Option Value)}{kV doc pm cdv ct:Value}(l:K.lookup f=some #[oc,od,.func (fnOf x qual (fh st) (c9 st) (aE st) .none kV doc pm an cdv ct),osl])
    (c:codeIn K cdv qual=true) (k:keepIn K (.ref f)=true):Fun K x qual st f (fnOf x qual (fh st) (c9 st) (aE st) .none kV doc pm an cdv ct):=#[#[oc,od,kV,doc,pm,an,cdv,ct,osl,rfl,l,c],k]
end
def dN {k:Nat}(hr:Room k A):A.units+1<cLine:=gJ (ux (by decide:1<=64) _) hr.units
def bh {n:Nat}(h:n<=1000):n<sizeLine:=gJ h .(q)
section
variable {X:Cx}
def pv (i:Nat){x:Str}{pos:Pos}(hN:X.N[i]?=some x:=by rfl)(hv:Vis X.env.scope x:=by first|exact av rfl|exact gh (av rfl)|exact gh (gh rfl))(hd: .(o)=false:=by decide)
    (hcd:(x==("__classdict__" : Str))=false:=by decide):PE X (.Name x pos) (tVar i):=Fn hN hv hd hcd
end
def iteF {A B:Prop}(h:B):if false=true then A else B:=by
  rw[ao cH];exact h
def iteT {A B:Prop}(h:A):if true=true then A else B:=by
  rw[ak rfl];exact h
def ite2 {c A B:Prop}[Decidable c](h1:c->A)(h2:¬ c->B):if c then A else B:=by
  by_cases h:c
  · rw[ak h]
    exact h1 h
  · rw[ao h]
    exact h2 h
def kU {c A B:Prop}[Decidable c](hc:c)(h:B):if (!decide c)=true then A else B:=by
  rw[aV hc];exact iteF h
def Same (H H':Hp):Prop:=∀ b o,H b=some o->H' b=some o
def Same.trans (a:Same H H1)(b:Same H1 H2):Same H H2:=λc o h=>b c o (a c o h)
def Same.free (e:Same H H'){l:Addr}(h:H' l=Option.none):H l=Option.none:=by
  cases q:H l with
  | none=>rfl
  | some o=>
    rw[e l o q]at h;cases h
def Same.seq {K:Frag}{a:Addr}(e:Same H H')(h:SqL K H a xs):SqL K H' a xs:=by
  rcases h with (h|⟨o,h⟩)|h
  · exact .inl (.inl (e _ _ h))
  · exact .inl (.inr #[o,e _ _ h])
  · exact .inr h
end L2
namespace Tim
open PySem PyProof.Rows
section
variable {prog:Program}{w:World}{A:Around}{E:Value->Shared->Prop}{s:Shared}{κ:KeyKind}{kd:SortKind}{a₀:Array Keyed}
def LtG (prog:Program)(w:World)(A:Around)(s:Shared)(κ:KeyKind)(kd:SortKind):Prop:=
 ∀(E:Value->Shared->Prop) (x y:Value) (a b:κ.α) (Q:Bool->Shared->Prop),κ.keyOf x=some a->κ.keyOf y=some b->Q (κ.blt a b) s->wpAny .(i) A (keyLt' kd x y) Q E s
def ky (κ:KeyKind)(p:Keyed):κ.α:=(κ.keyOf p.1).getD κ.dflt
def kAt (κ:KeyKind)(xs:Array Keyed)(i:Nat):κ.α:=match xs[i]? with
 | some p=>ky κ p
 | none=>κ.dflt
def u9 {xs:Array Keyed}{i:Nat}(h:i<xs.size):kAt κ xs i=ky κ xs[i]:=by
 unfold kAt;rw[Array.getElem?_eq_getElem h]
def Up (κ:KeyKind)(xs:Array Keyed)(lo hi:Nat):Prop:=∀ i j,lo<=i->i<=j->j<hi->κ.kle (kAt κ xs i) (kAt κ xs j)
end
end Tim
namespace Tim
open PySem PyProof.Rows
section
variable {M:Model}{A:Around}{E:Value->Shared->Prop}{s:Shared}{st:SortSt}{n hint:Nat}{p:Nat->Bool}
abbrev C2:=Option (Option Nat)×Nat×Nat
end
end Tim
namespace Tim
open PySem PyProof.Rows
section
variable {κ:KeyKind}
def le (κ:KeyKind)(x y:Keyed):Prop:=κ.kle (ky κ x) (ky κ y)
abbrev SL (κ:KeyKind)(l:List Keyed):Prop:=l.Pairwise (le κ)
def GX {xs:Array Keyed}(h:Up κ xs 0 xs.size):SL κ xs.toList:=by
 rw[SL,dU];intro i j hi hj hij;have hi':i<xs.size:=by simpa using hi
 have hj':j<xs.size:=by simpa using hj
 have:=h i j (cv _) .(a) hj';rw[u9 hi',u9 hj']at this;simpa [le] using this
variable {a b out:Array Keyed}{ia ib:Nat}
end
end Tim
namespace Tim
open PySem PyProof.Rows
section
variable {κ:KeyKind}
def back (xs:Array Keyed)(lo:Nat)(m:Array Keyed):Array Keyed:=m.toList.zipIdx.foldl (λa (q:Keyed×Nat)=>a.setIfInBounds (lo+q.2) q.1) xs
end
end Tim
namespace Tim
open PySem PyProof.Rows
section
variable {prog:Program}{w:World}{A:Around}{E:Value->Shared->Prop}{s:Shared}{κ:KeyKind}{kd:SortKind}
def mG (a:Addr)(h h':Heap):Prop:=∀ b o,b≠a->h.get? b=some o->h'.get? b=some o
def keyV (κ:KeyKind)(v:Value):κ.α:=(κ.keyOf v).getD κ.dflt
def va:∀ vs:List Value,vs.zip vs=vs.map λv=>(v,v)
 | []=>rfl
 | v::vs=>by rw[uy,va vs,bL]
def Bb {vs:List Value}{p:Keyed}(h:p∈(pairsOf vs).toList):p.1=p.2/\p.1∈vs:=by
 have e:(pairsOf vs).toList=vs.zip vs:=by
  unfold pairsOf;simp
 rw[e]at h;rw[va]at h;obtain ⟨v,hv,rfl⟩:=cA.mp h;exact #[rfl,hv]
def GY (vs:List Value):(pairsOf vs).toList.map (·.2)=vs:=by
 have e:(pairsOf vs).toList=vs.zip vs:=by
  unfold pairsOf;simp
 rw[e,va,ig];have z:((λx:Keyed=>x.2) ∘ λv:Value=>(v,v))=id:=rfl
 first
  | rw[z,List.map_id]
  | exact List.map_id vs
def GZ {vs:List Value}{xs:Array Keyed}(hp:xs.Perm (pairsOf vs))(hU:Up κ xs 0 (pairsOf vs).size) :
  (xs.toList.map (·.2)).Perm vs/\(xs.toList.map (·.2)).Pairwise (λx y=>κ.kle (keyV κ x) (keyV κ y)):=by
 have hpl:=uz.mp hp;refine #[?_,?_]
 .have:=hpl.map (·.2);rwa[GY]at this
 .have hs:SL κ xs.toList:=GX (by rw[hp.size_eq];exact hU);refine l7.mpr (hs.imp_of_mem λ{a b} ha hb hab=>?_);have ea:=(Bb (hpl.mem_iff.mp ha)).1;have eb:=(Bb (hpl.mem_iff.mp hb)).1;unfold le ky at hab;unfold keyV;rw[<-ea,<-eb];exact hab
def G0 {h:Heap}{a:Addr}{vs out:List Value}{n:Nat}(ho:h.get? a=some (seqObj "list" vs.toArray n)):mG a h (sortedHeap h a vs out.toArray)/\∃ c,(sortedHeap h a vs out.toArray).get? a=some (seqObj "list" out.toArray c):=by
 unfold sortedHeap;refine #[λb o hb e=>(jD _ _ (bt hb)).trans (aY _ (aY _ ((jD _ _ (bt hb)).trans e))),?_];exact #[_,get?_update_seq (aY _ (aY _ (get?_update_seq ho (λ_=>(List.toArray []))))) λ_=>out.toArray]
end
end Tim
namespace L2
open PySem PySem.Spec PyProof.Rows
structure DF (K:Frag)(mg:Str->Option Value)(x:Str)(st:Stmt)(ps:List Str):Prop where
 ex:∃ f fd,Fun K x x st f fd/\dn K fd ps []/\mg x=some (.ref f)
structure FC (P:Program)(w:World)(K:Frag)(mg:Str->Option Value)(base:Heap)(k:Nat)(x:Str)(ps:List Str)(sp:Sp):Prop where
 ex:∃ f fd,FnOk P w K mg base CX0 k f fd ps sp/\dn K fd ps []/\keepIn K (.ref f)=true/\mg x=some (.ref f)/\∃ oc od osl,K.lookup f=some #[oc,od,.func fd,osl]
def FC.at {w:World}{K:Frag}{mg:Str->Option Value}{base:Heap}{k:Nat}{f:Addr}{fd:FuncData}{oc:Value}{od:Option Addr}{osl:Array (Option Value)}(F:FC P w K mg base k x ps sp)(m:mg x=some (.ref f))(l:K.lookup f=some #[oc,od,.func fd,osl]):FnOk P w K mg base CX0 k f fd ps sp:=by
 obtain ⟨f',fd',ok,_,_,m',oc',od',osl',l'⟩:=F.ex;rw[m]at m';cases m'
 rw[l]at l';cases l'
 exact ok
def DF.ok {w:World}{K:Frag}{mg:Str->Option Value}{base:Heap}{st:Stmt}{N:List Str}{k:Nat}{sp:Sp}(D:DF K mg x st ps)(S:aL N ps (aE st))(len:∀ vs H Q E,sp vs H Q E->vs.length=ps.length)
  (hbody:∀(f:Addr) (cdv:Value) (A:Around) (outer:List Env) (s:Shared) (H:Hp) (vs:List V) (Q:VK) (E:XK),Room k (A.deeper (envOfC x (aE st) s.heap.objs.size f cdv))->sp vs H Q E->
   ∃ t,PSs (cxOf CX0 P w K mg base N x (aE st) f cdv A outer s H E).nox (c9 st) t/\t { nx:=λ_ H'=>Q .non H',rt:=Q } (cO N vs) H):FC P w K mg base (k+1) x ps sp:=by
 obtain ⟨f,fd,F,b,m⟩:=D.ex;exact #[f,fd,F.ok S len λcdv A outer s H vs Q E hr h=>hbody f cdv A outer s H vs Q E hr h,b,F.kp,m,by
  obtain ⟨oc,od,kV,doc,pm,an,cdv,ct,osl,rfl,lk,hcd⟩:=F.ex;exact #[oc,od,osl,lk]]
def aG {X:Cx}{k:Nat}{e:Expr}{es:List Expr}{t:TA}{p pos:Pos}(F:FC X.prog X.w X.K X.mg X.base j x ps sp)(hr:Room k X.A)(ha:PA X (e::es) t)(hjk:j<=k:=by decide)(hg:Gl X x:=by rfl)
  (hdb: .(o)=false:=by decide) (he:starEach (e::es) X.env= .(w)::starEach es X.env:=by rfl) (hpl: .(r).any (·.1)=false:=by rfl):PE X .(C) (uS sp [] E0 t):=by
 obtain ⟨f,fd,ok,b,kp,m,_⟩:=F.ex;exact FZ ok (hr.mono hjk) hg m kp b .nil mE ha hdb he hpl
def G1 (t u:TS):TS:=λD U H=>∃ M:St->Hp->Prop,t { D with nx:=M } U H/\∀ U' H',M U' H'->u D U' H'
def cx {st:Stmt}{rest:List Stmt}{t:TS}(h1:PS X st t)(h2:PSs X rest u):PSs X (st::rest) (G1 t u):=by
 intro Rf s U H D I h;obtain ⟨M,h,hM⟩:=h;refine wpAny_execs_cons (thn (h1 Rf s U H { D with nx:=M } I h) λf s1 q=>?_);cases f with
 | next=>
  obtain ⟨U',H',I',q⟩:=q;exact h2 Rf s1 U' H' D I' (hM U' H' q)
 | ret v=>exact q
 | brk=>exact q
 | cont=>exact q
def G2 (i j:Int):Prop:=0<j/\j<2^4000
section
variable {X:Cx}
def kitO (a b:String):Option Bool:=if (Value.type a==Value.type b)=true then some true else if W.kitMeta b=true then (PySem.fastBuiltinMro a).map (·.contains (.type b)) else none
def G3 {K:Frag}{a:String}:kitOne K (.type a) (.type b)=kitO a b:=rfl
inductive rIsi (K:Frag)(xs:List V)(H:Hp)(Q:VK):Prop
 | c:∀ x n t b,xs=[x,.ty n]->TyOf K H x (.type t)->kitO t n=some b->Q (.bl b) H->rIsi K xs H Q
def G4:cN X (.builtin "isinstance") (rIsi X.K):=by
 intro Rf s U H xs us Q I r h;obtain ⟨x,n,t,b,e,ty,ki,q⟩:=h;subst e;obtain ⟨u,w',e,r1,r2⟩:=gy r;subst e;cases r2
 exact FU I r1 ty (G3.trans ki) λtk=>#[.bl b,H,I.tok tk,rfl,q]
def G5:kitO "int" "int" = some true:=by decide +kernel
def vb:kitO "int" "bool" = some false:=by decide +kernel
def vc:kitO "list" "list" = some true:=by decide +kernel
def G6:kitO "bool" "bool" = some true:=by decide +kernel
inductive Bc (x:V)(xs:List V)(H:Hp)(Q:VK):Prop
 | c:∀ i,x=.int i->xs=[]->Q (.int (Builtin.Int.intBits i:Nat)) H->Bc x xs H Q
def G7:MtR X "int.bit_length" Bc:=by
 intro Rf s U H x xs v us Q I rx rv h;obtain ⟨i,rfl,rfl,q⟩:=h;obtain ⟨t,rfl⟩:=rx;cases rv
 exact call_int_bit_length #[.int _,H,I.tok _,.(Ba),q]
end
def oX {c A B:Prop}[Decidable c](hc:¬ c)(h:B):if decide c=true then A else B:=by
 rw[bx hc];exact iteF h
def Bd {c A B:Prop}[Decidable c](hc:c)(h:A):if decide c=true then A else B:=by
 rw[aV hc];exact iteT h
def du (L:Addr)(a l:Int):HO:=.dK [(.inr "script",.ref L),(.inr "at",.int a),(.inr "left",.int l)]
def Keep (d:Addr)(H H':Hp):Prop:=∀ b o,b≠d->H b=some o->H' b=some o
def Keep.refl (d:Addr)(H:Hp):Keep d H H:=λ_ _ _ h=>h
def Keep.trans (a:Keep d H H1)(b:Keep d H1 H2):Keep d H H2:=λc o n h=>b c o n (a c o n h)
def Same.keep (s:Same H H'):Keep d H H':=λb o _ h=>s b o h
structure LS (K:Frag)(L d:Addr)(H:Hp):Prop where
 ex:∃(ns:List Int) (a l:Int),H d=some (du L a l)/\SqL K H L .(H)
def oY {K:Frag}{H:Hp}{d:Addr}{a:Int}(hd:H d=some (du L' a l))(k:Keep d H H')(h:SqL K H L xs):SqL K H' L xs:=by
 have ne:∀ o,H L=some o->(∀ kvs,o≠.dK kvs)->L≠d:=λo e n z=>by
  rw[z,hd]at e;cases e
  exact n _ rfl
 rcases h with (h|⟨o,h⟩)|h
 .exact .inl (.inl (k L _ (ne _ h nofun) h))
 .exact .inl (.inr #[o,k L _ (ne _ h nofun) h])
 .exact .inr h
def LS.set {K:Frag}{d:Addr}{H:Hp}{ns:List Int}{a l:Int}(hd:H d=some (du L a l))(h:SqL K H L .(H)):LS K L d (upd H d (du L a' l'))/\Keep d H (upd H d (du L a' l')):=by
 have k:Keep d H (upd H d (du L a' l')):=λb o n e=>by rw[aj n];exact e
 exact #[#[ns,a',l',ag,oY hd k h],k]
def LS.same {K:Frag}(s:LS K L d H)(k:Same H H'):LS K L d H':=by
 obtain ⟨ns,a,l,e,q⟩:=s.ex;exact #[ns,a,l,k _ _ e,k.seq q]
def az {H:Hp}{p:Addr}(h:H p=none)(o:HO):Same H (upd H p o):=λb u q=>by rw[aj (aw q h)];exact q
def LS.put {K:Frag}{p:Addr}{H2:Hp}{o:HO}(s:LS K L d H0)(hp:H0 p=none)(k:∀ b o,b≠d->b≠p->H0 b=some o->H2 b=some o)(s2:LS K L d H2):LS K L d (upd H2 p o):=by
 obtain ⟨ns,a,l,e,q⟩:=s.ex;obtain ⟨ns2,a2,l2,e2,_⟩:=s2.ex;have hdp:d≠p:=aw e hp;have go:∀ u,H0 L=some u->(∀ kvs,u≠.dK kvs)->upd H2 p o L=some u:=λu hu hn=>by
  have h1:L≠p:=aw hu hp;have h2:L≠d:=λz=>by
   rw[z,e]at hu;cases hu
   exact hn _ rfl
  rw[aj h1];exact k L u h2 h1 hu
 refine #[ns,a2,l2,by rw[aj hdp];exact e2,?_];rcases q with (h|⟨ob,h⟩)|h
 .exact .inl (.inl (go _ h nofun))
 .exact .inl (.inr #[ob,go _ h nofun])
 .exact .inr h
section
variable {H:Hp}{d L:Addr}{a l:Int}
def gN {x y:Str}(h:x≠y):(Sum.inr x:Key)≠Sum.inr y:=λz=>h (Sum.inr.inj z)
def G8 (h:H d=some (du L a l)):DGet H d (.str "script") (some (.ref L)):=.inl #[_,.inr "script",.inl h,rfl,by rw[iA rfl]]
def G9 (h:H d=some (du L a l)):DGet H d (.str "at") (some (.int a)):=.inl #[_,.inr "at",.inl h,rfl,by rw[fL (gN (show ("script" : Str) ≠ "at" by decide +kernel)),iA rfl]]
def vd (h:H d=some (du L a l)):DGet H d (.str "left") (some (.int l)):=.inl #[_,.inr "left",.inl h,rfl,by rw[fL (gN (show ("script" : Str) ≠ "left" by decide +kernel)),fL (gN (show ("at" : Str) ≠ "left" by decide +kernel)),iA rfl]]
def Be {k:Key}{kvs kvs':List (Key×V)}(h:H d=some (.dK kvs))(hl:kvs.length<sizeLine)(e:putK kvs k v=kvs'):DPut H d (kV k) v (upd H d (.dK kvs')):=by
 subst e;exact DPut.k h hl
def Hc (h:H d=some (du L a l)):DPut H d (.str "at") (.int a') (upd H d (du L a' l)):=
 Be (k:=.inr "at") h (by show 3 < sizeLine;decide) (by
  unfold putK;rw[ak (by simp)];simp only[bL,kl,ao (gN (show ("script" : Str) ≠ "at" by decide +kernel)),ao (gN (show ("left" : Str) ≠ "at" by decide +kernel)),if_true])
def Bf (h:H d=some (du L a l)):DPut H d (.str "left") (.int l') (upd H d (du L a l')):=
 Be (k:=.inr "left") h (by show 3 < sizeLine;decide) (by
  unfold putK;rw[ak (by simp)];simp only[bL,kl,ao (gN (show ("script" : Str) ≠ "left" by decide +kernel)),ao (gN (show ("at" : Str) ≠ "left" by decide +kernel)),if_true])
end
inductive gO (K:Frag)(vs:List V)(H:Hp)(Q:VK)(w_1:XK):Prop
 | c:∀(d L:Addr) (m:Int),vs=[.ref d,.int m]->(0<m/\m<1073741824)->LS K L d H->(∀(v:Int) (H':Hp),0<=v->v<m->Keep d H H'->LS K L d H'->Q (.int v) H')->gO K vs H Q w_1
inductive ve (vs:List V)(H:Hp)(Q:VK)(w_1:XK):Prop
 | c:∀(c k:Int),vs=[.int c,.int k]->(∀ v:Int,Q (.int v) H)->ve vs H Q w_1
inductive vf (K:Frag)(vs:List V)(H:Hp)(Q:VK)(w_1:XK):Prop
 | c:∀(L:Addr) (ns:List Int),vs=[.ref L]->SqL K H L (ns.map V.int)->(∀(d:Addr) (H':Hp),H d=none->Same H H'->LS K L d H'->Q (.ref d) H')->vf K vs H Q w_1
def Hd {ns:List Int}{k:Int}(h:0<ns.length):∃ v:Int,atI .(H) (k%((.(H).length:Nat):Int))=some (.int v):=by
 have e: .(H).length=ns.length:=ai _;have h1:(0:Int)<((.(H).length:Nat):Int):=by rw[e];lia
 have z0:=n8 k (Int.ne_of_gt h1);have z1:=n9 k h1;generalize hj:k%((.(H).length:Nat):Int)=j at z0 z1;rw[e]at z1;have hk:j.toNat<ns.length:=by lia
 obtain ⟨n,rfl⟩:∃ n:Nat,j=(n:Int):=#[j.toNat,by lia];have hn:n<ns.length:=by lia
 exact #[ns[n],c8 (by rw[aZ,aA hn];rfl)]
end L2
namespace L2
open PySem PySem.Spec PyProof.Rows PySem.SeqAt
def Ext (H H':Hp):Prop:=∀ b o,H b=some o->(∀ kvs,o≠.dK kvs)->H' b=some o
def Same.ext (s:Same H H'):Ext H H':=λb o h _=>s b o h
def Keep.ext {a l:Int}(k:Keep d H H')(h:H d=some (du L a l)):Ext H H':=λb o e n=>k b o (λz=>by
 rw[z,h]at e;cases e
 exact n _ rfl) e
def LS.ext {K:Frag}(s:LS K L d H)(k:Keep d H H'):Ext H H':=by
 obtain ⟨ns,a,l,e,_⟩:=s.ex;exact k.ext e
def LS.of_new {K:Frag}(s:LS K L d H){p:Addr}(hp:H p=none)(o:HO):LS K L d (upd H p o):=s.same (az hp o)
def SqL.ext {K:Frag}{a:Addr}(e:Ext H H')(h:SqL K H a xs):SqL K H' a xs:=by
 rcases h with (h|⟨o,h⟩)|h
 .exact .inl (.inl (e _ _ h nofun))
 .exact .inl (.inr #[o,e _ _ h nofun])
 .exact .inr h
def SqT.ext {K:Frag}{a:Addr}(e:Ext H H')(h:SqT K H a xs):SqT K H' a xs:=by
 rcases h with (h|⟨o,h⟩)|h
 .exact .inl (.inl (e _ _ h nofun))
 .exact .inl (.inr #[o,e _ _ h nofun])
 .exact .inr h
class Rep (α:Type) where
 dec:DecidableEq α
 depth:Nat
 has:Frag->Hp->α->V->Prop
 mono:∀{K:Frag} {H H':Hp} {a:α} {v:V},Ext H H'->has K H a v->has K H' a v
 inj:∀{X:Cx} {Rf:List (Addr×Obj)} {U:St} {H:Hp} {s:Shared} {a b:α} {v:V},Inv X Rf U H s->has X.K H a v->has X.K H b v->a=b
 rc:∀{X:Cx} {Rf:List (Addr×Obj)} {U:St} {H:Hp} {s:Shared} {A:Around} {a b:α} {x y:V} {u v:Value},Inv X Rf U H s->A.units+depth<cLine->has X.K H a x->has X.K H b y->RelV x u->RelV y v->RcAt A s u v (dec a b).decide
 rn:∀{X:Cx} {Rf:List (Addr×Obj)} {U:St} {H:Hp} {s:Shared} {A:Around} {a b:α} {x y:V} {u v:Value},Inv X Rf U H s->A.units+depth<cLine->has X.K H a x->has X.K H b y->RelV x u->RelV y v->RcNeAt A s u v (!(dec a b).decide)
 eq:∀{X:Cx} {Rf:List (Addr×Obj)} {U:St} {H:Hp} {s:Shared} {A:Around} {a b:α} {x y:V} {u v:Value},Inv X Rf U H s->A.units+depth<cLine->has X.K H a x->has X.K H b y->RelV x u->RelV y v->EqAt A s u v (dec a b).decide
instance (priority:=low) repDec {α:Type} [Rep α]:DecidableEq α:=Rep.dec
def vg {i j:Int}:(i==j)=(Int.instDecidableEq i j).decide:=by
 by_cases h:i=j
 .subst h;simp
 .rw[beq_eq_false_iff_ne.mpr h];exact (bx h).symm
instance:Rep Int where
 dec:=Int.instDecidableEq
 depth:=0
 has:=λ_ _ i v=>v=.int i
 mono:=λ_ h=>h
 inj:=λ_ h1 h2=>V.int.inj (h1.symm.trans h2)
 rc:=λ_ _ h1 h2 r1 r2=>by
  subst h1 h2;obtain ⟨t,rfl⟩:=r1;obtain ⟨t',rfl⟩:=r2;rw[<-vg];exact RcAt.int_int _ _ _ _
 rn:=λ_ _ h1 h2 r1 r2=>by
  subst h1 h2;obtain ⟨t,rfl⟩:=r1;obtain ⟨t',rfl⟩:=r2;rw[<-vg];exact RcNeAt.int_int _ _ _ _
 eq:=λ_ _ h1 h2 r1 r2=>by
  subst h1 h2;obtain ⟨t,rfl⟩:=r1;obtain ⟨t',rfl⟩:=r2;rw[<-vg];exact EqAt.int_int _ _ _ _
def pImp {α β:Type}{R S:α->β->Prop}(h:∀ a b,R a b->S a b){as:List α}{bs:List β}(p:Paired R as bs):Paired S as bs:=by
 induction p with
 | nil=>exact .nil
 | cons a _ ih=>exact .cons (h _ _ a) ih
def pApp {α β:Type}{R:α->β->Prop}{as cs:List α}{bs ds:List β}(p:Paired R as bs)(q:Paired R cs ds):Paired R (as++cs) (bs++ds):=by
 induction p with
 | nil=>exact q
 | cons a _ ih=>exact .cons a ih
def aD {α:Type}[Rep α](K:Frag)(H:Hp):List α->List V->Prop:=Paired (Rep.has K H)
section
variable {α:Type}[Rep α]{K:Frag}{H H':Hp}
def aD.mono (e:Ext H H'){as:List α}{xs:List V}(h:aD K H as xs):aD K H' as xs:=pImp (λ_ _=>Rep.mono e) h
def aD.length {as:List α}{xs:List V}(h:aD K H as xs):as.length=xs.length:=Paired.length h
def aD.get:∀{as:List α} {xs:List V} {i:Nat} {x:V},aD K H as xs->xs[i]?=some x->∃ a,as[i]?=some a/\Rep.has K H a x
 | _,_,_,_,.nil,e=>by simp at e
 | _,_,0,_,.cons h _,e=>by simp at e;subst e;exact #[_,rfl,h]
 | _,_,i+1,x,.cons _ t,e=>by
  obtain ⟨a,h1,h2⟩:=aD.get (i:=i) (x:=x) t (by simpa using e);exact #[a,by simpa using h1,h2]
def aD.append {as bs:List α}{xs ys:List V}(h:aD K H as xs)(g:aD K H bs ys):aD K H (as++bs) (xs++ys):=pApp h g
def aD.one {a:α}{x:V}(h:Rep.has K H a x):aD K H [a] [x]:=.cons h .nil
def aD.ints:∀{ns:List Int},aD K H ns .(H)
 | []=>.nil
 | _::_=>.cons rfl aD.ints
def aD.toInts {ns:List Int}{xs:List V}(h:aD K H ns xs):xs=ns.map V.int:=by
 unfold aD at h
 induction h with
 | nil=>rfl
 | cons h _ ih=>
  have e:_=V.int _:=h;rw[e,ih];rfl
def aD.inj {s:Shared}(I:Inv X Rf U H s){as bs:List α}{xs:List V}(h:aD X.K H as xs)(g:aD X.K H bs xs):as=bs:=by
 unfold aD at h g
 induction h generalizing bs with
 | nil=>cases g;rfl
 | cons h _ ih=>
  cases g with
  | cons h' t'=>rw[Rep.inj I h h',ih t']
end
def vh {α:Type}[DecidableEq α]:∀(as bs:List α),as.length=bs.length->((List.range as.length).all λj=>decide (as[j]?=bs[j]?))=decide (as=bs):=by
 intro as bs hl;by_cases h:as=bs
 .subst h;simp
 .rw[bx h,l8]
  false_or_by_contra
  rename_i z;apply h;apply gK;intro i;by_cases hi:i<as.length
  .false_or_by_contra
   rename_i q;exact z #[i,d7.mpr hi,by simpa using q]
  .rw[dy .(a),dy .(a)]
section
variable {α:Type}[r:Rep α]
def kW {A:Around}:A.in1.units<=A.units+1:=by
 first
  | exact aq _
  | (unfold Around.in1;simp)
def oZ {A:Around}{as bs:List α}{xs ys:List V}{us vs:List Value}(I:Inv X Rf U H s)(hu:A.units+Rep.depth α<cLine)
  (h1:aD X.K H as xs) (h2:aD X.K H bs ys) (r1:Vals xs us) (r2:Vals ys vs):∀ j (q1:j<us.toArray.size) (q2:j<vs.toArray.size),EqAt A s us.toArray[j] vs.toArray[j] (decide (as[j]?=bs[j]?)):=by
 intro j q1 q2;have l1:=r1.length;have l2:=r2.length;have m1:=h1.length;have m2:=h2.length;have j1:j<us.length:=by simpa using q1
 have j2:j<vs.length:=by simpa using q2
 obtain ⟨a,ea,ha⟩:=h1.get (i:=j) (aA .(a));obtain ⟨b,eb,hb⟩:=h2.get (i:=j) (aA .(a));obtain ⟨u,eu,ru⟩:=r1.get (i:=j) (aA .(a));obtain ⟨v,ev,rv⟩:=r2.get (i:=j) (aA .(a));have gu:us.toArray[j]=u:=by
  have:us[j]?=some us[j]:=aA j1;rw[eu]at this;simpa using (aJ this).symm
 have gv:vs.toArray[j]=v:=by
  have:vs[j]?=some vs[j]:=aA j2;rw[ev]at this;simpa using (aJ this).symm
 rw[gu,gv,ea,eb];have e:decide (some a=some b)=(Rep.dec a b).decide:=by
  by_cases z:a=b
  .subst z;simp
  .rw[bx (λq=>z (aJ q))];exact (bx z).symm
 rw[e];exact Rep.eq I hu ha hb ru rv
end
inductive hasL {α:Type}[Rep α](K:Frag)(H:Hp)(as:List α)(v:V):Prop
 | c:∀ a xs,v=.ref a->SqL K H a xs->aD K H as xs->hasL K H as v
section
variable {α:Type}[r:Rep α]{X:Cx}{Rf:List (Addr×Obj)}{U:St}{H:Hp}{s:Shared}{A:Around}{as bs:List α}{x y:V}{u v:Value}
def He (I:Inv X Rf U H s)(h1:hasL X.K H as x)(h2:hasL X.K H bs x):as=bs:=by
 obtain ⟨a,xs,rfl,q1,h1⟩:=h1;obtain ⟨b,ys,e,q2,h2⟩:=h2;cases e
 rw[I.list_inj q2 q1]at h2;exact h1.inj I h2
def Bg (I:Inv X Rf U H s)(hu:A.units+(Rep.depth α+1)<cLine)(h1:hasL X.K H as x)(h2:hasL X.K H bs y)(r1:RelV x u)(r2:RelV y v):RcAt A s u v (decide (as=bs)):=by
 obtain ⟨a,xs,rfl,q1,h1⟩:=h1;obtain ⟨b,ys,rfl,q2,h2⟩:=h2;cases r1
 cases r2
 obtain ⟨us,ru,pu,_⟩:=I.list q1;obtain ⟨vs,rv,pv,_⟩:=I.list q2;have l1:=ru.length;have l2:=rv.length;have m1:=h1.length;have m2:=h2.length;have hin:A.in1.units+Rep.depth α<cLine:=gJ (ko kW _) .(a);by_cases hl:as.length=bs.length
 .have e:=vh as bs hl;rw[<-e];have z:as.length=us.toArray.size:=by simp;lia
  rw[z];exact RcAt.lists pu.isList pv.isList .(T) .(a) (oZ I hin h1 h2 ru rv)
 .rw[bx (λz=>hl (by rw[z]))];exact RcAt.lists_lengths pu.isList pv.isList .(T) .(a)
def Hf (I:Inv X Rf U H s)(hu:A.units+(Rep.depth α+1)<cLine)(h1:hasL X.K H as x)(h2:hasL X.K H bs y)(r1:RelV x u)(r2:RelV y v):RcNeAt A s u v (!decide (as=bs)):=by
 obtain ⟨a,xs,rfl,q1,h1⟩:=h1;obtain ⟨b,ys,rfl,q2,h2⟩:=h2;cases r1
 cases r2
 obtain ⟨us,ru,pu,_⟩:=I.list q1;obtain ⟨vs,rv,pv,_⟩:=I.list q2;have l1:=ru.length;have l2:=rv.length;have m1:=h1.length;have m2:=h2.length;have hin:A.in1.units+Rep.depth α<cLine:=gJ (ko kW _) .(a);by_cases hl:as.length=bs.length
 .have e:=vh as bs hl;rw[<-e];have z:as.length=us.toArray.size:=by simp;lia
  rw[z];exact RcNeAt.lists pu.isList pv.isList .(T) .(a) (oZ I hin h1 h2 ru rv)
 .rw[bx (λz=>hl (by rw[z])),Bool.not_false];exact RcNeAt.lists_lengths pu.isList pv.isList .(T) .(a)
def Hg (I:Inv X Rf U H s)(hu:A.units+(Rep.depth α+1)<cLine)(h1:hasL X.K H as x)(h2:hasL X.K H bs y)(r1:RelV x u)(r2:RelV y v):EqAt A s u v (decide (as=bs)):=by
 have rc:=Bg (A:=A) I hu h1 h2 r1 r2;obtain ⟨a,xs,rfl,q1,h1⟩:=h1;obtain ⟨b,ys,rfl,q2,h2⟩:=h2;cases r1
 cases r2
 by_cases hab:a=b
 .subst hab;rw[I.list_inj q2 q1]at h2;rw[aV (h1.inj I h2)];exact EqAt.same _
 .exact EqAt.of_refs hab rc
end
instance {α:Type} [Rep α]:Rep (List α) where
 dec:=inferInstance
 depth:=Rep.depth α+1
 has:=hasL
 mono:=λe ⟨a,xs,h1,h2,h3⟩=>#[a,xs,h1,h2.ext e,h3.mono e]
 inj:=λI h1 h2=>He I h1 h2
 rc:=λI hu h1 h2 r1 r2=>Bg I hu h1 h2 r1 r2
 rn:=λI hu h1 h2 r1 r2=>Hf I hu h1 h2 r1 r2
 eq:=λI hu h1 h2 r1 r2=>Hg I hu h1 h2 r1 r2
inductive hasP {α β:Type}[Rep α][Rep β](K:Frag)(H:Hp)(p:α×β)(v:V):Prop
 | c:∀ a x y,v=.ref a->H a=some (.tup [x,y])->Rep.has K H p.1 x->Rep.has K H p.2 y->hasP K H p v
section
variable {α β:Type}[ra:Rep α][rb:Rep β]{X:Cx}{Rf:List (Addr×Obj)}{U:St}{H:Hp}{s:Shared}{A:Around}{p q:α×β}{x y:V}{u v:Value}
def Bh (I:Inv X Rf U H s)(h1:hasP X.K H p x)(h2:hasP X.K H q x):p=q:=by
 obtain ⟨a,x1,x2,rfl,q1,e1,e2⟩:=h1;obtain ⟨b,y1,y2,e,q2,f1,f2⟩:=h2;cases e
 have z:=I.tuple_inj (SqT.of q2) (SqT.of q1);cases z
 have g1:=Rep.inj I e1 f1;have g2:=Rep.inj I e2 f2;obtain ⟨p1,p2⟩:=p;obtain ⟨s1,s2⟩:=q;cases g1
 cases g2
 rfl
def Bi (I:Inv X Rf U H s)(hu:A.units+(Rep.depth α+Rep.depth β+1)<cLine)(h1:hasP X.K H p x)(h2:hasP X.K H q y)(r1:RelV x u)(r2:RelV y v):RcAt A s u v (decide (p=q)):=by
 obtain ⟨a,x1,x2,rfl,q1,e1,e2⟩:=h1;obtain ⟨b,y1,y2,rfl,q2,f1,f2⟩:=h2;cases r1
 cases r2
 obtain ⟨us,ru,pu,_⟩:=I.tuple (SqT.of q1);obtain ⟨vs,rv,pv,_⟩:=I.tuple (SqT.of q2);obtain ⟨u1,u2,rfl,ru1,ru2⟩:=gy ru;obtain ⟨v1,v2,rfl,rv1,rv2⟩:=gy rv;have hin:∀ n,n<=Rep.depth α+Rep.depth β->A.in1.units+n < cLine:=λn hn=>gJ (ko kW _) (by lia);have c1:=Rep.eq (A:=A.in1) I (hin _ (by lia)) e1 f1 ru1 rv1;have c2:=Rep.eq (A:=A.in1) I (hin _ (by lia)) e2 f2 ru2 rv2;have:=RcAt.tuples (A:=A) (s:=s) (l:=a) (b:=b) (items:=(List.toArray [u1,u2])) (items2:=(List.toArray [v1,v2])) (e:=λj=>if j=0 then (Rep.dec p.1 q.1).decide else (Rep.dec p.2 q.2).decide) pu pv (by lia) (by
  intro j h1 h2;have h1':j<2:=h1;have z:j=0\/j=1:=by lia
  rcases z with rfl|rfl
  .exact c1
  .exact c2)
 have e:((List.range (min ((List.toArray [u1,u2]):Array Value).size ((List.toArray [v1,v2]):Array Value).size)).all (λj=>if j=0 then (Rep.dec p.1 q.1).decide else (Rep.dec p.2 q.2).decide)&&((List.toArray [u1,u2]):Array Value).size==((List.toArray [v1,v2]):Array Value).size)=decide (p=q):=by
  obtain ⟨p1,p2⟩:=p;obtain ⟨s1,s2⟩:=q;show (((List.range 2).all λj=>if j=0 then (Rep.dec p1 s1).decide else (Rep.dec p2 s2).decide)&&true)=_
  rw[show List.range 2=[0,1] from rfl];simp only[nZ,List.all_nil,Bool.and_true,if_true];rw[ao .(q)];by_cases z1:p1=s1
  .by_cases z2:p2=s2
   .subst z1 z2;simp
   .subst z1;simp[z2]
  .simp[z1]
 rw[e]at this;exact this
def Hh (I:Inv X Rf U H s)(hu:A.units+(Rep.depth α+Rep.depth β+1)<cLine)(h1:hasP X.K H p x)(h2:hasP X.K H q y)(r1:RelV x u)(r2:RelV y v):RcNeAt A s u v (!decide (p=q)):=by
 obtain ⟨a,x1,x2,rfl,q1,e1,e2⟩:=h1;obtain ⟨b,y1,y2,rfl,q2,f1,f2⟩:=h2;cases r1
 cases r2
 obtain ⟨us,ru,pu,_⟩:=I.tuple (SqT.of q1);obtain ⟨vs,rv,pv,_⟩:=I.tuple (SqT.of q2);obtain ⟨u1,u2,rfl,ru1,ru2⟩:=gy ru;obtain ⟨v1,v2,rfl,rv1,rv2⟩:=gy rv;have hin:∀ n,n<=Rep.depth α+Rep.depth β->A.in1.units+n < cLine:=λn hn=>gJ (ko kW _) (by lia);have c1:=Rep.eq (A:=A.in1) I (hin _ (by lia)) e1 f1 ru1 rv1;have c2:=Rep.eq (A:=A.in1) I (hin _ (by lia)) e2 f2 ru2 rv2;have:=RcNeAt.tuples (A:=A) (s:=s) (l:=a) (b:=b) (items:=(List.toArray [u1,u2])) (items2:=(List.toArray [v1,v2])) (e:=λj=>if j=0 then (Rep.dec p.1 q.1).decide else (Rep.dec p.2 q.2).decide) pu pv (by lia) (by
  intro j h1 h2;have h1':j<2:=h1;have z:j=0\/j=1:=by lia
  rcases z with rfl|rfl
  .exact c1
  .exact c2)
 have e:((List.range (min ((List.toArray [u1,u2]):Array Value).size ((List.toArray [v1,v2]):Array Value).size)).all (λj=>if j=0 then (Rep.dec p.1 q.1).decide else (Rep.dec p.2 q.2).decide)&&((List.toArray [u1,u2]):Array Value).size==((List.toArray [v1,v2]):Array Value).size)=decide (p=q):=by
  obtain ⟨p1,p2⟩:=p;obtain ⟨s1,s2⟩:=q;show (((List.range 2).all λj=>if j=0 then (Rep.dec p1 s1).decide else (Rep.dec p2 s2).decide)&&true)=_
  rw[show List.range 2=[0,1] from rfl];simp only[nZ,List.all_nil,Bool.and_true,if_true];rw[ao .(q)];by_cases z1:p1=s1
  .by_cases z2:p2=s2
   .subst z1 z2;simp
   .subst z1;simp[z2]
  .simp[z1]
 rw[e]at this;exact this
def Hi (I:Inv X Rf U H s)(hu:A.units+(Rep.depth α+Rep.depth β+1)<cLine)(h1:hasP X.K H p x)(h2:hasP X.K H q y)(r1:RelV x u)(r2:RelV y v):EqAt A s u v (decide (p=q)):=by
 have rc:=Bi (A:=A) I hu h1 h2 r1 r2;have h1':=id h1;have h2':=id h2;obtain ⟨a,x1,x2,rfl,q1,e1,e2⟩:=h1;obtain ⟨b,y1,y2,rfl,q2,f1,f2⟩:=h2;cases r1
 cases r2
 by_cases hab:a=b
 .subst hab;rw[aV (Bh I h1' h2')];exact EqAt.same _
 .exact EqAt.of_refs hab rc
end
instance {α β:Type} [Rep α] [Rep β]:Rep (α×β) where
 dec:=inferInstance
 depth:=Rep.depth α+Rep.depth β+1
 has:=hasP
 mono:=λe ⟨a,x,y,h1,h2,h3,h4⟩=>#[a,x,y,h1,e _ _ h2 nofun,Rep.mono e h3,Rep.mono e h4]
 inj:=λI h1 h2=>Bh I h1 h2
 rc:=λI hu h1 h2 r1 r2=>Bi I hu h1 h2 r1 r2
 rn:=λI hu h1 h2 r1 r2=>Hh I hu h1 h2 r1 r2
 eq:=λI hu h1 h2 r1 r2=>Hi I hu h1 h2 r1 r2
def huD {k:Nat}{α:Type}[Rep α](hr:Room k A)(h:Rep.depth α<=64:=by decide):A.units+Rep.depth α<cLine:=gJ (ux h _) hr.units
inductive rNeD (α:Type)[Rep α](K:Frag)(x:V)(y:V)(H:Hp)(Q:VK):Prop
 | c:∀(a b:α),Rep.has K H a x->Rep.has K H b y->Q (.bl (!decide (a=b))) H->rNeD α K x y H Q
section
variable {X:Cx}
def o4 (α:Type)[Rep α](hu:X.A.units+Rep.depth α<cLine):OpR X (compareOp .NotEq) (rNeD α X.K):=by
 intro Rf s U H x y v u Q I rx ry h;obtain ⟨a,b,ha,hb,q⟩:=h;refine Rep.rn I hu ha hb rx ry X.prog X.w X.xe _ #[.bl _,H,I,rfl,?_];have e:(Rep.dec a b).decide=decide (a=b):=rfl;rw[e];exact q
end
end L2
namespace L2
open PySem PySem.Spec PyProof.Rows
section
variable {X:Cx}{Rf:List (Addr×Obj)}{U:St}{H:Hp}{s:Shared}{h':Heap}
def Inv.turnedNew {t':Nat}{fp:List Addr}{p:Addr}(I:Inv X Rf U H s)(k:∀ b ob,b∉fp->s.heap.get? b=some ob->h'.get? b=some ob)(hf:∀ b∈fp,FpOk X Rf H b)
  (hp:s.heap.objs.size<=p) (new:bJ X.prog X.w (upd H p o) h' p o):Inv X Rf U (upd H p o) { s with heap:=h',toks:=t' }:=by
 have hn:H p=none:=I.hok.fresh hp;have nfp:∀ b u,H b=some u->b∉fp:=λb u e z=>by rw[(hf b z).1]at e;cases e
 have nep:∀ b ob,s.heap.get? b=some ob->b≠p:=λb ob e=>bK (cn (aQ e) hp);refine I.step (g':=s.gens) (d':=s.drawn) (ch:=fp) (λb hb=>?_) (λb ob _ _ hc e _=>k b ob hc e) (λb ob _ _ hc e _=>#[ob.slots,k b ob hc e]) (λb ob _ e n=>by rw[aj (nep b ob e)];exact n)
  (λb ob hc e=>#[ob,k b ob hc e]) (λb xs e=>by rw[aj (aw e hn)];exact e) (λb ob u e=>by rw[aj (aw e hn)];exact e) (λb ps e=>#[(List.toArray []),by rw[aj (aw e hn),e];simp]) (λm hm=>?_) (λb u e=>?_) I.bare
 .obtain ⟨_,h2,_,h4,h5,h6⟩:=hf b hb;exact #[h4,h2,h5,h6]
 .obtain ⟨ob,es,ep,ho,r⟩:=hm;exact #[ob,es,ep,k _ ob (λz=>(hf _ z).2.1 rfl) ho,r]
 .by_cases hb:b=p
  .subst hb;rw[ag]at e;cases e;exact new
  .rw[aj hb]at e;refine (I.hok b u e).stay (λc v hc q=>k c v ?_ q) (λc q=>by rw[aj (aw q hn)];exact q) λc xs q=>by rw[aj (aw q hn)];exact q
   rcases hc with z|z
   .rw[z];exact nfp b u e
   .exact nfp c _ z
def Bj {h:Heap}{p:Addr}{x y:V}{u v:Value}(rx:RelV x u)(ry:RelV y v)(e:h.get? p=some { cls:=.type "tuple",data:=.seq (List.toArray [u,v]) }):bJ P w H h p (.tup [x,y]):=
 #[by show 2<=sizeLine;decide,[u,v],.cons rx (.cons ry .nil),_,e,rfl,0,rfl]
end
def Ite (K:Frag)(a:Addr):It:=
 #[λi H=>∃ xs x,SqL K H a xs/\xs[i]?=some x,λi H x H'=>∃ p y,x=.ref p/\H p=none/\(∀ xs,SqL K H a xs->xs[i]?=some y)/\H'=upd H p (.tup [.int i,y]),λi H=>∃ xs,SqL K H a xs/\xs.length<=i]
def Hj {K:Frag}{es:List Expr}{k0}{pos:Pos}(a it e:Addr)(hne:e≠it):Turn P w K (.Tuple es k0 pos) (Ite K a) [e,it] e (λi h=>(∃ old,IsEnum h e it i old)/\h.IsListIter it a i) where
 mem:=by simp
 obj:=λi h st b hb=>by
  obtain ⟨⟨old,he⟩,o,ho,c,d⟩:=st;rcases aU.mp hb with z|z
  .subst z;exact #[_,he,λv z=>by cases z]
  .have z:=bM.mp z;subst z;exact #[o,ho,λv z=>by rw[d]at z;cases z]
 keep:=λi h h' st k=>by
  obtain ⟨⟨old,he⟩,hi⟩:=st;exact #[#[old,k e .(k) _ he],hi.at λo q=>k it .(k) o q]
 item:=by
  intro X hP hw hK hc i Rf s U H E I hf st hg;subst hP hw hK;obtain ⟨⟨old,he⟩,hi⟩:=st;obtain ⟨xs,x,hq,hx⟩:=hg;obtain ⟨its,rv,p,hz⟩:=I.list hq;obtain ⟨u,hu,ru⟩:=rv.get hx;refine wpAny_pyNext_enum_item he hi p.isList (x:=u) (by simpa using hu) hne λh1 he1 hi1 ht1 _ k1=>?_;refine #[_,rfl,wpAny_letOwnedTupleGo_enum (s:={ s with heap:=h1,toks:=s.toks+1 }) he1 λh2 he2 sb=>?_];have np:s.heap.objs.size≠e:=jz (aQ he);have ht2:h2.get? s.heap.objs.size=some { cls:=.type "tuple",data:=.seq (List.toArray [.int i s.toks,u]) }:=(sb.2 _ np).trans ht1;have I2:Inv X Rf U (upd H s.heap.objs.size (.tup [.int i,x])) { s with heap:=h2,toks:=s.toks+1 }:=
   I.turnedNew (fp:=[e,it]) (λb ob hb q=>(sb.2 b (λz=>hb (by simp[z]))).trans (k1 b ob (λz=>hb (by simp[z])) (λz=>hb (by simp[z])) q)) hf (aq _) (Bj .(Ba) ru ht2)
  refine #[.ref s.heap.objs.size,_,I2,rfl,#[_,x,rfl,I.hok.fresh (aq _),λys hy=>by rw[I.list_inj hy hq];exact hx,rfl],#[#[u,?_],?_],λb hb=>?_]
  .have z:IsEnum h2 e it ((i:Int)+1) u:=he2;exact z
  .exact hi1.at λo q=>(sb.2 it (bt hne)).trans q
  .have z:=(hf b hb).1;rw[aj ?_]
   .exact z
   .rcases aU.mp hb with q|q
    .rw[q];exact bt np
    .rw[bM.mp q];obtain ⟨o,ho,_⟩:=hi;exact bK (aQ ho)
 done:=by
  intro X hP hw hK hc i Rf s U H E I hf st hg;subst hP hw hK;obtain ⟨⟨old,he⟩,hi⟩:=st;obtain ⟨xs,hq,hx⟩:=hg;obtain ⟨its,rv,p,hz⟩:=I.list hq;obtain ⟨f0,f1,f2,f3,f4,f5⟩:=hf it .(k);have hl:=rv.length;exact wpAny_pyNext_enum_end .(ha) he hi p.isList .(T) λh' eb=>#[rfl,I.turned (t':=s.toks) (λb o hb q=>eb b o hb q) f0 f1 f3 f4 f5]
 self:=λ_ _ _ _ _ st h=>by
  obtain ⟨⟨old,he⟩,_⟩:=st;exact wpAny_pyIter_enum he h
inductive Bk (K:Frag)(R:It->Hp->Prop)(vs:List V)(H1:Hp):Prop
 | c:∀ a,vs=[.ref a]->(∃ xs,SqL K H1 a xs)->R (Ite K a) H1->Bk K R vs H1
def Hk (K:Frag)(ta:TA):TI:=λU H R=>ta U H λvs H1=>Bk K R vs H1
section
variable {X:Cx}
def vi {es:List Expr}{k0}{tp:Pos}{a:Expr}{p pos:Pos}(hg:Gl X "enumerate")(hm:X.mg "enumerate" = none)(ha:PA X [a] ta)(hs:starEach [a] X.env=[(false,eval a X.env)]:=by rfl):PI X (.Tuple es k0 tp) (.Call (.Name "enumerate" p) [a] [] pos) (Hk X.K ta):=by
 intro Rf s U H R I h;refine Call_ (iu I hg hm boot_enumerate (PyProof.Rows.callWith_type1 .(F) hs rfl));obtain ⟨vs,H1,I1,r1,q1⟩:=zq0;obtain ⟨l,e,⟨xs,hq⟩,q⟩:=q1;subst e;cases r1 with
 | cons r rr=>
  cases rr
  cases r
  obtain ⟨its,rv,pl,hz⟩:=I1.list hq;refine call_enumerate_list pl.isList λh' he hi _ hk=>?_;have I2:Inv X Rf U H1 { s1 with heap:=h' }:=I1.kept (t':=s1.toks) hk;refine wpAny_pyIter_enum (s:={ s1 with heap:=h' }) he #[_,[s1.heap.objs.size+1,s1.heap.objs.size],_,_,H1,rfl,I2,Hj l s1.heap.objs.size (s1.heap.objs.size+1) (Nat.succ_ne_self _),#[#[_,he],hi],λb hb=>?_,q];have hb':s1.heap.objs.size<=b:=by
   rcases aU.mp hb with z|z
   .rw[z];exact fD _
   .rw[bM.mp z];exact aq _
  exact I1.fpOk hb' (I1.hok.fresh hb')
end
def vj {K:Frag}{a:Addr}{g:TG}{tb:TS}{D:Ends}{U:St}{H:Hp}(Pv:Nat->St->Hp->Prop)(h0:Pv 0 U H)(hl:∀ i U H,i<=xs.length->Pv i U H->SqL K H a xs)
  (hs:∀ i x U H p,xs[i]?=some x->Pv i U H->H p=none->g (.ref p) U (upd H p (.tup [.int i,x])) λU2 H2=>tb { D with nx:=Pv (i+1),ct:=Pv (i+1),bk:=D.nx } U2 H2) (hd:∀ U H,Pv xs.length U H->D.nx U H) :
  ∃ W:Nat->Nat->St->Hp->Prop,.(da)/\∀ i m U H,W i m U H->((Ite K a).stop i H/\D.nx U H)\/((Ite K a).go i H/\∃ N:St->Hp->Prop,.(u)/\∀ x H',(Ite K a).yld i H x H'->g x U H' λU2 H2=>tb { D with nx:=N,ct:=N,bk:=D.nx } U2 H2):=by
 refine .(N);obtain ⟨e,pv⟩:=zq0;have hS:=hl i U H .(a) pv;by_cases hi:i<xs.length
 .refine .inr #[#[xs,xs[i],hS,aA hi],Pv (i+1),λU' H' q=>#[m-1,by lia,by lia,q],λx H' y=>?_];obtain ⟨p,z,rfl,hp,hz,rfl⟩:=y;exact hs i z U H p (hz xs hS) pv hp
 .have:i=xs.length:=by lia
  subst this;exact .inl #[#[xs,hS,aq _],hd U H pv]
def Itz (K:Frag)(a b:Addr):It:=
 #[λi H=>∃ xs ys x y,SqL K H a xs/\SqL K H b ys/\xs[i]?=some x/\ys[i]?=some y,λi H x H'=>∃ p y z,x=.ref p/\H p=none/\(∀ xs,SqL K H a xs->xs[i]?=some y)/\(∀ xs,SqL K H b xs->xs[i]?=some z)/\H'=upd H p (.tup [y,z]),λi H=>∃ xs ys,SqL K H a xs/\SqL K H b ys/\(xs.length<=i\/ys.length<=i)]
def Hl {K:Frag}{es:List Expr}{k0}{pos:Pos}{a b z TI TO i1 i2:Addr}(D:ZipApart z TI TO i1 i2 a b):Turn P w K (.Tuple es k0 pos) (Itz K a b) [z,TI,TO,i1,i2] z
  (λi h=>IsZip h z TI TO .none/\IsPair h TI (.ref i1) (.ref i2)/\(∃ u v,IsPair h TO u v)/\h.IsListIter i1 a i/\h.IsListIter i2 b i) where
 mem:=by simp
 obj:=λi h st c hc=>by
  obtain ⟨hz,hTI,⟨u,v,hTO⟩,⟨o1,e1,_,d1⟩,⟨o2,e2,_,d2⟩⟩:=st;simp only[aU,cJ,or_false]at hc;rcases hc with rfl|rfl|rfl|rfl|rfl
  .exact #[_,hz,λv q=>by cases q]
  .exact #[_,hTI,λv q=>by cases q]
  .exact #[_,hTO,λv q=>by cases q]
  .exact #[o1,e1,λv q=>by rw[d1]at q;cases q]
  .exact #[o2,e2,λv q=>by rw[d2]at q;cases q]
 keep:=λi h h' st k=>by
  obtain ⟨hz,hTI,⟨u,v,hTO⟩,h1,h2⟩:=st;exact #[k z .(k) _ hz,k TI .(k) _ hTI,#[u,v,k TO .(k) _ hTO],h1.at λo q=>k i1 .(k) o q,h2.at λo q=>k i2 .(k) o q]
 item:=by
  intro X hP hw hK hc i Rf s U H E I hf st hg;subst hP hw hK;obtain ⟨hz,hTI,⟨u0,v0,hTO⟩,h1,h2⟩:=st;obtain ⟨xs,ys,x,y,hqa,hqb,hx,hy⟩:=hg;obtain ⟨its,rv,p,_⟩:=I.list hqa;obtain ⟨jts,rw',p',_⟩:=I.list hqb;obtain ⟨u,hu,ru⟩:=rv.get hx;obtain ⟨v,hv,rv'⟩:=rw'.get hy;refine wpAny_pyNext_zip_item D hz hTI hTO h1 h2 p.isList p'.isList (x:=u) (y:=v) (by simpa using hu) (by simpa using hv) λh1' hz1 hTO1 hi1 hi2 ht1 _ k1=>?_;refine #[_,rfl,wpAny_letOwnedTupleGo_zip (s:={ s with heap:=h1' }) hz1 λh2' hz2 sb=>?_];have np:s.heap.objs.size≠z:=jz (aQ hz);have ht2:h2'.get? s.heap.objs.size=some { cls:=.type "tuple",data:=.seq (List.toArray [u,v]) }:=(sb.2 _ np).trans ht1;have I2:Inv X Rf U (upd H s.heap.objs.size (.tup [x,y])) { s with heap:=h2',toks:=s.toks }:=
   I.turnedNew (fp:=[z,TI,TO,i1,i2]) (λc ob hb q=>(sb.2 c (λr=>hb (by simp[r]))).trans (k1 c ob (λr=>hb (by simp[r])) (λr=>hb (by simp[r])) (λr=>hb (by simp[r])) (λr=>hb (by simp[r])) q)) hf (aq _) (Bj ru rv' ht2)
  refine #[.ref s.heap.objs.size,_,I2,rfl,#[_,x,y,rfl,I.hok.fresh (aq _),λys hy'=>by rw[I.list_inj hy' hqa];exact hx,λys hy'=>by rw[I.list_inj hy' hqb];exact hy,rfl],#[hz2,(sb.2 _ D.TIz).trans (k1 TI _ D.TIz D.TITO D.TIi1 D.TIi2 hTI),#[_,_,(sb.2 _ D.TOz).trans hTO1],hi1.at λo q=>(sb.2 i1 D.i1z).trans q,hi2.at λo q=>(sb.2 i2 D.i2z).trans q],λc hb=>?_];have zf:=(hf c hb).1;have lt:c<s.heap.objs.size:=by
   simp only[aU,cJ,or_false]at hb;obtain ⟨o1,e1,_⟩:=h1;obtain ⟨o2,e2,_⟩:=h2;rcases hb with rfl|rfl|rfl|rfl|rfl
   .exact aQ hz
   .exact aQ hTI
   .exact aQ hTO
   .exact aQ e1
   .exact aQ e2
  rw[aj (bK lt)];exact zf
 done:=by
  intro X hP hw hK hc i Rf s U H E I hf st hg;subst hP hw hK;obtain ⟨hz,hTI,⟨u0,v0,hTO⟩,h1,h2⟩:=st;obtain ⟨xs,ys,hqa,hqb,hend⟩:=hg;obtain ⟨its,rv,p,_⟩:=I.list hqa;obtain ⟨jts,rw',p',_⟩:=I.list hqb;have l1:=rv.length;have l2:=rw'.length;refine wpAny_pyNext_zip_end (I.ok.hd hc) D hz hTI hTO h1 h2 p.isList p'.isList (by
   rcases hend with q|q
   .left;simp;lia
   .right;simp;lia) λh' kk=>#[rfl,?_]
  refine I.step (g':=s.gens) (d':=s.drawn) (t':=s.toks) (ch:=[z,TI,TO,i1,i2]) (λc hb=>?_) (λc ob _ _ hn q _=>kk c ob .(I) .(I) .(I) .(I) q)
   (λc ob _ _ hn q _=>#[ob.slots,kk c ob .(I) .(I) .(I) .(I) q]) (λ_ _ _ _ n=>n)
   (λc ob hn q=>#[ob,kk c ob .(I) .(I) .(I) .(I) q]) (λ_ _ q=>q) (λ_ _ _ q=>q) (λc ps q=>#[(List.toArray []),by rw[q];simp]) (λm hm=>?_) (λc u e=>?_) I.bare
  .obtain ⟨_,q2,_,q4,q5,q6⟩:=hf c hb;exact #[q4,q2,q5,q6]
  .obtain ⟨ob,es,ep,ho,r⟩:=hm;have nL:∀ c∈[z,TI,TO,i1,i2],X.env.locals≠c:=λc hc=>bt (hf c hc).2.1;exact #[ob,es,ep,kk _ ob (nL z .(k)) (nL TO .(k)) (nL i1 .(k)) (nL i2 .(k)) ho,r]
  .have nf:∀ c' u,H c'=some u->∀ q∈[z,TI,TO,i1,i2],c'≠q:=λc' u e q hq r=>by rw[r,(hf q hq).1]at e;cases e
   refine (I.hok c u e).stay (λc' v hc' q=>?_) (λ_ q=>q) λ_ _ q=>q;have go:∀ u',H c'=some u'->h'.get? c'=some v:=λu' e'=>kk c' v (nf c' _ e' z .(k)) (nf c' _ e' TO .(k)) (nf c' _ e' i1 .(k)) (nf c' _ e' i2 .(k)) q;rcases hc' with r|r
   .exact go u (by rw[r];exact e)
   .exact go _ r
 self:=λ_ _ _ _ _ st h=>wpAny_pyIter_zip st.1 h
def Hm {l l' n:Nat}(hl:l<n)(hl':l'<n):ZipApart (n+4) (n+2) (n+3) n (n+1) l l':=by
 constructor<;>(intro z;have z':(_:Nat)=_:=z;lia)
def Hn {n c:Nat}(h:c∈[n+4,n+2,n+3,n,n+1]):n<=c:=by
 simp only[aU,cJ,or_false]at h;lia
inductive Bl (K:Frag)(R:It->Hp->Prop)(vs:List V)(H1:Hp):Prop
 | c:∀ a b,vs=[.ref a,.ref b]->(∃ xs,SqL K H1 a xs)->(∃ xs,SqL K H1 b xs)->R (Itz K a b) H1->Bl K R vs H1
def iZip (K:Frag)(ta:TA):TI:=λU H R=>ta U H λvs H1=>Bl K R vs H1
section
variable {X:Cx}
def vk {es:List Expr}{k0}{tp:Pos}{a b:Expr}{p pos:Pos}(hg:Gl X "zip")(hm:X.mg "zip" = none)(ha:PA X [a,b] ta)(hs:starEach [a,b] X.env=[(false,eval a X.env),(false,eval b X.env)]:=by rfl)(hs2:starEach [b] X.env=[(false,eval b X.env)]:=by rfl):PI X (.Tuple es k0 tp) (.Call (.Name "zip" p) [a,b] [] pos) (iZip X.K ta):=by
 intro Rf s U H R I h;refine Call_ (iu I hg hm boot_zip (PyProof.Rows.callWith_type1 .(F) (by rw[hs,hs2]) (by rw[hs2];rfl)));obtain ⟨vs,H1,I1,r1,q1⟩:=zq0;obtain ⟨l,l',e,⟨xs,hq⟩,⟨ys,hq'⟩,q⟩:=q1;subst e;cases r1 with
 | cons r rr=>
  cases rr with
  | cons r' rr=>
   cases rr
   cases r
   cases r'
   obtain ⟨its,rv,pl,hz⟩:=I1.list hq;obtain ⟨jts,rv',pl',hz'⟩:=I1.list hq';have hl:l<s1.heap.objs.size:=by obtain ⟨o,_,e,_⟩:=pl;exact aQ e
   have hl':l'<s1.heap.objs.size:=by obtain ⟨o,_,e,_⟩:=pl';exact aQ e
   refine call_zip_2 pl.isList pl'.isList λh' hz hTI hTO hi hi' _ hk=>?_;have I2:Inv X Rf U H1 { s1 with heap:=h' }:=I1.kept (t':=s1.toks) hk;refine wpAny_pyIter_zip (s:={ s1 with heap:=h' }) hz #[_,[s1.heap.objs.size+4,s1.heap.objs.size+2,s1.heap.objs.size+3,s1.heap.objs.size,s1.heap.objs.size+1],_,_,H1,rfl,I2,Hl (Hm hl hl'),#[hz,hTI,#[_,_,hTO],hi,hi'],λc hb=>?_,q];have hb':s1.heap.objs.size<=c:=Hn hb;exact I1.fpOk hb' (I1.hok.fresh hb')
end
def Ho {K:Frag}{a:Addr}{xs ys:List V}{g:TG}{tb:TS}{D:Ends}{U:St}{H:Hp}(hlen:xs.length=ys.length)(Pv:Nat->St->Hp->Prop)(h0:Pv 0 U H)(hl:∀ i U H,i<=xs.length->Pv i U H->SqL K H a xs/\SqL K H b ys)
  (hs:∀ i x y U H p,xs[i]?=some x->ys[i]?=some y->Pv i U H->H p=none->g (.ref p) U (upd H p (.tup [x,y])) λU2 H2=>tb { D with nx:=Pv (i+1),ct:=Pv (i+1),bk:=D.nx } U2 H2) (hd:∀ U H,Pv xs.length U H->D.nx U H) :
  ∃ W:Nat->Nat->St->Hp->Prop,.(da)/\∀ i m U H,W i m U H->((Itz K a b).stop i H/\D.nx U H)\/((Itz K a b).go i H/\∃ N:St->Hp->Prop,.(u)/\∀ x H',(Itz K a b).yld i H x H'->g x U H' λU2 H2=>tb { D with nx:=N,ct:=N,bk:=D.nx } U2 H2):=by
 refine .(N);obtain ⟨e,pv⟩:=zq0;obtain ⟨hS,hS'⟩:=hl i U H .(a) pv;by_cases hi:i<xs.length
 .refine .inr #[#[xs,ys,xs[i],ys[i]' .(a),hS,hS',aA hi,aA .(a)],Pv (i+1),λU' H' q=>#[m-1,by lia,by lia,q],λx H' y=>?_];obtain ⟨p,z,z',rfl,hp,hz,hz',rfl⟩:=y;exact hs i z z' U H p (hz xs hS) (hz' ys hS') pv hp
 .have:i=xs.length:=by lia
  subst this;exact .inl #[#[xs,ys,hS,hS',.inl (aq _)],hd U H pv]
def zc (z:Option Str)(C:Addr)(cl:List (Str×Addr)):List (Str×Addr):=match z with|none=>cl|some y=>(y,C+1)::cl
def Bm {x:Str}{cc:Addr}(e:(zc z C cl).lookup x=some cc):(z=some x/\cc=C+1)\/(z≠some x/\cl.lookup x=some cc):=by
 cases z with
 | none=>exact .inr #[(λq=>nomatch q),e]
 | some y=>
  unfold zc at e;rw[d8]at e;cases hx:x==y with
  | true=>
   rw[hx]at e;exact .inl #[congrArg some (eq_of_beq hx).symm,(aJ e).symm]
  | false=>
   rw[hx]at e;exact .inr #[λq=>(by rw[aJ q,beq_self_eq_true]at hx;cases hx),e]
def Hq {x:Str}:(zc (some x) C cl).lookup x=some (C+1):=by unfold zc;rw[d8,beq_self_eq_true]
def Bn {z:Option Str}{cl:List (Str×Addr)}{x:Str}{cc:Addr}(hz:z≠some x)(e:cl.lookup x=some cc):(zc z C cl).lookup x=some cc:=by
 cases z with
 | none=>exact e
 | some y=>
  unfold zc;rw[d8,show (x==y)=false from beq_eq_false_iff_ne.mpr λq=>hz (congrArg some q.symm)];exact e
def dv (X:Cx)(N:List Str)(scope:Scope)(z:Option Str)(cl:List (Str×Addr))(C:Addr)(s₂:Shared)(H₂:Hp)(fp:List Addr):Cx:=
 { X with N:=N,s₀:=s₂,H₀:=H₂,env:=compEnvC scope (zc z C cl) C X.env,outer:=X.stack,stack:=X.stack,ex:=fp,fn:=λx=>z==some x,xe:=λ_ _=>False }
structure kX (scope:Scope)(env:Env)(cl:List (Str×Addr)):Prop where
 eq:closureFor scope env=pure cl
 sub:∀ x c,cl.lookup x=some c->env.cells.lookup x=some c
 has:∀ x,(x,NameKind.free)∈scope.names->∃ c,cl.lookup x=some c
def vm {env:Env}:∀(names:List (Str×NameKind)) (cs:List (Str×Addr)),(∀ x,(x,NameKind.free)∈names->∃ c,env.cells.lookup x=some c)->(∀ x c,cs.lookup x=some c->env.cells.lookup x=some c)->
  ∃ cl:List (Str×Addr),(forIn names cs (λ(x:Str×NameKind) (r:List (Str×Addr))=>if (x.2==NameKind.free)=true then (do let c <-cellOf env x.1;pure (ForInStep.yield ((x.1,c)::r))) else pure (ForInStep.yield r)):Sem (List (Str×Addr)))=pure cl/\
   (∀ x c,cl.lookup x=some c->env.cells.lookup x=some c)/\(∀ x c,cs.lookup x=some c->∃ c',cl.lookup x=some c')/\∀ x,(x,NameKind.free)∈names->∃ c,cl.lookup x=some c
 | [],cs,_,h2=>#[cs,by rw[List.forIn_nil],h2,λx c e=>#[c,e],λ_ z=>nomatch z]
 | (n,k)::r,cs,h1,h2=>by
  by_cases hk:k=.free
  .subst hk;obtain ⟨c,hc⟩:=h1 n bZ;have hn:∀ x c',((n,c)::cs).lookup x=some c'->env.cells.lookup x=some c':=λx c' e=>by
    rw[d8]at e;cases hx:x==n with
    | true=>
     rw[hx]at e;cases e
     rw[eq_of_beq hx];exact hc
    | false=>
     rw[hx]at e;exact h2 x c' e
   obtain ⟨cl,e,s1,s2,s3⟩:=vm r ((n,c)::cs) (λx hx=>h1 x (bP _ hx)) hn;have here:∃ c',cl.lookup n=some c':=s2 n c (by rw[d8,beq_self_eq_true]);refine #[cl,?_,s1,λx c' q=>?_,λx hx=>?_]
   .rw[List.forIn_cons,ak (by rfl)];have q:cellOf env n=pure c:=by unfold cellOf;rw[hc]
    rw[q];simp only[pure_bind];exact e
   .cases hxn:x==n with
    | true=>rw[eq_of_beq hxn];exact here
    | false=>exact s2 x c' (by rw[d8,hxn];exact q)
   .rcases aU.mp hx with z|z
    .cases z;exact here
    .exact s3 x z
  .obtain ⟨cl,e,s1,s2,s3⟩:=vm r cs (λx hx=>h1 x (bP _ hx)) h2;refine #[cl,?_,s1,s2,λx hx=>?_]
   .have hb:(k==NameKind.free)=false:=by simpa using hk
    rw[List.forIn_cons,ao (by rw[hb];exact cH)];simp only[pure_bind];exact e
   .rcases aU.mp hx with z|z
    .cases z;exact absurd rfl hk
    .exact s3 x z
def vn {scope:Scope}{env:Env}(h:∀ x,(x,NameKind.free)∈scope.names->∃ c,env.cells.lookup x=some c):∃ cl,kX scope env cl:=by
 obtain ⟨cl,e,s1,_,s3⟩:=vm scope.names [] h (λ_ _ z=>nomatch z);refine #[cl,?_,s1,s3];unfold closureFor;exact (by simpa using e)
def Bo {env:Env}:∀{names:List (Str×NameKind)} {x:Str},names.lookup x=some .free->
  (names.map λ(n,k)=>if .(n) then (n,NameKind.cell) else (n,k)).lookup x=some .cell\/
  (names.map λ(n,k)=>if .(n) then (n,NameKind.cell) else (n,k)).lookup x=some .free
 | [],_,h=>by simp at h
 | (n,k)::r,x,h=>by
  have ih:=@Bo env r x;show List.lookup x ((if .(n)=true then (n,NameKind.cell) else (n,k))::_)=_\/List.lookup x ((if .(n)=true then (n,NameKind.cell) else (n,k))::_)=_
  cases hx:x==n with
  | true=>
   simp only[d8,hx]at h;cases h
   by_cases hc:(NameKind.free==NameKind.free&&env.scope.kind == .function&&env.kindOf n==some .cell)=true
   .rw[ak hc];left;simp only[d8,hx]
   .rw[ao hc];right;simp only[d8,hx]
  | false=>
   simp only[d8,hx]at h;by_cases hc: .(n)=true
   .rw[ak hc];simp only[d8,hx];exact ih h
   .rw[ao hc];simp only[d8,hx];exact ih h
def o5 {n:Nat}{h:Heap}:∀{names:List (Str×NameKind)} {acc:List (Str×Addr)},names.filter (λy=>y.2 == .cell)=[]->cellsFrom n names acc=acc/\pushCells h names=h
 | [],_,_=> .(pa)
 | (x,k)::r,acc,e=>by
  cases hk:k==NameKind.cell with
  | true=>
   rw[dE (by exact hk)]at e;cases e
  | false=>
   rw[fE (by rw[show ((x,k):Str×NameKind).2=k from rfl,hk];decide)]at e;unfold cellsFrom pushCells;rw[hk];exact o5 e
def vo {n:Nat}{h:Heap}{z:Str}:∀{names:List (Str×NameKind)} {acc:List (Str×Addr)},names.filter (λy=>y.2 == .cell)=[(z,.cell)]->cellsFrom n names acc=(z,n)::acc/\pushCells h names=h.push { cls:=.type "cell",data:=.cell none }
 | [],_,e=>by cases e
 | (x,k)::r,acc,e=>by
  cases hk:k==NameKind.cell with
  | true=>
   rw[dE (by exact hk)]at e;obtain ⟨e1,e2⟩:=List.cons.inj e;have e3:x=z:=congrArg Prod.fst e1;subst e3;unfold cellsFrom pushCells;rw[hk];exact o5 e2
  | false=>
   rw[fE (by rw[show ((x,k):Str×NameKind).2=k from rfl,hk];decide)]at e;unfold cellsFrom pushCells;rw[hk];exact vo e
def Hr {M:Model}{A:Around}{E:Value->Shared->Prop}{s:Shared}{scope:Scope}{z:Option Str}{globals:Addr}{qual:Str}{env:Env}{Q:Env->Shared->Prop}
  (one:scope.names.filter (λy=>y.2 == .cell)=z.toList.map (·,NameKind.cell))
  (hQ:∀ h₁:Heap,(∀ b o,s.heap.get? b=some o->h₁.get? b=some o)->h₁.Ns s.heap.objs.size (λ_=>none)->(∀ y,z=some y->h₁.IsCell (s.heap.objs.size+1) none)->
   Q { scope,locals:=s.heap.objs.size,globals,cells:=zc z s.heap.objs.size closure,qual,func:=none,code:=env.code,frame:=env.frame,builtins:=env.builtins } { s with heap:=h₁ }) :
  wpAny M A (newFunctionEnv scope globals closure [] qual none .none (some env)) Q E s:=by
 simp only[newFunctionEnv,Option.isSome_some,if_true];refine ax (wpAny_alloc ?_);refine ax (wpAny_layCells _ (λname kind cells=>by cases hkc:kind==NameKind.cell<;>simp[hkc]) _ _ _ _ ?_)
 rw[show ({ s with heap:=s.heap.push { cls:=.type "dict",data:=.dict (List.toArray []) } }:Shared).heap.objs.size=s.heap.objs.size+1 from jB ..];refine ax ?_;rw[List.forIn_nil];cases z with
 | none=>
  rw[(o5 (n:=s.heap.objs.size+1) (h:=s.heap) one).1,(o5 (n:=0) (h:=s.heap.push { cls:=.type "dict",data:=.dict (List.toArray []) }) (acc:=[]) one).2];exact aM (aM (hQ _ (λb o e=>aY _ e) (Heap.Ns.new s.heap (.type "dict")) nofun))
 | some y=>
  rw[(vo (n:=s.heap.objs.size+1) (h:=s.heap) one).1,(vo (n:=0) (h:=s.heap.push { cls:=.type "dict",data:=.dict (List.toArray []) }) (acc:=[]) one).2];refine aM (aM (hQ _ (λb o e=>aY _ (aY _ e)) ((Heap.Ns.new s.heap (.type "dict")).push _) λ_ _=>#[{ cls:=.type "cell",data:=.cell none },?_,rfl]));have e:(s.heap.push { cls:=.type "dict",data:=.dict (List.toArray []) }).objs.size=s.heap.objs.size+1:=jB ..;rw[<-e];exact cB _ rfl
def vp {env:Env}:∀{names:List (Str×NameKind)} {x:Str} {k':NameKind},(names.map λ(n,k)=>if .(n) then (n,NameKind.cell) else (n,k)).lookup x=some k'->k'=.cell\/k'=.free->
  (x,NameKind.free)∈names\/(x,NameKind.cell)∈names
 | [],_,_,h,_=>by simp at h
 | (n,k)::r,x,k',h,hk=>by
  have ih:=@vp env r x k';have h':List.lookup x ((if .(n)=true then (n,NameKind.cell) else (n,k))::r.map λ(n,k)=>if .(n) then (n,NameKind.cell) else (n,k))=some k':=h
  cases hx:x==n with
  | true=>
   have e:=eq_of_beq hx;subst e;by_cases hf:k=.free
   .subst hf;exact .inl bZ
   .have hb:(k==NameKind.free)=false:=by simpa using hf
    rw[ao (by rw[hb];simp),d8,hx]at h';cases h'
    rcases hk with z|z
    .subst z;exact .inr bZ
    .exact absurd z hf
  | false=>
   refine (ih ?_ hk).imp (bP _) (bP _);by_cases hcd: .(n)=true
   .rw[ak hcd,d8,hx]at h';exact h'
   .rw[ao hcd,d8,hx]at h';exact h'
def jc (own:Nat)(cap:List Nat)(U:St):St:=List.replicate own none++cap.map λi=>(U[i]?).getD none
structure o6 (X:Cx)(scope:Scope)(z:Option Str)(N:List Str)(own:Nat)(cap:List Nat):Prop where
 kind:scope.kind=.function
 one:(scope.names.filter (λy=>y.2 == .cell),z.map λy=>scope.names.lookup y)=(z.toList.map (·,NameKind.cell),z.map λ_=>some NameKind.cell)
 locs:(scope.names.all λy=>y.2 != .local||scope.names.lookup y.1==some .local)=true
 frees:(scope.names.all λy=>y.2 != .free||(X.env.kindOf y.1==some .cell||X.env.kindOf y.1==some .free))=true
 len:N.length=own+cap.length
 caps:((List.range cap.length).all λj=>(N[own+j]?==X.N[cap[j]!]?)&&(match N[own+j]? with|some x=>scope.names.lookup x==some .free&&(X.env.kindOf x==some .cell||X.env.kindOf x==some .free)|none=>false))=true
section
variable {prog:Program}{w:World}{A:Around}{R:Result->Shared->Prop}{s:Shared}
def Ht {elt target iter:Expr}{ifs:List Expr}{scope:Scope}{pos:Pos}{it acc:Value}{env:Env}(I:Nat->Shared->Prop)
  (turn:∀ n s,I n s->wpAny (model prog w) A (pyNext it) (λr s₁=>match r with
   | none=>R (.ok .next) s₁
   | some v=>wpAny (model prog w) A (letOwnedTupleGo target it v) (λ_ s₁'=>wpAny (model prog w) A (assign target env v) (λ_ s₂=>
     wpAny (model prog w) A (forIn ifs true λc r=>if r=true then do let ok <-isTrue c env (eval c env);pure (ForInStep.yield ok) else pure (ForInStep.yield r)) (λok s₃=>
      if ok=true then wpAny (model prog w) A (eval elt env) (λx s₄=>
       wpAny (model prog w) A (call (.builtin "list.append") [acc,x]) (λ_ s₅=>∃ m,m<n/\I m s₅) (λ_ _=>False) s₄) (λ_ _=>False) s₃
      else ∃ m,m<n/\I m s₃) (λ_ _=>False) s₂) (λ_ _=>False) s₁') (λ_ _=>False) s₁) (λ_ _=>False) s)
  (n:Nat) (h:I n s) :
  codeAny .(i) A (.compLoop (.ListComp elt [#[target,iter,ifs,0]] scope pos) 0 it acc env) R s:=by
 refine codeAny_loop rfl I (λn s hI=>?_) n h;show wpAny _ A ((compTurn (.ListComp elt [#[target,iter,ifs,0]] scope pos) 0 it acc env).onRaise (λx=>do noteFrame x env;theTreesLotGoes x)) _ _ s
 refine wpAny_noted ?_;rw[compTurn_list];refine ax (wpAny_standAt (ax (cW (turn n s hI) (λr s₁ h₁=>?_) λ_ _ h'=>h'.elim)));cases r with
 | none=>exact aM h₁
 | some v=>
  refine ax (cW h₁ (λ_ s₁' h₁'=>?_) λ_ _ h'=>h'.elim);refine ax (cW h₁' (λ_ s₂ h₂=>ax (cW h₂ (λok s₃ h₃=>?_) λ_ _ h'=>h'.elim)) λ_ _ h'=>h'.elim);cases ok with
  | true=>
   simp only[if_true]at h₃ ⊢;exact ax (ax (cW h₃ (λx s₄ h₄=>ax (cW h₄ (λ_ s₅ h₅=>aM (aM #[rfl,h₅])) λ_ _ h'=>h'.elim)) λ_ _ h'=>h'.elim))
  | false=>
   simp only[kq,if_false]at h₃ ⊢;exact aM #[rfl,h₃]
end
section
variable {X:Cx}
def PTs (X:Cx)(ifs:List Expr)(t:TT):Prop:=
 ∀(Rf:List (Addr×Obj)) (s:Shared) (U:St) (H:Hp) (Q:Bool->Hp->Prop),Inv X Rf U H s->t U H Q->
  wpAny .(d) X.A (forIn ifs true λc r=>if r=true then do let ok <-isTrue c X.env (eval c X.env);pure (ForInStep.yield ok) else pure (ForInStep.yield r)) (TP X Rf U Q) X.xe s
def tYes:TT:=λ_ H Q=>Q true H
def fY:PTs X [] tYes:=λ_ _ _ H _ I h=>wpAny_tests_nil #[H,I,h]
def gP {t:TT}(h:PT X c t):PTs X [c] t:=λRf s U H Q I q=>wpAny_tests_one (h Rf s U H Q I q)
def Hu {C:Addr}{fp:List Addr}{h₁:Heap}{tk:Nat}{D:Addr}
  (I:Inv X Rf U H s) (c:o6 X scope z N own cap) (hcl:kX scope X.env cl) (f:∀ b∈fp,FpOk X Rf H b) (hD:s.heap.objs.size<=D) (hC:s.heap.objs.size<=C) (hCD:D≠C)
  (kp:∀ b o,s.heap.get? b=some o->h₁.get? b=some o) (hnew:h₁.get? D=some { cls:=.type "list",data:=.seq (List.toArray []) }) (hns:∃ m,h₁.Ns C m) (hcz:∀ y,z=some y->h₁.IsCell (C+1) none) (hDz:D≠C+1) (hfp:∀ b∈fp,b<s.heap.objs.size) (hcalm:X.calm=true) :
  Inv (dv X N scope z cl C s H fp) Rf (jc own cap U) (upd H D .(V)) { s with heap:=h₁,toks:=tk }:=by
 have hfr:H D=none:=I.hok.fresh hD;have hfrC:H C=none:=I.hok.fresh hC;have sz:∀ b o,s.heap.get? b=some o->b≠D/\b≠C:=λb o e=>#[bK (cn (aQ e) hD),bK (cn (aQ e) hC)];have cells:∀ x cc,cl.lookup x=some cc->∃ v,s.heap.IsCell cc v:=λx cc e=>I.cell x cc (hcl.sub x cc e);have cellne:∀ x cc,cl.lookup x=some cc->cc≠D/\cc≠C:=λx cc e=>by
  obtain ⟨v,o,ho,_⟩:=cells x cc e;exact sz cc o ho
 have czlt:∀ x cc,cl.lookup x=some cc->cc≠C+1:=λx cc e q=>by
  obtain ⟨v,o,ho,_⟩:=cells x cc e;exact absurd (show C+1<s.heap.objs.size from (by rw[<-q];exact aQ ho)) (ku.mpr (bW hC (fD _)))
 have lk:=λx cc (e:(zc z C cl).lookup x=some cc)=>Bm e;have hfrZ:H (C+1)=none:=I.hok.fresh (bW hC (fD _));have ok:(dv X N scope z cl C s H fp).Ok:=by
  refine #[I.ok.mod,c.kind,I.ok.glob,I.ok.blt,hC,λx y cc e1 e2=>?_,λx hx=>?_,λx cc e1 e2=>?_,I.ok.hd,I.ok.frames,.inl rfl,λb hb=>?_,λb o e=>I.bs b o e,?_,λb o e hb=>?_,λb hb z=>?_,I.stack,λb hb=>I.stkFree b hb]
  .rcases lk x cc e1 with ⟨q1,q2⟩|⟨q1,q2⟩<;>rcases lk y cc e2 with ⟨r1,r2⟩|⟨r1,r2⟩
   .exact aJ (q1.symm.trans r1)
   .exact absurd q2 (czlt y cc r2)
   .exact absurd r2 (czlt x cc q2)
   .exact I.ok.inj x y cc (hcl.sub x cc q2) (hcl.sub y cc r2)
  .show ∃ c,(zc z C cl).lookup x=some c;by_cases hxz:z=some x
   .exact #[C+1,by rw[hxz];exact Hq]
   have hor:(x,NameKind.free)∈scope.names\/(x,NameKind.cell)∈scope.names:=by
    rcases hx with y|y
    .exact vp (env:=X.env) (names:=scope.names) (x:=x) (k':=.cell) y .(va)
    .exact vp (env:=X.env) (names:=scope.names) (x:=x) (k':=.free) y (.inr rfl)
   rcases hor with q|q
   .obtain ⟨cc,hcc⟩:=hcl.has x q;exact #[cc,Bn hxz hcc]
   .have hf:(x,NameKind.cell)∈scope.names.filter (λy=>y.2 == .cell):=d6.mpr #[q,rfl];rw[show scope.names.filter (λy=>y.2 == .cell)=z.toList.map (·,NameKind.cell) from congrArg Prod.fst c.one]at hf;obtain ⟨y,hy,e⟩:=cA.mp hf;exact absurd ((Option.mem_toList.mp hy).trans (congrArg some (congrArg Prod.fst e))) hxz
  .rcases lk x cc e2 with ⟨_,q2⟩|⟨q1,_⟩
   .rw[q2];exact bW hC (fD _)
   .exact absurd (eq_of_beq (show (z==some x)=true from e1)) q1
  ·exact #[bK (cn (hfp b hb) hC),λx cc e q=>by
    rcases lk x cc e with ⟨_,q2⟩|⟨_,q2⟩
    .exact absurd (show C+1<s.heap.objs.size from (by rw[<-q2,q];exact hfp b hb)) (ku.mpr (bW hC (fD _)))
    .exact (f b hb).2.2.2.2.1 x cc (hcl.sub x cc q2) q]
  .exact bW I.ok.bsz I.sz
  .obtain ⟨_,_,_,h4,_⟩:=f b hb;rcases h4 with z|z
   .exact I.ok.noex b o e z
   .exact absurd (cn (aQ e) (bW I.ok.bsz z)) (d5 _)
  .obtain ⟨_,h2,h3,_⟩:=f b hb;rcases aU.mp (I.stkSub b z) with q|q
   .exact h2 q
   .exact h3 q
 have hokN:bJ X.prog X.w (upd H D .(V)) h₁ D .(V):=#[cv _,[],0,.nil,hnew];refine #[ok,I.os.symm ▸ rfl,I.bare,Un.laid kp hD hfr,?_,λx cc e=>?_,?_,λx cc e=>?_,λp hp=>?_,I.hok.laid kp hD hokN,?_]
 .obtain ⟨m,hm⟩:=hns;refine #[m,hm,λi x v e1 e2 e3=>?_];have hi:own<=i:=by
   false_or_by_contra
   rename_i z;unfold jc at e2;rw[iO (by rw[jC];lia),List.getElem?_replicate]at e2;split at e2<;>cases e2
  obtain ⟨j,rfl⟩:∃ j,i=own+j:=#[i-own,by lia];have hj:j<cap.length:=by
   have:=(aT.mp e1).1;have z:=c.len;have this':own+j<N.length:=this;lia
  have hc:=eW.mp c.caps j (d7.mpr hj);have e1':N[own+j]?=some x:=e1;rw[e1']at hc;simp only[eV,beq_iff_eq,oa]at hc;obtain ⟨hN,hf,hk⟩:=hc;have e2':U[cap[j]!]?=some (some v):=by
   unfold jc at e2;rw[gi (by rw[jC];lia),jC,show own+j-own=j by lia,aZ]at e2;have g:cap[j]! = cap[j]:=by simp[hj]
   rw[aA hj,Option.map_some]at e2;rw[g];have e2:=aJ e2;cases q:U[cap[j]]? with
   | none=>rw[q]at e2;cases e2
   | some z=>rw[q]at e2;exact congrArg some e2
  obtain ⟨m0,_,hl⟩:=I.loc;obtain ⟨u,ru,lk⟩:=hl (cap[j]!) x v hN.symm e2' (by
   rcases hk with z|z
   .exact .inr (.inl z)
   .exact .inr (.inr z))
  refine #[u,ru,.inr #[Bo (env:=X.env) hf,?_]];rcases lk with ⟨z,_⟩|⟨_,cc,ec,ic⟩
  .rcases hk with q|q
   .rw[q]at z;cases z
   .rw[q]at z;cases z
  ·obtain ⟨c',hc'⟩:=hcl.has x (by
    have:(x,NameKind.free)∈scope.names:=by
     have hlk:=hf;obtain ⟨l1,l2,hs,hno⟩:=List.lookup_eq_some_iff.mp hlk;rw[hs];exact fT _ bZ
    exact this)
   have:=hcl.sub x c' hc';rw[ec]at this;cases this
   obtain ⟨o,ho,hd⟩:=ic;refine #[cc,?_,o,kp cc o ho,hd];refine Bn (λq=>?_) hc';have z2:=congrArg Prod.snd c.one;rw[q]at z2;rw[show scope.names.lookup x=some .cell from aJ z2]at hf;cases hf
 .rcases lk x cc e with ⟨q1,q2⟩|⟨_,q2⟩
  .rw[q2];exact #[_,hcz x q1]
  .obtain ⟨v,o,ho,hd⟩:=cells x cc q2;exact #[v,o,kp cc o ho,hd]
 .show upd H D .(V) C=none;rw[aj (bt hCD)];exact hfrC
 .show upd H D .(V) cc=none;rcases lk x cc e with ⟨_,q2⟩|⟨_,q2⟩
  .rw[q2,aj (bt hDz)];exact hfrZ
  .rw[aj (cellne x cc q2).1];exact I.freeC x cc (hcl.sub x cc q2)
 .obtain ⟨e,n,ne,nf,d⟩:=I.pin p hp;refine #[kp _ _ e,?_,(sz _ _ e).2,λz=>?_,d]
  .show upd H D .(V) p.1=none;rw[aj (sz _ _ e).1];exact n
  .rcases aU.mp (I.stkSub p.1 z) with q|q
   .exact ne q
   .exact nf q
 .show (jc own cap U).length=N.length;unfold jc;rw[aS,jC,ai,c.len]
def Bp (own:Nat)(cap:List Nat)(wi:TI)(g:TG)(ts:TT)(te:TE):TE:=λU H Q=>wi U H λJ H1=>∀ D,H1 D=none->∃ W:Nat->Nat->St->Hp->Prop,(∃ m,W 0 m (jc own cap U) (upd H1 D .(V)))/\∀ i m U H,W i m U H->
 (J.stop i H/\Q (.ref D) H)\/(J.go i H/\∀ x H',J.yld i H x H'->g x U H' λU2 H2=>ts U2 H2 λb H3=>if b=true then te U2 H3 λy H4=>∃ xs,H4 D=some (.lst xs)/\xs.length<sizeLine/\∃ m',m'<m/\W (i+1) m' U2 (upd H4 D (.lst (xs++[y]))) else ∃ m',m'<m/\W (i+1) m' U2 H3)
def Bq {fp:List Addr}{iter:Expr}{pos:Pos}{ts:TT}{Q:VK}
  {E:Value->Shared->Prop} {RR:Value->Addr->Result->Shared->Prop}
  (hcalm:X.calm=true) (c:o6 X scope z N own cap) (hcl:kX scope X.env cl)
  (hg:∀ cl C s₂ H₂ fp,PG .(O) tg g) (hts:∀ cl C s₂ H₂ fp,PTs .(O) ifs ts) (he:∀ cl C s₂ H₂ fp,PE .(O) elt te)
  (I2:Inv X Rf U H2 s2) (T:Turn X.prog X.w X.K tg J fp it tn) (st2:tn 0 s2.heap) (f2:∀ b∈fp,FpOk X Rf H2 b)
  (rd:∀ D,H2 D=none->∃ W:Nat->Nat->St->Hp->Prop,(∃ m,W 0 m (jc own cap U) (upd H2 D (.lst [])))/\∀ i m U H,W i m U H->
   (J.stop i H/\Q (.ref D) H)\/(J.go i H/\∀ x H',J.yld i H x H'->g x U H' λU2 H2=>ts U2 H2 λb H3=>if b=true then te U2 H3 λy H4=>∃ xs,H4 D=some (.lst xs)/\xs.length<sizeLine/\∃ m',m'<m/\W (i+1) m' U2 (upd H4 D (.lst (xs++[y]))) else ∃ m',m'<m/\W (i+1) m' U2 H3))
  (hRR:∀ D C s' H',Inv X Rf U H' s'->(∃ m,s'.heap.Ns C m)->FpOk X Rf H' C->Q (.ref D) H'->RR (.ref D) C (.ok .next) s') :
  wpAny (model X.prog X.w) X.A (newList []) (λacc s₃=>wpAny (model X.prog X.w) X.A (newFunctionEnv scope X.env.globals cl [] X.env.qual none .none (some X.env)) (λcenv s₄=>
   codeAny (model X.prog X.w) X.A (.compStart (.ListComp elt [#[tg,iter,ifs,0]] scope pos) 0 (.ref it) acc { cenv with scope:=relabel scope X.env }) (RR acc cenv.locals) s₄) E s₃) E s2:=by
 have hfp:∀ b∈fp,b<s2.heap.objs.size:=λb hb=>by
  obtain ⟨o,e,_⟩:=T.obj 0 _ st2 b hb;exact aQ e
 refine wpAny_newObj_type (Hr (congrArg Prod.fst c.one) λh₁ kp₁ hns₁ hcz=>?_);dsimp only at kp₁ hns₁ hcz ⊢;generalize hHH:s2.heap.push { cls:=.type "list",dict:=none,data:=.seq ([]:List Value).toArray }=HH at kp₁ hns₁ hcz ⊢;have hC:HH.objs.size=s2.heap.objs.size+1:=by rw[<-hHH,jB]
 have hDC:s2.heap.objs.size≠HH.objs.size:=by rw[hC];exact bK (kh _)
 have hCle:s2.heap.objs.size<=HH.objs.size:=by rw[hC];exact fD _
 have old:∀ b o,s2.heap.get? b=some o->h₁.get? b=some o:=λb o e=>kp₁ b o (hHH ▸ aY _ e);have hnew:h₁.get? s2.heap.objs.size=some { cls:=.type "list",data:=.seq (List.toArray []) }:=kp₁ _ _ (hHH ▸ cB _ rfl);have I3:∀ tk,Inv .(ga) Rf (jc own cap U) (upd H2 s2.heap.objs.size .(V)) { s2 with heap:=h₁,toks:=tk }:=λtk=>
  Hu I2 c hcl f2 (aq _) hCle hDC old hnew #[_,hns₁] hcz (by rw[hC];exact bK (Nat.lt_succ_of_lt (kh _))) hfp hcalm
 obtain ⟨W,⟨m0,w0⟩,turn⟩:=rd s2.heap.objs.size (I2.hok.fresh (aq _));have st3:tn 0 h₁:=T.keep _ _ _ st2 λb _ o e=>old b o e;have fr3:∀ b∈fp,upd H2 s2.heap.objs.size .(V) b=none:=λb hb=>by rw[aj (bK (hfp b hb))];exact (f2 b hb).1
 have stat:∀{H':Hp},(∀ b∈fp,H' b=none)->∀ b∈fp,FpOk .(ga) Rf H' b:=λhn b hb=>by
  obtain ⟨_,h2,h3,_,h5,h6⟩:=f2 b hb;refine #[hn b hb,bK (cn (hfp b hb) hCle),λz=>?_,.inl hb,λx cc e=>?_,h6]
  .rcases aU.mp (I2.stkSub b z) with q|q
   .exact h2 q
   .exact h3 q
  .rcases Bm (show (zc _ HH.objs.size cl).lookup x=some cc from e) with ⟨_,e⟩|⟨_,e⟩
   .exact λq=>absurd (show HH.objs.size+1<s2.heap.objs.size from (by rw[<-e,q];exact hfp b hb)) (ku.mpr (bW hCle (fD _)))
   .exact h5 x cc (hcl.sub x cc e)
 have loop:∀ s₃:Shared,s₃={ s2 with heap:=h₁ }->
   codeAny .(d) X.A (.compLoop (.ListComp elt [#[tg,iter,ifs,0]] scope pos) 0 (.ref it) (.ref s2.heap.objs.size) (compEnvC scope (zc z HH.objs.size cl) HH.objs.size X.env)) (RR (.ref s2.heap.objs.size) HH.objs.size) s₃:=by
  rintro s₃ rfl;refine Ht (λn s'=>∃ i U' H',Inv .(ga) Rf U' H' s'/\tn i s'.heap/\(∀ b∈fp,H' b=none)/\W i n U' H') ?_ m0 #[0,_,_,I3 _,st3,fr3,w0];rintro n s3 ⟨i,U3,H3,J3,t3,fr,w3⟩;rcases turn i n U3 H3 w3 with ⟨stop,qn⟩|⟨go,step⟩
  .refine thn (T.done .(ga) rfl rfl rfl hcalm i Rf s3 U3 H3 (λ_ _=>False) J3 (stat fr) t3 stop) λr s4 zq0=>?_;obtain ⟨hr,I4⟩:=zq0;subst hr;obtain ⟨mm,hmm,_⟩:=I4.loc;refine hRR _ _ s4 H3 (I2.call' I4.os I4.base I4.hok I4.bare λb hb=>?_) #[mm,hmm] (I2.fpOk hCle I4.free) qn;obtain ⟨_,h2,_,h4,h5,h6⟩:=f2 b hb;exact #[h4,h2,h5,h6]
  .refine thn (T.item .(ga) rfl rfl rfl hcalm i Rf s3 U3 H3 (λ_ _=>False) J3 (stat fr) t3 go) λr s4 zq0=>?_;obtain ⟨u,hr,h4⟩:=zq0;subst hr;refine thn h4 λ_ s5 zq0=>?_;obtain ⟨x,H5,I5,r5,y5,st5,fr5⟩:=zq0;have I5':=I5.pinned (stat fr5) (T.obj _ _ st5);have back:∀{U7:St} {H7:Hp} {s7:Shared} {m':Nat},Inv .(ga) (Rf++mw fp s5.heap) U7 H7 s7->W (i+1) m' U7 H7->∃ i U' H',Inv .(ga) Rf U' H' s7/\tn i s7.heap/\(∀ b∈fp,H' b=none)/\W i m' U' H':=λ{U7 H7 s7 m'} I7 w7=>by
    refine #[i+1,U7,H7,I7.unpinned,T.keep _ _ _ st5 λb hb o e=>(I7.pin (b,o) (fT _ (fT _ (oJ hb e)))).1,λb hb=>?_,w7];obtain ⟨o,e,d⟩:=T.obj _ _ st5 b hb;exact (I7.pin (b,o) (fT _ (fT _ (oJ hb e)))).2.1
   refine thn (hg cl HH.objs.size s2 H2 fp _ s5 U3 H5 x u _ I5' r5 (step x H5 y5)) λ_ s6 zq0=>?_;obtain ⟨U6,H6,I6,q6⟩:=zq0;refine thn (hts cl HH.objs.size s2 H2 fp _ s6 U6 H6 _ I6 q6) λb s7 zq0=>?_;obtain ⟨H7,I7,q7⟩:=zq0;cases b with
   | false=>
    rw[ao cH]at q7 ⊢;obtain ⟨m',hm,w7⟩:=q7;exact #[m',hm,back I7 w7]
   | true=>
    rw[ak rfl]at q7 ⊢;refine thn (he cl HH.objs.size s2 H2 fp _ s7 U6 H7 _ I7 q7) λv s8 zq0=>?_;obtain ⟨y,H8,I8,r8,q8⟩:=zq0;obtain ⟨xs,hx,hz,m',hm,w8⟩:=q8;refine thn (dM (X:=dv X N scope z cl HH.objs.size s2 H2 fp) _ s8 U6 H8 (.ref s2.heap.objs.size) [y] (.ref s2.heap.objs.size) [v] (λ_ H9=>H9=upd H8 s2.heap.objs.size (.lst (xs++[y]))) I8 rfl (.cons r8 .nil) #[_,xs,y,rfl,rfl,hx,hz,rfl]) λ_ s9 zq0=>?_;obtain ⟨_,H9,I9,_,e9⟩:=zq0;subst e9;exact #[m',hm,back I9 w8]
 refine codeAny_compStart_list (loop _ rfl) ?_;exact T.self _ 0 _ _ _ st3 (loop _ rfl)
def Hv (z:Option Str){N:List Str}{own:Nat}{cap:List Nat}{scope:Scope}{tg elt iter:Expr}{ifs:List Expr}{pos:Pos}{wi:TI}{g:TG}{ts:TT}{te:TE}(hcalm:X.calm=true)(hi:PI X tg iter wi)(c:o6 X scope z N own cap)
  (hg:∀ cl C s₂ H₂ fp,PG .(O) tg g) (hts:∀ cl C s₂ H₂ fp,PTs .(O) ifs ts) (he:∀ cl C s₂ H₂ fp,PE .(O) elt te)
  (hs:∀ x,foldedSetIterable iter X.env x=pure x:=by intro _;rfl):PE X (.ListComp elt [#[tg,iter,ifs,0]] scope pos) (Bp own cap wi g ts te):=by
 intro Rf s U H Q I h;obtain ⟨cl,hcl⟩:=vn (scope:=scope) (env:=X.env) λx hx=>I.ok.has x (by
  have:=eW.mp c.frees _ hx;simpa using this)
 rw[eval_ListComp];refine wpAny_comprehension_free (use:=none) rfl hs hcl.eq c.kind (λx hx hl=>by
  have:=eW.mp c.locs x hx;rw[hl]at this;simpa using this) (thn (hi Rf s U H _ I h) λv s1 h1=>thn h1 λitv s2 h2=>?_)
 obtain ⟨it,fp,tn,J,H2,e,I2,T,st2,f2,rd⟩:=h2;subst e;refine Bq (RR:=λacc C=>compPost .(d) X.A X.xe none .(X) acc C) hcalm c hcl hg hts he I2 T st2 f2 rd ?_;intro D C s' H' I' hm fC q;obtain ⟨m,hm⟩:=hm;obtain ⟨f0,f1,f2,f3,f4,f5⟩:=fC;exact #[m,hm,λh' hsb=>#[.ref D,H',I'.turned (t':=s'.toks) (λb o hb e=>(hsb.2 b hb).trans e) f0 f1 f3 f4 f5,rfl,q]]
def Br (z:Option Str){i:Nat}{x:Str}{N:List Str}{own:Nat}{cap:List Nat}{scope:Scope}{tg elt iter:Expr}{ifs:List Expr}{pos pos' spos:Pos}{wi:TI}{g:TG}{ts:TT}{te:TE}(hN:X.N.Nodup)(hxi:X.N[i]?=some x)(hx:X.env.scope.names.lookup x=some .local)(hcalm:X.calm=true)(hi:PI X tg iter wi)(c:o6 X scope z N own cap)
  (hg:∀ cl C s₂ H₂ fp,PG .(O) tg g) (hts:∀ cl C s₂ H₂ fp,PTs .(O) ifs ts) (he:∀ cl C s₂ H₂ fp,PE .(O) elt te)
  (hsw:swapsWith (.ListComp elt [#[tg,iter,ifs,0]] scope pos) (some (.Name x pos')) spos.line X.env=pure true:=by rfl)
  (hs:∀ x,foldedSetIterable iter X.env x=pure x:=by intro _;rfl):PS X (.Assign [.Name x pos'] (.ListComp elt [#[tg,iter,ifs,0]] scope pos) spos) (tAsg (Bp own cap wi g ts te) (jM i)):=by
 intro Rf s U H D I h;obtain ⟨cl,hcl⟩:=vn (scope:=scope) (env:=X.env) λx hx=>I.ok.has x (by
  have:=eW.mp c.frees _ hx;simpa using this)
 rw[exec_Assign_Name_used _ _ _ _ hsw];refine ax (wpAny_standAt (ax ?_));show wpAny _ X.A (do let _ <-comprehension (.ListComp elt [#[tg,iter,ifs,0]] scope pos) scope X.env _ (newList []) false (eval iter X.env) (some (assign (.Name x pos') X.env))) _ _ s
 refine ax (cW (wpAny_comprehension_free (use:=some (assign (.Name x pos') X.env)) (Q:=λ_ s'=>SP X Rf D .next s') rfl hs hcl.eq c.kind (λx hx hl=>by
  have:=eW.mp c.locs x hx;rw[hl]at this;simpa using this) (thn (hi Rf s U H _ I h) λv s1 h1=>thn h1 λitv s2 h2=>?_)) (λ_ s' hq=>aM (aM hq)) λ_ _ e=>e)
 obtain ⟨it,fp,tn,J,H2,e,I2,T,st2,f2,rd⟩:=h2;subst e;refine Bq (RR:=λacc C=>compPost .(d) X.A X.xe (some (assign (.Name x pos') X.env)) (λ_ s'=>SP X Rf D .next s') acc C) (Q:=λx H1=>jM i x U H1 D.nx) hcalm c hcl hg hts he I2 T st2 f2 rd ?_;intro Dd C s' H' I' hm fC q;obtain ⟨m,hm⟩:=hm;have hne:∀ a,(a=X.env.locals\/X.env.cells.lookup x=some a)->a≠C:=λa z=>by
  obtain ⟨f0,f1,f2,f3,f4,f5⟩:=fC;rcases z with z|z
  .rw[z];exact bt f1
  .exact f4 x a z
 show wpAny _ X.A (assign (.Name x pos') X.env (.ref Dd)) _ _ _;refine wpAny_assign_Name (zW I' hN hxi (.inl hx) (v:=.ref Dd) rfl (λs'' I'' hch=>?_) (.inr hx));obtain ⟨a,hsb,ha⟩:=hch;refine #[m,hm.sameBut hsb (bt (hne a ha)),λh' hs'=>?_];obtain ⟨f0,f1,f2,f3,f4,f5⟩:=fC;exact #[_,H',I''.turned (t':=s''.toks) (λb o hb e=>(hs'.2 b hb).trans e) f0 f1 f3 f4 f5,q]
abbrev fM:=@Hv X none
abbrev jd:=@Br X none
abbrev Hw (z:Str):=@Br X (some z)
end
end L2
namespace L2
open PySem PySem.Spec PyProof.Rows PySem.SeqAt
class Srt (α:Type)[Rep α] where
 blt:α->α->Bool
 irrefl:∀ a,blt a a=false
 trans:∀ a b c,blt a b=true->blt b c=true->blt a c=true
 negTrans:∀ a b c,blt a c=true->blt a b=true\/blt b c=true
 total:∀ a b,blt a b=false->blt b a=false->a=b
 kd:SortKind
 one:α
 lt:∀{X:Cx} {Rf:List (Addr×Obj)} {U:St} {H:Hp} {s:Shared} {A:Around} {a b:α} {x y:V} {u v:Value} {Q:Bool->Shared->Prop} {E:Value->Shared->Prop},Inv X Rf U H s->Rep.has X.K H a x->Rep.has X.K H b y->RelV x u->RelV y v->Q (blt a b) s->wpAny .(d) A (keyLt' kd u v) Q E s
 kind:∀{X:Cx} {Rf:List (Addr×Obj)} {U:St} {H:Hp} {s:Shared} {A:Around} {as:List α} {xs:List V} {us:List Value} {Q:SortKind->Shared->Prop} {E:Value->Shared->Prop},Inv X Rf U H s->aD X.K H as xs->Vals xs us->2<=us.length->Q kd s->wpAny .(d) A (keyKind' us.toArray) Q E s
section
variable {α:Type}[Rep α][Srt α]
noncomputable def srtKind (α:Type)[Rep α][Srt α](K:Frag)(H:Hp):PyProof.Rows.KeyKind where
 α:=α
 blt:=Srt.blt
 irrefl:=Srt.irrefl
 trans:=Srt.trans
 negTrans:=Srt.negTrans
 total:=Srt.total
 keyOf:=λu=>open Classical in if h:∃ a:α,∃ x,RelV x u/\Rep.has K H a x then some (Classical.choose h) else none
 dflt:=Srt.one
def Hx {a:α}{x:V}{u:Value}(I:Inv X Rf U H s)(r:RelV x u)(h:Rep.has X.K H a x):(srtKind α X.K H).keyOf u=some a:=by
 have e:∃ a:α,∃ x,RelV x u/\Rep.has X.K H a x:=#[a,x,r,h];unfold srtKind;dsimp only;rw[dif_pos e];obtain ⟨y,ry,hy⟩:=Classical.choose_spec e;have z:=ry.inj r;subst z;exact congrArg some (Rep.inj I hy h)
def Bs {K:Frag}{a:α}{u:Value}(h:(srtKind α K H).keyOf u=some a):∃ x,RelV x u/\Rep.has K H a x:=by
 unfold srtKind at h;dsimp only at h;split at h
 .rename_i e;cases h
  exact Classical.choose_spec e
 .cases h
def cT (as:List α):List α:=as.mergeSort λa b=>!Srt.blt b a
def jQ (as:List α):(cT as).Perm as:=List.mergeSort_perm _ _
def mH {as:List α}{a:α}:a∈cT as↔a∈as:=(jQ as).mem_iff
def o7 (as:List α):(cT as).length=as.length:=(jQ as).length_eq
def Hy {a b:α}(h:Srt.blt a b=true):Srt.blt b a=false:=by
 cases e:Srt.blt b a with
 | false=>rfl
 | true=>
  have:=Srt.trans _ _ _ h e;rw[Srt.irrefl]at this;cases this
def Bt (as:List α):(cT as).Pairwise λa b=>Srt.blt b a=false:=by
 have h:=List.pairwise_mergeSort (le:=λa b:α=>!Srt.blt b a) (λa b c h1 h2=>by
  simp only[kx]at h1 h2 ⊢;cases e:Srt.blt c a with
  | false=>rfl
  | true=>
   rcases Srt.negTrans c b a e with z|z
   .rw[h2]at z;cases z
   .rw[h1]at z;cases z) (λa b=>by
  cases e:Srt.blt b a with
  | false=>rfl
  | true=>rw[Hy e];rfl) as
 exact h.imp λ{a b} z=>by simpa using z
def o8 {as bs:List α}(hp:bs.Perm as)(hs:bs.Pairwise λa b=>Srt.blt b a=false):bs=cT as:=
 List.Perm.eq_of_pairwise (λa b _ _ h1 h2=>Srt.total a b h2 h1) hs (Bt as) (hp.trans (jQ as).symm)
def Bu {as:List α}(hs:as.Pairwise λa b=>Srt.blt b a=false):cT as=as:=(o8 (List.Perm.refl _) hs).symm
def pb {as:List α}(hn:as.Nodup):(cT as).Pairwise λa b=>Srt.blt a b=true:=by
 have h1:=Bt as;have h2:(cT as).Nodup:=(jQ as).nodup_iff.mpr hn;refine (h1.and h2).imp λ{a b} z=>?_;cases e:Srt.blt a b with
 | true=>rfl
 | false=>exact absurd (Srt.total a b e z.1) z.2
def Bw {K:Frag}:∀{out:List Value},(∀ v∈out,∃ a:α,∃ x,RelV x v/\Rep.has K H a x/\(srtKind α K H).keyOf v=some a)->
  ∃(ws:List V) (bs:List α),Vals ws out/\aD K H bs ws/\bs=out.map (Tim.keyV (srtKind α K H))
 | [],_=>#[[],[],.nil,.nil,rfl]
 | v::out,h=>by
  obtain ⟨ws,bs,h1,h2,h3⟩:=Bw (out:=out) λu hu=>h u (bP _ hu);obtain ⟨a,x,r,e,k⟩:=h v bZ;refine #[x::ws,a::bs,.cons r h1,.cons e h2,?_];rw[bL,<-h3];have z:Tim.keyV (srtKind α K H) v=a:=by
   unfold Tim.keyV;rw[k];rfl
  rw[z];rfl
def Bx (I:Inv X Rf U H s):∀{as:List α} {xs:List V} {us:List Value},aD X.K H as xs->Vals xs us->us.map (Tim.keyV (srtKind α X.K H))=as/\∀ v∈us,∃ a:α,∃ x,RelV x v/\Rep.has X.K H a x/\(srtKind α X.K H).keyOf v=some a
 | _,_,_,.nil,.nil=>#[rfl,λ_ z=>nomatch z]
 | _,_,_,.cons e t,.cons r q=>by
  obtain ⟨h1,h2⟩:=Bx I t q;have k:=Hx I r e;refine #[?_,λv hv=>?_]
  .rw[bL,h1];unfold Tim.keyV;rw[k];rfl
  .rcases aU.mp hv with z|z
   .subst z;exact #[_,_,r,e,k]
   .exact h2 v z
end
instance:Srt Int where
 blt:=λa b=>decide (a<b)
 irrefl:=λa=>by simp
 trans:=λa b c h1 h2=>by
  simp only[decide_eq_true_eq]at *;lia
 negTrans:=λa b c h=>by
  simp only[decide_eq_true_eq]at *;lia
 total:=λa b h1 h2=>by
  simp only[decide_eq_false_iff_not]at *;lia
 kd:=oneType'
 one:=0
 lt:=λ{X Rf U H s A a b x y u v Q E} _ h1 h2 r1 r2 q=>by
  have h1:x=.int a:=h1;have h2:y=.int b:=h2;subst h1 h2;obtain ⟨t,rfl⟩:=r1;obtain ⟨t',rfl⟩:=r2;exact W.kat_lt_int q
 kind:=λ{X Rf U H s A as xs us Q E} _ h r hl q=>by
  have e:=aD.toInts h;subst e;have hi:IntsAre us as:=by
   clear q hl
   induction as generalizing us with
   | nil=>cases r;exact .nil
   | cons a as ih=>
    cases r with
    | cons r1 r2=>
     obtain ⟨t,rfl⟩:=r1;exact .cons a t (ih (by first|exact aD.ints|assumption) r2)
  match us,hl,hi with
  | v₁::v₂::rest,_,hi=>
   rw[keyKind_ints hi];exact aM q
def pLt (a b:Int×Int):Bool:=decide (a.1<b.1)||(decide (a.1=b.1)&&decide (a.2<b.2))
def fZ {a:Int×Int}:pLt a b=true↔a.1<b.1\/(a.1=b.1/\a.2<b.2):=by
 unfold pLt;simp
def vq {a:Int×Int}:pLt a b=false↔¬ (a.1<b.1\/(a.1=b.1/\a.2<b.2)):=by
 rw[<-fZ];simp
def vt {a:Int×Int}{x:V}{u:Value}(I:Inv X Rf U H s)(h:Rep.has X.K H a x)(r:RelV x u) :
  ∃(p:Addr) (o:Obj) (n:Nat) (t t':Tok),u=.ref p/\s.heap.get? p=some o/\o.cls=.type "tuple"/\o.data=.seq (List.toArray [.int a.1 t,.int a.2 t']) n:=by
 obtain ⟨p,x1,x2,rfl,q,e1,e2⟩:=(show hasP X.K H a x from h);have e1:x1=.int a.1:=e1;have e2:x2=.int a.2:=e2;subst e1 e2;cases r
 obtain ⟨us,ru,pu,_⟩:=I.tuple (SqT.of q);obtain ⟨u1,u2,rfl,⟨t,rfl⟩,⟨t',rfl⟩⟩:=gy ru;obtain ⟨o,ho,hc,n,hd⟩:=pu;exact #[p,o,n,t,t',rfl,ho,hc,hd]
def By {prog:Program}{w:World}{A:Around}{E:Value->Shared->Prop}{s:Shared}{x y:Int}{t u:Tok}{Q:Bool->Shared->Prop}(b:Bool)(h:Q (decide (x<y)) s):wpAny .(i) A (oneLt' b (.int x t) (.int y u)) Q E s:=by
 cases b with
 | true=>
  rw[<-keyLt'_oneType];exact W.kat_lt_int h
 | false=>exact W.kat_one _ _ (lt_int h)
instance:Srt (Int×Int) where
 blt:=pLt
 irrefl:=λa=>by rw[vq];lia
 trans:=λa b c h1 h2=>by
  rw[fZ]at *;lia
 negTrans:=λa b c h=>by
  rw[fZ]at *;rw[fZ];lia
 total:=λa b h1 h2=>by
  rw[vq]at *;obtain ⟨a1,a2⟩:=a;obtain ⟨b1,b2⟩:=b;have:a1=b1/\a2=b2:=by dsimp only at *;lia
  rw[this.1,this.2]
 kd:=tuples' true
 one:=(0,0)
 lt:=λ{X Rf U H s A a b x y u v Q E} I h1 h2 r1 r2 q=>by
  obtain ⟨p,o,n,t1,t2,rfl,ho,hc,hd⟩:=vt I h1 r1;obtain ⟨p',o',n',t3,t4,rfl,ho',hc',hd'⟩:=vt I h2 r2;refine W.kat_lt ho hd ho' hd' ?_;show W.KatLex X.prog X.w A true _ Q [(.int a.1 t1,.int b.1 t3),(.int a.2 t2,.int b.2 t4)] 0 s;refine W.kat_cons (EqAt.int_int a.1 t1 b.1 t3 _ _ _ _ (W.kat_go (λe=>W.kat_yes ?_) (λe=>W.kat_no ?_)))
  .have e1:a.1=b.1:=eq_of_beq e;refine W.kat_cons (EqAt.int_int a.2 t2 b.2 t4 _ _ _ _ (W.kat_go (λe=>W.kat_yes (W.kat_nil ?_)) (λe=>W.kat_no (By _ ?_))))
   .have e2:a.2=b.2:=eq_of_beq e;have z:pLt a b=false:=by rw[vq];lia
    rw[z]at q;exact q
   .have z:pLt a b=decide (a.2<b.2):=by
     unfold pLt;rw[bx (by lia:¬ a.1<b.1),aV e1];rfl
    rw[z]at q;exact q
  .have e1:¬ a.1=b.1:=λz=>by rw[z]at e;simp at e
   refine By _ ?_;have z:pLt a b=decide (a.1<b.1):=by
    unfold pLt;rw[bx e1];simp
   rw[z]at q;exact q
 kind:=λ{X Rf U H s A as xs us Q E} I h r hl q=>by
  have go:∀{as:List (Int×Int)} {xs:List V} {us:List Value},aD X.K H as xs->Vals xs us->∃ fs,W.KatTups s.heap us fs/\fs.length=us.length/\∀ v∈fs,∃ i t,v=Value.int i t:=by
   intro as
   induction as with
   | nil=>
    intro xs us h r;cases h
    cases r
    exact #[[],.nil,rfl,λ_ z=>nomatch z]
   | cons a as ih=>
    intro xs us h r;cases h with
    | cons h1 h2=>
     cases r with
     | cons r1 r2=>
      obtain ⟨fs,f1,f2,f3⟩:=ih h2 r2;obtain ⟨p,o,n,t,t',rfl,ho,hc,hd⟩:=vt I h1 r1;refine #[.int a.1 t::fs,W.KatTups.cons ho hc hd rfl f1,by rw[dC,dC,f2],λv hv=>?_];rcases aU.mp hv with z|z
      .exact #[_,_,z]
      .exact f3 v z
  obtain ⟨fs,f1,f2,f3⟩:=go h r;refine W.kat_kind (T:=.type "int") f1 .(a) (λv hv=>?_) .(q) ?_
  .obtain ⟨i,t,rfl⟩:=f3 v hv;exact W.Looks.of_pure rfl
  .exact q
end L2
namespace L2
open PySem PySem.Spec PyProof.Rows
section
variable {X:Cx}
def kY {i:Int}{pos:Pos}(hg:Gl X x)(hm:∃ t,X.mg x=some (.int i t))(hd: .(o)=false:=by decide):PE X (.Name x pos) (tC (.int i)):=by
 obtain ⟨t,e⟩:=hm;exact fV hg e #[t,rfl] hd
end
def iC {K:Frag}{a:Addr}{g:TG}{ts:TT}{te:TE}{U:St}{H:Hp}{Q:Hp->Prop}(Pv:Nat->St->Hp->Prop)(h0:Pv 0 U H)(hl:∀ i U H,i<=xs.length->Pv i U H->SqL K H a xs)
  (hs:∀ i m x U H,xs[i]?=some x->i+m=xs.length->Pv i U H->g x U H λU2 H2=>ts U2 H2 λb H3=>if b=true then te U2 H3 λy H4=>∃ zs,H4 D=some (.lst zs)/\zs.length<sizeLine/\∃ m',m'<m/\(i+1+m'=xs.length/\Pv (i+1) U2 (upd H4 D (.lst (zs++[y])))) else ∃ m',m'<m/\(i+1+m'=xs.length/\Pv (i+1) U2 H3))
  (hd:∀ U H,Pv xs.length U H->Q H) :
  ∃ W:Nat->Nat->St->Hp->Prop,.(da)/\∀ i m U H,W i m U H->((Itl K a).stop i H/\Q H)\/((Itl K a).go i H/\∀ x H',(Itl K a).yld i H x H'->g x U H' λU2 H2=>ts U2 H2 λb H3=>if b=true then te U2 H3 λy H4=>∃ xs,H4 D=some (.lst xs)/\xs.length<sizeLine/\∃ m',m'<m/\W (i+1) m' U2 (upd H4 D (.lst (xs++[y]))) else ∃ m',m'<m/\W (i+1) m' U2 H3):=by
 refine .(N);obtain ⟨e,pv⟩:=zq0;have hS:=hl i U H .(a) pv;by_cases hi:i<xs.length
 .refine .inr #[#[xs,xs[i],hS,aA hi],λx H' y=>?_];obtain ⟨e1,y⟩:=y;subst e1;exact hs i m x U _ (y xs hS) e pv
 .have:i=xs.length:=by lia
  subst this;exact .inl #[#[xs,hS,aq _],hd U H pv]
def kZ {lo:Int}{n:Nat}{g:TG}{ts:TT}{te:TE}{U:St}{H:Hp}{Q:Hp->Prop}(Pv:Nat->St->Hp->Prop)(h0:Pv 0 U H)
  (hs:∀ i m U H,i+m=n->i<n->Pv i U H->g (.int (lo+i)) U H λU2 H2=>ts U2 H2 λb H3=>if b=true then te U2 H3 λy H4=>∃ zs,H4 D=some (.lst zs)/\zs.length<sizeLine/\∃ m',m'<m/\(i+1+m'=n/\Pv (i+1) U2 (upd H4 D (.lst (zs++[y])))) else ∃ m',m'<m/\(i+1+m'=n/\Pv (i+1) U2 H3))
  (hd:∀ U H,Pv n U H->Q H) :
  ∃ W:Nat->Nat->St->Hp->Prop,.(da)/\∀ i m U H,W i m U H->((Itr lo n).stop i H/\Q H)\/((Itr lo n).go i H/\∀ x H',(Itr lo n).yld i H x H'->g x U H' λU2 H2=>ts U2 H2 λb H3=>if b=true then te U2 H3 λy H4=>∃ xs,H4 D=some (.lst xs)/\xs.length<sizeLine/\∃ m',m'<m/\W (i+1) m' U2 (upd H4 D (.lst (xs++[y]))) else ∃ m',m'<m/\W (i+1) m' U2 H3):=by
 refine #[λi m U H=>i+m=n/\Pv i U H,#[n,by lia,h0],λi m U H zq0=>?_];obtain ⟨e,pv⟩:=zq0;by_cases hi:i<n
 .refine .inr #[hi,λx H' y=>?_];obtain ⟨e1,y⟩:=y;subst e1 y;exact hs i m U _ e hi pv
 .have:i=n:=by lia
  subst this;exact .inl #[aq _,hd U H pv]
def metI (ns:List Int):List Int:=firstMet (λi=>ns.getD i 0) ns.length
def Hz:∀ ns:List Int,(List.range ns.length).map (λi=>ns.getD i 0)=ns:=λns=>by
 apply gK;intro i;rw[aZ];by_cases h:i<ns.length
 .rw[ij h,Option.map_some,aF,aA h];rfl
 .rw[dy (by rw[d9];lia),dy .(a)];rfl
def Bz:∀(ns U:List Int),(U++ns).Nodup->ns.foldl step_dedup U=U++ns
 | [],U,_=>by simp
 | n::ns,U,h=>by
  have hn:¬ (U.any (· == n))=true:=λz=>by
   obtain ⟨x,hx,e⟩:=List.any_eq_true.mp z;have e:=eq_of_beq e;subst e;rw[fF]at h;exact h.2.2 x hx x bZ rfl
  rw[List.foldl_cons];have e:step_dedup U n=U++[n]:=by
   unfold step_dedup;rw[ao hn]
  rw[e,Bz ns (U++[n]) (by rw[il];exact h),il];rfl
def BA {ns:List Int}(h:ns.Nodup):metI ns=ns:=by
 unfold metI firstMet;rw[Hz];exact Bz ns [] h
def pe:∀{ns:List Int} {us:List Value},Vals .(H) us->IntsAre us ns
 | [],_,.nil=>.nil
 | n::_,_,.cons ⟨t,e⟩ q=>by
  subst e;exact .cons n t (pe q)
section
variable {X:Cx}
def HS:cN X (.builtin "len") (λxs H Q=>∃ p S n,xs=[.ref p]/\H p=some (.set S n)/\n<=1000/\Q (.int (n:Nat)) H):=by
 intro Rf s U H xs us Q I r h;obtain ⟨p,S,n,rfl,hp,hn,q⟩:=h;obtain ⟨u,rfl,rx⟩:=fX r;cases rx
 have ok:s.heap.SetOf (intKind X.prog X.w) p S n:=I.hok p _ hp;obtain ⟨o,ho,hex,es,ep,t,hd,_,_,hm,hf⟩:=ok.objOf;subst hm;exact call_len_set ho hex hd hf .(a) #[.int _,H,I.tok _,.(Ba),q]
end
def HU:kitO "NoneType" "int" = some false:=by decide +kernel
def HV:kitO "list" "int" = some false:=by decide +kernel
def HY:kitO "tuple" "tuple" = some true:=by decide +kernel
end L2
namespace L2
def fN {i:Nat}{x:V}{U:St}{H:Hp}{A B:St->Hp->Prop}(h:A (U.set i (some x)) H):jM i x U H λU2 H2=>tYes U2 H2 λb H3=>if b=true then A U2 H3 else B U2 H3:=by
 show (if true=true then A (U.set i (some x)) H else B (U.set i (some x)) H)
 rw[ak rfl];exact h
end L2
namespace L2
open PySem PySem.Spec PyProof.Rows
section
variable {X:Cx}
def HZ (hc:X.calm=true):cN X (.builtin "sum") (λxs H Q=>∃(p:Addr) (ns:List Int),xs=[.ref p]/\SqL X.K H p .(H)/\Q (.int ns.sum) H):=by
 intro Rf s U H xs us Q I r h;obtain ⟨p,ns,rfl,hq,q⟩:=h;obtain ⟨u,rfl,rx⟩:=fX r;cases rx
 obtain ⟨its,rv,pl,_⟩:=I.list hq;have hi:=pe rv;obtain ⟨xs,hx⟩:=hi.allInts.items;have hl':s.heap.IsList p (intItems xs):=hx ▸ pl.isList;refine sum_intListG .(ha) hl' λh' tk t' hk=>?_;have e1:ns=xs.toList.map (·.1):=by
  rw[<-nums_intItems,<-hx];exact (show numsOf its.toArray.toList=ns from hi.numsOf).symm
 have e2:preSum (numAt xs) xs.size=ns.sum:=by
  rw[preSum_eq,bG .(k),e1]
 rw[e2];exact #[.int _,H,Inv.kept (t':=tk) I hk,#[t',rfl],q]
def tRev (K:Frag)(te:TE)(th:TO):TE:=λU H Q=>te U H λx H1=>th U H1 λu H2=>∃ a xs,x=.ref a/\u=some (-1)/\SqL K H2 a xs/\∀ p,H2 p=none->Q (.ref p) (upd H2 p (.lst xs.reverse))
def Vals.rev:∀{xs:List V} {us:List Value},Vals xs us->Vals xs.reverse us.reverse
 | _,_,.nil=>.nil
 | _,_,.cons r t=>by
  rw[kz,kz];exact Vals.append (Vals.rev t) (.cons r .nil)
def Ia {st:Expr}{p2 pos:Pos}(he:PE X e te)(hu:PO X (some st) th):PE X (.Subscript e (.Slice none none (some st) p2) pos) (tRev X.K te th):=by
 intro Rf s U H Q I h;refine Subscript_ (thn .(sa) λv s1 zq0=>?_);obtain ⟨x,H1,I1,r1,q1⟩:=zq0;refine wpAny_Slice ?_;rw[evalPart_none];refine aM (aM ?_);refine thn (hu Rf s1 U H1 _ I1 q1) λvu s3 zq0=>?_;obtain ⟨u,H3,I3,pu,q3⟩:=zq0;obtain ⟨a,xs,rfl,rfl,hq,q⟩:=q3;cases r1
 have I4:Inv X Rf U H3 { s3 with heap:=s3.heap.push { cls:=.type "slice",data:=.fields (List.toArray [.none,.none,vu]) } }:=I3.kept (t':=s3.toks) λb ob q=>aY _ q;obtain ⟨its,r,ht,hz⟩:=I4.list hq;have hlen:=r.length;show wpAny .(d) X.A (subscriptTail e (.Slice none none (some st) p2) (.ref a) (.ref s3.heap.objs.size)) .(X) X.xe { s3 with heap:=s3.heap.push { cls:=.type "slice",data:=.fields (List.toArray [.none,.none,vu]) } };refine tail_any (T := "list") (ops:=[.ref a,.ref s3.heap.objs.size]) ht.isList.typeIs slot_list_getitem.lookup ?_ (by with_unfolding_all rfl)
 refine wpAny_getItem_list_slice ht.isList (Heap.IsSliceOf.new ..) .none .none pu .(k) ?_ (by rw[bT]<;>lia)
 rw[W.krv_pick];refine #[.ref _,_,I4.laid (t':=s3.toks) (o:=.lst xs.reverse) (λb ob q=>aY _ q) (aq _) ?_,rfl,q _ (I4.hok.fresh (aq _))];exact #[by rw[kA];exact hz,_,0,Vals.rev r,cB _ rfl]
end
section
variable {X:Cx}{K:Frag}
def bF (h:X.K=K:=by rfl):cN X (.builtin "len") (λxs H Q=>∃ p ys,xs=[.ref p]/\(SqL K H p ys\/SqT K H p ys)/\Q (.int ys.length) H):=by
 subst h;exact Gw
def jR (h:X.K=K:=by rfl):cN X (.builtin "isinstance") (rIsi K):=by
 subst h;exact G4
def bg (h:X.K=K:=by rfl):IxR X (rIxL K):=by
 subst h;exact Gk
def bA (h:X.K=K:=by rfl):IxR X (rIxT K):=by
 subst h;exact Gm
def ph (h:X.K=K:=by rfl):cN X (.type "list") (λxs H Q=>∃ p ys,xs=[.ref p]/\(SqL K H p ys\/SqT K H p ys)/\∀ l,H l=none->Q (.ref l) (upd H l (.lst ys))):=by
 subst h;exact Gx
end
def vv {c:TT}{tb:TS}{D:Ends}{U:St}{H:Hp}(Pv Pe:St->Hp->Prop)(μ:St->Hp->Nat)(h0:Pv U H)
  (hs:∀ U H,Pv U H->c U H λb H1=>if b=true then tb { D with nx:=λU' H'=>Pv U' H'/\μ U' H'<μ U H,ct:=λU' H'=>Pv U' H'/\μ U' H'<μ U H,bk:=D.nx } U H1 else Pe U H1)
  (mono:∀ U H Q Q',(∀ b H1,Q b H1->Q' b H1)->c U H Q->c U H Q') (he:∀ U H,Pe U H->D.nx U H):uJ c tb D U H:=by
 refine Af Pv μ h0 (λU H p=>mono U H _ _ (λb H1 q=>?_) (hs U H p)) mono;cases b with
 | true=>exact q
 | false=>exact he _ _ q
def vw (c:TT):Prop:=∀ U H Q Q',(∀ b H1,Q b H1->Q' b H1)->c U H Q->c U H Q'
def BB {a:TT}(ha:vw a)(hb:vw b):vw (tAnd a b):=λU H Q Q' m h=>ha U H _ _ (λc H1 q=>by
 cases c with
 | false=>exact m _ _ q
 | true=>exact hb U H1 Q Q' m q) h
section
variable {X:Cx}{K:Frag}
def BC (h:X.K=K:=by rfl):OpR X (compareOp .In) (rIn K false):=by
 subst h;exact Gu
def la (h:X.K=K:=by rfl):OpR X (compareOp .NotIn) (rIn K true):=by
 subst h;exact Gv
def Ib {k:Nat}{t:TGs}{n:Nat}{pos:Pos}(hc:X.calm=true)(h:PGs X es t)(hK:X.K=K:=by rfl)
  (hn:(assignEach es X.env).length=n:=by rfl) (hst:(assignEach es X.env).findIdx? (·.1)=none:=by rfl):PG X (.Tuple es k pos) (gTup K n t):=by
 subst hK;exact iY hc h hn hst
def jS (h:X.K=K:=by rfl):SlR X (rSlL K):=by
 subst h;exact Gr
end
def Ic {K:Frag}{a:Addr}{xs ys:List V}{g:TG}{ts:TT}{te:TE}{U:St}{H:Hp}{Q:Hp->Prop}(hlen:xs.length=ys.length)(Pv:Nat->St->Hp->Prop)(h0:Pv 0 U H)(hl:∀ i U H,i<=xs.length->Pv i U H->SqL K H a xs/\SqL K H b ys)
  (hs:∀ i m x y U H r,xs[i]?=some x->ys[i]?=some y->i+m=xs.length->Pv i U H->H r=none->g (.ref r) U (upd H r (.tup [x,y])) λU2 H2=>ts U2 H2 λb H3=>if b=true then te U2 H3 λy H4=>∃ zs,H4 D=some (.lst zs)/\zs.length<sizeLine/\∃ m',m'<m/\(i+1+m'=xs.length/\Pv (i+1) U2 (upd H4 D (.lst (zs++[y])))) else ∃ m',m'<m/\(i+1+m'=xs.length/\Pv (i+1) U2 H3))
  (hd:∀ U H,Pv xs.length U H->Q H) :
  ∃ W:Nat->Nat->St->Hp->Prop,.(da)/\∀ i m U H,W i m U H->((Itz K a b).stop i H/\Q H)\/((Itz K a b).go i H/\∀ x H',(Itz K a b).yld i H x H'->g x U H' λU2 H2=>ts U2 H2 λb H3=>if b=true then te U2 H3 λy H4=>∃ xs,H4 D=some (.lst xs)/\xs.length<sizeLine/\∃ m',m'<m/\W (i+1) m' U2 (upd H4 D (.lst (xs++[y]))) else ∃ m',m'<m/\W (i+1) m' U2 H3):=by
 refine .(N);obtain ⟨e,pv⟩:=zq0;obtain ⟨hS,hS'⟩:=hl i U H .(a) pv;by_cases hi:i<xs.length
 .refine .inr #[#[xs,ys,xs[i],ys[i]' .(a),hS,hS',aA hi,aA .(a)],λx H' y=>?_];obtain ⟨p,z,z',rfl,hp,hz,hz',rfl⟩:=y;exact hs i m z z' U H p (hz xs hS) (hz' ys hS') e pv hp
 .have:i=xs.length:=by lia
  subst this;exact .inl #[#[xs,ys,hS,hS',.inl (aq _)],hd U H pv]
section
variable {X:Cx}
def Ie (hc:X.calm=true):cN X (.builtin "min") (λxs H Q=>∃(p:Addr) (ns:List Int),xs=[.ref p]/\SqL X.K H p .(H)/\0<ns.length/\∀ M,M∈ns->(∀ a,a∈ns->M<=a)->Q (.int M) H):=by
 intro Rf s U H xs us Q I r h;obtain ⟨p,ns,rfl,hq,hne,q⟩:=h;obtain ⟨u,rfl,rx⟩:=fX r;cases rx
 obtain ⟨its,rv,pl,_⟩:=I.list hq;have hi:=pe rv;obtain ⟨xs,hx⟩:=hi.allInts.items;have hl':s.heap.IsList p (intItems xs):=hx ▸ pl.isList;have e1:ns=xs.toList.map (·.1):=by
  rw[<-nums_intItems,<-hx];exact (show numsOf its.toArray.toList=ns from hi.numsOf).symm
 have hsz:0<xs.size:=by
  rw[e1,ai,jy]at hne;exact hne
 refine min_intList .(ha) hl' hsz λv h' tk hv hk=>?_;obtain ⟨t,rfl⟩:=intItems_at hv;obtain ⟨h1,h2⟩:=argBest_lt (numAt xs) (xs.size-1);refine #[.int _,H,Inv.kept (t':=tk) I hk,#[t,rfl],q _ ?_ λa ha=>?_]
 .rw[e1,numAt_eq];rw[aF,aA (by rw[ai,jy];lia)];exact cC _
 .rw[e1]at ha;obtain ⟨j,hj,rfl⟩:=mem_getD ha;rw[ai,jy]at hj;rw[<-numAt_eq];exact h2 j .(a)
end
def jT {K:Frag}{a:Addr}{g:TG}{ts:TT}{te:TE}{U:St}{H:Hp}{Q:Hp->Prop}(Pv:Nat->St->Hp->Prop)(h0:Pv 0 U H)(hl:∀ i U H,i<=xs.length->Pv i U H->SqT K H a xs)
  (hs:∀ i m x U H,xs[i]?=some x->i+m=xs.length->Pv i U H->g x U H λU2 H2=>ts U2 H2 λb H3=>if b=true then te U2 H3 λy H4=>∃ zs,H4 D=some (.lst zs)/\zs.length<sizeLine/\∃ m',m'<m/\(i+1+m'=xs.length/\Pv (i+1) U2 (upd H4 D (.lst (zs++[y])))) else ∃ m',m'<m/\(i+1+m'=xs.length/\Pv (i+1) U2 H3))
  (hd:∀ U H,Pv xs.length U H->Q H) :
  ∃ W:Nat->Nat->St->Hp->Prop,.(da)/\∀ i m U H,W i m U H->((Itt K a).stop i H/\Q H)\/((Itt K a).go i H/\∀ x H',(Itt K a).yld i H x H'->g x U H' λU2 H2=>ts U2 H2 λb H3=>if b=true then te U2 H3 λy H4=>∃ xs,H4 D=some (.lst xs)/\xs.length<sizeLine/\∃ m',m'<m/\W (i+1) m' U2 (upd H4 D (.lst (xs++[y]))) else ∃ m',m'<m/\W (i+1) m' U2 H3):=by
 refine .(N);obtain ⟨e,pv⟩:=zq0;have hS:=hl i U H .(a) pv;by_cases hi:i<xs.length
 .refine .inr #[#[xs,xs[i],hS,aA hi],λx H' y=>?_];obtain ⟨e1,y⟩:=y;subst e1;exact hs i m x U _ (y xs hS) e pv
 .have:i=xs.length:=by lia
  subst this;exact .inl #[#[xs,hS,aq _],hd U H pv]
def Itv (K:Frag)(a:Addr)(n:Nat):It:=
 #[λi H=>i<n/\∃ xs,SqL K H a xs/\xs.length=n,λi H x H'=>H'=H/\∀ xs,SqL K H a xs->xs.length=n->xs.reverse[i]?=some x,λi _=>i=n]
def Ig {K:Frag}(a it:Addr)(n:Nat):Turn P w K tg (Itv K a n) [it] it (λi h=>h.IsRevIter it a ((n:Int)-1-(i:Int))) where
 mem:=by simp
 obj:=λi h st b hb=>by
  have e:b=it:=by simpa using hb
  subst e;obtain ⟨o,e,c,d⟩:=st;exact #[o,e,λv z=>by rw[d]at z;cases z]
 keep:=λi h h' st k=>st.at λo e=>k it .(k) o e
 item:=by
  intro X hP hw hK hc i Rf s U H E I hf st hg;subst hP hw hK;obtain ⟨hi,xs,hq,hn⟩:=hg;obtain ⟨its,rv,p,hz⟩:=I.list hq;have hx:xs[n-1-i]?=some (xs[n-1-i]' .(a)):=aA .(a);obtain ⟨u,hu,ru⟩:=rv.get hx;obtain ⟨f0,f1,f2,f3,f4,f5⟩:=hf it .(k);have e1:(n:Int)-1-(i:Int)=((n-1-i:Nat):Int):=by lia
  rw[e1]at st;refine wpAny_pyNext_rev_item st p.isList (x:=u) (by simpa using hu) λh' st' sb=>?_;have e2:((n-1-i:Nat):Int)-1=(n:Int)-1-((i+1:Nat):Int):=by lia
  rw[e2]at st';have I1:Inv X Rf U H { s with heap:=h' }:=I.turned (t':=s.toks) (λb o hb e=>(sb.2 b hb).trans e) f0 f1 f3 f4 f5;obtain ⟨o,e,c,d⟩:=id st';refine #[u,rfl,mv (s:={ s with heap:=h' }) e c d .(q) #[xs[n-1-i]' .(a),H,I1,ru,#[rfl,λys hy hyn=>?_],st',λb hb=>(hf b hb).1]];rw[I.list_inj hy hq,ma .(a),show xs.length-1-i=n-1-i by lia];exact hx
 done:=by
  intro X hP hw hK hc i Rf s U H E I hf st hg;subst hP hw hK;have hi:i=n:=hg;subst hi;obtain ⟨f0,f1,f2,f3,f4,f5⟩:=hf it .(k);have e1:(i:Int)-1-(i:Int) = -1:=by lia
  rw[e1]at st;exact wpAny_pyNext_rev_end .(ha) st λh' eb=>#[rfl,I.turned (t':=s.toks) (λb o hb e=>eb b o hb e) f0 f1 f3 f4 f5]
 self:=λ_ _ _ _ _ st h=>wpAny_pyIter_revIter st h
inductive BD (K:Frag)(R:It->Hp->Prop)(vs:List V)(H1:Hp):Prop
 | c:∀ a xs,vs=[.ref a]->SqL K H1 a xs->R (Itv K a xs.length) H1->BD K R vs H1
def iRev (K:Frag)(ta:TA):TI:=λU H R=>ta U H λvs H1=>BD K R vs H1
section
variable {X:Cx}
def Ih {a:Expr}{p pos:Pos}(hg:Gl X "reversed")(hm:X.mg "reversed" = none)(ha:PA X [a] ta)(hs:starEach [a] X.env=[(false,eval a X.env)]:=by rfl):PI X tg (.Call (.Name "reversed" p) [a] [] pos) (iRev X.K ta):=by
 intro Rf s U H R I h;refine Call_ (iu I hg hm boot_reversed (PyProof.Rows.callWith_type1 .(F) hs rfl));obtain ⟨vs,H1,I1,r1,q1⟩:=zq0;obtain ⟨l,xs,e,hq,q⟩:=q1;subst e;cases r1 with
 | cons r rr=>
  cases rr
  cases r
  obtain ⟨its,rv,pl,hz⟩:=I1.list hq;have hl:=rv.length;refine call_reversed_list pl.isList ?_;have I2:Inv X Rf U H1 { s1 with heap:=s1.heap.push (revObj l ((its.toArray.size:Int)-1)) }:=I1.kept (t':=s1.toks) λb o e=>aY _ e;have hr:(s1.heap.push (revObj l ((its.toArray.size:Int)-1))).IsRevIter s1.heap.objs.size l (((xs.length:Nat):Int)-1-((0:Nat):Int)):=by
   refine #[_,cB _ rfl,rfl,?_];have:(its.toArray.size:Int)-1=((xs.length:Nat):Int)-1-((0:Nat):Int):=by
    rw[bT,hl];lia
   rw[this];rfl
  refine wpAny_pyIter_revIter (s:={ s1 with heap:=s1.heap.push (revObj l ((its.toArray.size:Int)-1)) }) hr #[_,[s1.heap.objs.size],_,_,H1,rfl,I2,Ig l s1.heap.objs.size xs.length,hr,λb hb=>?_,q];have e:b=s1.heap.objs.size:=by simpa using hb
  subst e;exact I1.fpOk (aq _) (I1.hok.fresh (aq _))
end
def Ii {K:Frag}{a:Addr}{g:TG}{tb:TS}{D:Ends}{U:St}{H:Hp}(Pv:Nat->St->Hp->Prop)(h0:Pv 0 U H)(hl:∀ i U H,i<=xs.length->Pv i U H->SqL K H a xs)
  (hs:∀ i x U H,xs.reverse[i]?=some x->Pv i U H->g x U H λU2 H2=>tb { D with nx:=Pv (i+1),ct:=Pv (i+1),bk:=D.nx } U2 H2) (hd:∀ U H,Pv xs.length U H->D.nx U H) :
  ∃ W:Nat->Nat->St->Hp->Prop,.(da)/\∀ i m U H,W i m U H->((Itv K a xs.length).stop i H/\D.nx U H)\/((Itv K a xs.length).go i H/\∃ N:St->Hp->Prop,.(u)/\∀ x H',(Itv K a xs.length).yld i H x H'->g x U H' λU2 H2=>tb { D with nx:=N,ct:=N,bk:=D.nx } U2 H2):=by
 refine .(N);obtain ⟨e,pv⟩:=zq0;have hS:=hl i U H .(a) pv;by_cases hi:i<xs.length
 .refine .inr #[#[hi,xs,hS,rfl],Pv (i+1),λU' H' q=>#[m-1,by lia,by lia,q],λx H' y=>?_];obtain ⟨e1,y⟩:=y;subst e1;exact hs i x U _ (y xs hS rfl) pv
 .have:i=xs.length:=by lia
  subst this;exact .inl #[rfl,hd U H pv]
def Ij {k:Key}{u:Value}(h:(cf P w).is k u=true):RelV (kV k) u:=by
 rw[Ff]at h;rcases gL h with ⟨i,t,rfl,rfl⟩|⟨x,t,rfl,rfl⟩
 .exact #[t,rfl]
 .exact #[t,rfl]
section
variable {X:Cx}
def Ik (hc:X.calm=true):cN X (.type "list") (λxs H Q=>∃(p:Addr) (kvs:List (Key×V)),xs=[.ref p]/\H p=some (.dK kvs)/\∀ l,H l=none->Q (.ref l) (upd H l (.lst (kvs.map λkv=>kV kv.1)))):=by
 intro Rf s U H xs us Q I r h;obtain ⟨p,kvs,rfl,hq,q⟩:=h;obtain ⟨u,rfl,rx⟩:=fX r;cases rx
 obtain ⟨hz,hne,vs,rel,o,es,ep,h1,h2,h3,h4,h5,h6⟩:=uW I.hok hq;have hlen:kvs.length=vs.length:=rel.length;refine W.kdl_call (W.kdl_dict (knd:=cf X.prog X.w) (kvs:=vs) (ep:=ep) hne) .(ha) #[o,es,h1,h2,h3,h4,h5,h6] .(a) λh' tk acc c k e hi=>?_;have hv:Vals (kvs.map λkv=>kV kv.1) acc.toList:=by
  obtain ⟨g1,g2⟩:=hi;have key:∀(m:Nat) (kvs:List (Key×V)) (vs:List (Key×Value)) (us:List Value),KV kvs vs->us.length=vs.length->(∀(i:Nat) (v:Value),us[i]?=some v->∃ k x,vs[i]?=some (k,x)/\(cf X.prog X.w).is k v=true)->Vals (kvs.map λkv=>kV kv.1) us:=by
   intro m kvs
   induction kvs with
   | nil=>
    intro vs us r hl _;cases r
    have:us=[]:=og hl;subst this;exact .nil
   | cons kv kvs ih=>
    intro vs us r hl hh;cases r with
    | cons a b=>
     cases us with
     | nil=>cases hl
     | cons v us=>
      refine .cons ?_ (ih _ us b (Nat.succ.inj hl) λi v e=>?_)
      .obtain ⟨k,x,e1,e2⟩:=hh 0 v rfl;cases e1
       have h9:=Ij e2;have a1:kv.1=k:=a.1;rw[<-a1]at h9;exact h9
      .have:=hh (i+1) v (by simpa using e);simpa using this
  refine key 0 kvs vs acc.toList rel (by rw[jy];exact g1) λi v e=>?_;exact g2 i v (by rw[<-Array.getElem?_toList];exact e)
 refine #[.ref s.heap.objs.size,_,I.laid (a:=s.heap.objs.size) (o:=.lst (kvs.map λkv=>kV kv.1)) (t':=tk) k (aq _) #[?_,acc.toList,c,hv,by rw[Array.toArray_toList];exact e],rfl,q _ .(ja)];rw[ai];lia
end
inductive BE (K:Frag)(R:It->Hp->Prop)(x:V)(H1:Hp):Prop
 | c:∀ a,x=.ref a->((∃ xs,SqL K H1 a xs)/\R (Itl K a) H1\/(∃ xs,SqT K H1 a xs)/\R (Itt K a) H1)->BE K R x H1
def iSeq (K:Frag)(tl:TE):TI:=λU H R=>tl U H λx H1=>BE K R x H1
section
variable {X:Cx}{tg:Expr}
def Il (hl:PE X l tl):PI X tg l (iSeq X.K tl):=by
 intro Rf s U H R I h;refine thn (hl Rf s U H _ I h) λv s1 zq0=>?_;obtain ⟨x,H1,I1,r1,a,e,q1⟩:=zq0;subst e;cases r1
 have new:∀ b∈[s1.heap.objs.size],FpOk X Rf H1 b:=λb hb=>by
  rw[bM.mp hb];exact I1.fpOk (aq _) (I1.hok.fresh (aq _))
 rcases q1 with ⟨⟨xs,hq⟩,q⟩|⟨⟨xs,hq⟩,q⟩
 .obtain ⟨its,rv,p,hz⟩:=I1.list hq;exact wpAny_pyIter_list p.isList #[s1.heap.objs.size,[s1.heap.objs.size],_,_,H1,rfl,Inv.kept (t':=s1.toks) I1 (λb o e=>aY _ e),z8 a _,#[_,cB _ rfl,rfl,rfl],new,q]
 .obtain ⟨its,rv,p,hz⟩:=I1.tuple hq;exact wpAny_pyIter_tuple (show s1.heap.IsTuple a its.toArray from p) #[s1.heap.objs.size,[s1.heap.objs.size],_,_,H1,rfl,Inv.kept (t':=s1.toks) I1 (λb o e=>aY _ e),z9 a _,#[_,cB _ rfl,rfl,rfl],new,q]
end
section
variable {prog:Program}{w:World}{A:Around}{E:Value->Shared->Prop}{s:Shared}
def Im {l:Addr}{vs:List Value}{Q:List Value->Shared->Prop}(hl:s.heap.IsTuple l vs.toArray)
  (h:Q vs { s with heap:= .(ba).update s.heap.objs.size (Obj.mapSeq (· ++ vs.toArray)) }) (hsz:vs.length<=sizeLine):wpAny .(i) A (collect (.ref l)) Q E s:=by
 obtain ⟨o,ho,hc,n,hd⟩:=id hl;unfold collect;refine ax (wpAny_runValue (codeAny_builtin entry_proto_collect' ?_));show wpAny _ _ (do again (.builtin "list.__iadd__" #[[<-newList [],.ref l],[]])) _ _ s
 refine ax (wpAny_newList (aM #[Code.quiet_builtin _ .(Aa),codeAny_builtin entry_list_iadd' ?_]));show wpAny _ _ (Builtin.List.listExtendWith .(ca) (.ref l) .(ca)) _ _ { s with heap:=s.heap.push (seqObj "list" (List.toArray []) 0) };unfold Builtin.List.listExtendWith;have there: .(ba).get? l=some o:=aY _ ho;refine ax (wpAny_typeOf (T := "tuple") #[o,there,hc] ?_);have ht:(Value.type "tuple" == Value.type "tuple")=true:=rfl;rw[ak (by rw[ht,Bool.or_true])];refine ax (listItems_at there hd ?_);refine ax (listItems_at (xs:=(List.toArray [])) (n:=0) (cB _ rfl) rfl ?_);rw[ao .(k)];have fits:((List.toArray [])++vs.toArray).size<=sizeLine+1:=by
  simp only[Array.size_append,bT,ie];lia
 refine ax (listUpdate_at (xs:=(List.toArray [])) (n:=0) (cB _ rfl) rfl ?_ (cv _) fits);refine aM ?_;show wpAny .(i) A (load s.heap.objs.size >>= λo=>match o.data with|.seq xs _=>pure xs.toList|_=>unsupported "internal:collect") Q E { s with heap:= .(ba).update s.heap.objs.size (Obj.mapSeq (· ++ vs.toArray)) }
 refine ax (wpAny_load (get?_update_seq (cB _ rfl) _) ?_);show wpAny _ _ (pure (((List.toArray []):Array Value)++vs.toArray).toList) Q E _;have e0:(((List.toArray []):Array Value)++vs.toArray).toList=vs:=by simp
 rw[e0];exact aM h
end
section
variable {prog:Program}{w:World}{A:Around}{E:Value->Shared->Prop}{s:Shared}
def Io:isSubtype (.type "tuple") (.type "set")=pure false:=by rw[isSubtype_type];kernel_rfl
def Ip:isSubtype (.type "tuple") (.type "frozenset")=pure false:=by rw[isSubtype_type];kernel_rfl
abbrev iD (led:Bool):Obj:={ cls:=.type "set",dict:=none,data:=.set (List.toArray []) 0 (.fresh 0 0 led) }
set_option maxRecDepth 100000 in
set_option maxHeartbeats 3200000 in
def Iq {l:Addr}{items:Array Value}{ns:List Int}{Q:Value->Shared->Prop}(hh:A.handled=none)(hl:s.heap.IsTuple l items)(hi:IntsAre items.toList ns)(hb:items.size+1<scanBound)
  (h:∀(h':Heap) (tk:Nat),h'.SetOf (intKind prog w) s.heap.objs.size (λk'=>(firstMet (λi=>ns.getD i 0) items.size).any (· == k')) (firstMet (λi=>ns.getD i 0) items.size).length->
   (∀ b o,b<s.heap.objs.size->s.heap.get? b=some o->h'.get? b=some o)->Q (.ref s.heap.objs.size) { s with heap:=h',toks:=tk }) :
  wpAny .(i) A (call (.type "set") [.ref l]) Q E s:=by
 obtain ⟨c,tl,hmro⟩:=F.called_set.mro;have hmade:=F.called_set.made;have hsub:=F.called_set.sub;refine wpAny_call (codeAny_of_tree ?_);show wpAny _ _ (callAny (.type "set") _) _ _ _;refine aM #[Code.quiet_builtin _ .(Aa),codeAny_builtin F.entry_type_call ?_];rw[Around.under_plain (weight_type_call_type "set" [.ref l] []) rfl];have h1:=F.called_set.notType;have h2:=F.called_set.canCreate;have hct:=F.typeCall_set_1 (.ref l)
 repeat (any_goals (first|assumption|wp_step))
 refine codeAny_mono (code_set_new_1 (.ref l) (E:=E) (Q₁:=λobj s₁=>∃ led:Bool,obj=.ref s.heap.objs.size/\s₁={ s with heap:=s.heap.push (iD led) }) λled=>#[led,rfl,rfl]) λr s₁ hr=>?_;cases r with
 | error e=>exact hr
 | ok fl=>
  cases fl with
  | ret obj=>
   obtain ⟨led,rfl,rfl⟩:=hr;have hS:(s.heap.push (iD led)).get? s.heap.objs.size=some (iD led):=cB _ rfl;have hT:Shared.TypeIs { s with heap:=s.heap.push (iD led) } .(ca) "set":=#[_,hS,rfl];have hli:=F.called_set.init.lookup;have hbi:=F.called_set.init.bind .(ca)
   repeat (any_goals (first|assumption|wp_step))
   refine codeAny_mono (codeAny_call_builtin (R:=wants (λr s₂=>r=.none/\∃ h' tk,s₂={ s with heap:=h',toks:=tk }/\
     h'.SetOf (intKind prog w) s.heap.objs.size (λk'=>(firstMet (λi=>ns.getD i 0) items.size).any (· == k')) (firstMet (λi=>ns.getD i 0) items.size).length/\
     (∀ b o,b<s.heap.objs.size->s.heap.get? b=some o->h'.get? b=some o)) E) F.called_set.init.plain F.entry_set_init (check_set_init_1 hT ?_)) λr₂ s₂ hr₂=>?_
   .obtain ⟨ol,hol,hcl,nl,hdl⟩:=hl;obtain ⟨ocls,odict,odata,oslots⟩:=ol;simp only at hcl hdl;subst hcl;subst hdl;have there:(s.heap.push (iD led)).get? l=some { cls:=.type "tuple",dict:=odict,data:=.seq items nl,slots:=oslots }:=aY _ hol;have hsls:=Io;have hslf:=Ip;have hne:(Value.type "tuple" == Value.type "dict")=false:=by decide
    have hl1:(s.heap.push (iD led)).IsTuple l items:=#[_,there,rfl,nl,rfl];unfold Builtin.«set.__init__» noKeywords Builtin.Frozenset.updateFrom;generalize hPI:pyIter=PI
    wp_walk
    subst hPI;refine wpAny_pyIter_tuple hl1 ?_;refine ax (wpAny_runValue ?_);have hlS:l<s.heap.objs.size:=aQ hol;have h3:A.in1.in1.in1.handled=none:=by simp[hh]
    have hsz:(s.heap.push (iD led)).objs.size=s.heap.objs.size+1:=jB ..;have hneI:l≠(s.heap.push (iD led)).objs.size:=by
     rw[hsz];exact bK (Nat.lt_succ_of_lt hlS)
    have hSf:s.heap.objs.size∉[(s.heap.push (iD led)).objs.size,l]:=by
     rw[hsz];simp only[aU,cJ,or_false,not_or];exact #[bK (kh _),jz hlS]
    have hval:∀(i:Nat) (v:Value),items[i]?=some v->∃ t,v=.int ((λi=>ns.getD i 0) i) t:=λi v hv=>
     IntsAre.int_at hi i v (by rw[Array.getElem?_toList];exact hv)
    refine codeAny_set_update_loopS ((Walks.tuple h3 _ l hneI items).toS) s.heap.objs.size
     hSf (λi=>ns.getD i 0) hval hb (items.size-0) 0 _ .(a) (cv _)
     #[#[_,cB _ rfl,rfl,rfl],(hl1.push _)] ?hS0 ?hR
    case hS0=>
     exact SetOf_congr ((setObjOf_fresh (knd:=intKind prog w) led).setOf (aY _ hS) (by unfold scanBound;lia)) (λ_=>rfl) rfl
    case hR=>
     intro s' hm hS';obtain ⟨h',g',d',tk',os'⟩:=s';have eg:g'=s.gens:=hm.gens;have ed:d'=s.drawn:=hm.drawn;have eo:os'=s.os:=hm.os;subst eg;subst ed;subst eo;show wpAny _ _ _ _ _ _;refine aM ?_;show wpAny _ _ (ret Value.none) _ _ _;refine aM #[rfl,h',tk',rfl,hS',λb o hb e=>?_];refine hm.heap b o ?_ (aY _ (aY _ e));rw[hsz];simp only[aU,cJ,or_false,not_or];exact #[bK hb,bK (Nat.lt_succ_of_lt hb)]
   .cases r₂ with
    | error e=>exact hr₂
    | ok fl₂=>
     cases fl₂ with
     | ret r=>
      obtain ⟨rfl,h',tk,rfl,hS',hk'⟩:=hr₂
      repeat (any_goals (first|assumption|wp_step))
      exact h _ _ hS' hk'
     | _=>exact hr₂.elim
  | _=>exact hr.elim
end
section
variable {X:Cx}
inductive BF (K:Frag)(xs:List V)(H:Hp)(Q:VK):Prop
 | c:∀(p:Addr) (ns:List Int),xs=[.ref p]->SqT K H p (ns.map V.int)->ns.length<=1000->(∀ l,H l=none->Q (.ref l) (upd H l (.set (λk=>(metI ns).any (· == k)) (metI ns).length)))->BF K xs H Q
def Ir (hc:X.calm=true):cN X (.type "set") (BF X.K):=by
 intro Rf s U H xs us Q I r h;obtain ⟨p,ns,rfl,hq,hz,q⟩:=h;obtain ⟨u,rfl,rx⟩:=fX r;cases rx
 obtain ⟨its,rv,pl,_⟩:=I.tuple hq;have hl:=rv.length;rw[ai]at hl;refine Iq (ns:=ns) .(ha) (show s.heap.IsTuple p its.toArray from pl) (by simpa using pe rv) (by unfold scanBound;simp only[bT];lia) λh' tk hS hk=>?_;have e:its.toArray.size=ns.length:=by simp only[bT];lia
 rw[e]at hS;exact #[.ref s.heap.objs.size,_,I.laid (a:=s.heap.objs.size) (o:=.set _ _) (t':=tk) (λb o eb=>hk b o (aQ eb) eb) (aq _) hS,rfl,q _ .(ja)]
def vx:cN X (.builtin "isinstance") (λxs H Q=>∃ a p,xs=[.ref a,.ref p]/\H p=some (.tup [.ty "list",.ty "tuple"])/\((∃ ys,H a=some (.lst ys))\/∃ ys,H a=some (.tup ys))/\Q (.bl true) H):=by
 intro Rf s U H xs us Q I r h;obtain ⟨a,p,rfl,hp,ha,q⟩:=h;obtain ⟨u,w',rfl,r1,r2⟩:=gy r;cases r1
 cases r2
 obtain ⟨_,its,rv,⟨oc,od,odt,osl⟩,h1,h2,n,h3⟩:=(show bJ X.prog X.w H s.heap p (.tup [.ty "list",.ty "tuple"]) from I.hok p _ hp);have h2:oc=.type "tuple":=h2;have h3:odt=.seq its.toArray n:=h3;subst h2 h3;obtain ⟨c1,c2,rfl,e1,e2⟩:=gy rv;have e1:c1=.type "list":=e1;have e2:c2=.type "tuple":=e2;subst e1 e2;have fin:∀ tk,EP X Rf U Q (Value.bool true) { s with toks:=tk }:=λtk=>#[.bl true,H,I.tok tk,rfl,q];rcases ha with ⟨ys,ha⟩|⟨ys,ha⟩
 .obtain ⟨_,_,n,_,g1⟩:=(show bJ X.prog X.w H s.heap a (.lst ys) from I.hok a _ ha);exact W.kia_tup W.kitx_list I.kIn #[_,g1,rfl] h1 (b:=true) (by rfl) nofun fin
 .obtain ⟨_,_,_,o,g1,g2,_⟩:=(show bJ X.prog X.w H s.heap a (.tup ys) from I.hok a _ ha);exact W.kia_tup W.kitx_tuple I.kIn #[o,g1,g2] h1 (b:=true) (by rfl) nofun fin
end
end L2
namespace HT
open PySem PySem.Spec PyProof.Rows
section
variable {prog:Program}{w:World}{A:Around}{E:Value->Shared->Prop}{s:Shared}
def getItem_tuple_all {t sl:Addr}{items:Array Value}{vl vu:Value}{lo hi:Option Int}{Q:Value->Shared->Prop}(ht:IsTup s.heap t items)(hs:s.heap.IsSliceOf sl vl vu .none)(pl:IsPart vl lo)(pu:IsPart vu hi)
  (hw:sIx items.size 0 lo=0/\sIx items.size items.size hi=items.size) (h:Q (.ref t) s):wpAny .(i) A (getItem (.ref t) (.ref sl)) Q E s:=by
 obtain ⟨os,hos,hcs,hds⟩:=id hs;have hTs:s.TypeIs (.ref sl) "slice":=#[os,hos,hcs];unfold getItem
 try with_reducible refine wpAny_holding ?_
 first|refine ax (aM ?_)|skip
 refine ax (wpAny_sequenceKey ht.typeIs .(q) ?_);refine ax (wpAny_callSpecial?_slot (name:=Str.ofString "__getitem__") ht.typeIs PyProof.Rows.slot_tuple_getitem (wpAny_call_entry PyProof.Rows.slot_tuple_getitem ht.typeIs entry_tuple_getitem ?_ (args_tuple_getitem _ _)));show wpAny _ _ (Builtin.Tuple.tupleItemsOf (.ref t) >>= _) _ _ s;refine ax (tupleItemsOf_ ht ?_);refine ax (wpAny_typeOf hTs ?_);rw[ak .(q)];refine ax (AJ hs pl pu ?_);have yes:(((sIx items.size 0 lo:Nat):Int)==0&&(1:Int)==1&& .(W)==items.size)=true:=by
  rw[hw.1,hw.2];simp
 show wpAny _ _ (if (((sIx items.size 0 lo:Nat):Int)==0&&(1:Int)==1&& .(W)==items.size)=true then _ else _) _ _ s
 rw[ak yes];refine ax ?_;unfold Builtin.Tuple.tupleIsExact;refine ax (wpAny_typeOf ht.typeIs ?_);refine aM ?_;rw[ak .(q)];exact ax (wpAny_rule (aM #[_,rfl,aM h]))
end
end HT
namespace L2
open PySem PySem.Spec PyProof.Rows
section
variable {X:Cx}
inductive rSlX (K:Frag)(x:V)(lo:Option Int)(hi:Option Int)(H:Hp)(Q:VK):Prop
 | c:∀ a xs,x=.ref a->SqT K H a xs->((HT.sIx xs.length 0 lo=0/\HT.sIx xs.length xs.length hi=xs.length)->Q (.ref a) H)->(¬ (HT.sIx xs.length 0 lo=0/\HT.sIx xs.length xs.length hi=xs.length)->∀ p,H p=none->Q (.ref p) (upd H p (.tup (cutV xs lo hi))))->rSlX K x lo hi H Q
def Iu:SlR X (rSlX X.K):=by
 intro Rf s U H x v vl vu lo hi sl Q I rx hs pl pu h;obtain ⟨a,xs,e,hx,q1,q2⟩:=h;by_cases hw:HT.sIx xs.length 0 lo=0/\HT.sIx xs.length xs.length hi=xs.length
 .subst e;cases rx
  obtain ⟨its,r,ht,hz⟩:=I.tuple hx;have hlen:its.toArray.size=xs.length:=by rw[bT];exact r.length.symm
  refine #["tuple",_,PyProof.Rows.slot_tuple_getitem.lookup,ht.typeIs,?_];exact HT.getItem_tuple_all ht hs pl pu (by rw[hlen];exact hw) #[.ref a,H,I,rfl,q1 hw]
 .exact Gi Rf s U H x v vl vu lo hi sl Q I rx hs pl pu #[a,xs,e,hx,hw,q2 hw]
def lb {K:Frag}(h:X.K=K:=by rfl):SlR X (rSlX K):=by
 subst h;exact Iu
inductive vy (K:Frag)(x:V)(y:V)(H:Hp)(Q:VK):Prop
 | c:∀ a b xs ys,x=.ref a->y=.ref b->SqT K H a xs->SqT K H b ys->ys≠[]->xs.length+ys.length<=sizeLine->(xs=[]->Q (.ref b) H)->(xs≠[]->∀ p,H p=none->Q (.ref p) (upd H p (.tup (xs++ys))))->vy K x y H Q
def vz:OpR X (binaryOp .Add) (vy X.K):=by
 intro Rf s U H x y v u Q I rx ry h;obtain ⟨a,b,xs,ys,e1,e2,ha,hb,hy,hz,q1,q2⟩:=h;by_cases hx:xs=[]
 .subst e1 e2;cases rx
  cases ry
  obtain ⟨its,r1,p1,_⟩:=I.tuple ha;obtain ⟨its2,r2,p2,_⟩:=I.tuple hb;obtain ⟨⟨cls,dd,data,sl⟩,ho,hc,n,hd⟩:=id p1;obtain ⟨⟨cls2,dd2,data2,sl2⟩,ho2,hc2,n2,hd2⟩:=id p2;simp only at hc hd hc2 hd2;subst hc hd hc2 hd2;have hv:its=[]:=r1.nil_iff.mpr hx;exact concat_meets #[_,ho,rfl] #[_,ho2,rfl] noFill_tuple_add seq_tuple_add PySem.F.slot_tuple_add PySem.F.entry_tuple_add (PySem.F.args_tuple_add_2 _ _)
   (tuple_addW0 a b its.toArray its2.toArray n n2 dd dd2 sl sl2 (by simp[hv])) #[ho,ho2,.ref b,H,I,rfl,q1 hx]
 .exact oV Rf s U H x y v u Q I rx ry #[a,b,xs,ys,e1,e2,ha,hb,hx,hz,λz=>absurd z hy,λ_=>q2 hx]
end
end L2
namespace L2
open PySem PySem.Spec PyProof.Rows PySem.SeqAt
def hasO (o:Option Int)(v:V):Prop:=match o with
 | none=>v=.non
 | some i=>v=.int i
instance:Rep (Option Int) where
 dec:=inferInstance
 depth:=0
 has:=λ_ _ o v=>hasO o v
 mono:=λ_ h=>h
 inj:=λ{_ _ _ _ _ a b v} _ h1 h2=>by
  cases a<;>cases b
  .rfl
  .have h1:v=.non:=h1;have h2:v=.int _:=h2;rw[h1]at h2;cases h2
  .have h1:v=.int _:=h1;have h2:v=.non:=h2;rw[h1]at h2;cases h2
  .have h1:v=.int _:=h1;have h2:v=.int _:=h2;rw[V.int.inj (h1.symm.trans h2)]
 rc:=λ{_ _ _ _ _ _ a b x y u v} _ _ h1 h2 r1 r2=>by
  cases a with
  | none=>
   have h1:x=.non:=h1;subst h1;obtain rfl:u=.none:=r1;cases b with
   | none=>
    have h2:y=.non:=h2;subst h2;obtain rfl:v=.none:=r2;exact RcAt.none_none
   | some j=>
    have h2:y=.int j:=h2;subst h2;obtain ⟨t,rfl⟩:=r2;exact RcAt.none_int _ _
  | some i=>
   have h1:x=.int i:=h1;subst h1;obtain ⟨t,rfl⟩:=r1;cases b with
   | none=>
    have h2:y=.non:=h2;subst h2;obtain rfl:v=.none:=r2;exact RcAt.int_none _ _
   | some j=>
    have h2:y=.int j:=h2;subst h2;obtain ⟨t',rfl⟩:=r2;have e:decide (some i=some j)=(i==j):=by
     by_cases z:i=j
     .subst z;simp
     .rw[bx (λq=>z (aJ q)),beq_eq_false_iff_ne.mpr z]
    have:=RcAt.int_int (A:=‹Around›) (s:=‹Shared›) i t j t';rw[<-e]at this;exact this
 rn:=λ{_ _ _ _ _ _ a b x y u v} _ _ h1 h2 r1 r2=>by
  cases a with
  | none=>
   have h1:x=.non:=h1;subst h1;obtain rfl:u=.none:=r1;cases b with
   | none=>
    have h2:y=.non:=h2;subst h2;obtain rfl:v=.none:=r2;exact RcNeAt.none_none
   | some j=>
    have h2:y=.int j:=h2;subst h2;obtain ⟨t,rfl⟩:=r2;exact RcNeAt.none_int _ _
  | some i=>
   have h1:x=.int i:=h1;subst h1;obtain ⟨t,rfl⟩:=r1;cases b with
   | none=>
    have h2:y=.non:=h2;subst h2;obtain rfl:v=.none:=r2;exact RcNeAt.int_none _ _
   | some j=>
    have h2:y=.int j:=h2;subst h2;obtain ⟨t',rfl⟩:=r2;have e:decide (some i=some j)=(i==j):=by
     by_cases z:i=j
     .subst z;simp
     .rw[bx (λq=>z (aJ q)),beq_eq_false_iff_ne.mpr z]
    have:=RcNeAt.int_int (A:=‹Around›) (s:=‹Shared›) i t j t';rw[<-e]at this;exact this
 eq:=λ{_ _ _ _ _ _ a b x y u v} _ _ h1 h2 r1 r2=>by
  cases a with
  | none=>
   have h1:x=.non:=h1;subst h1;obtain rfl:u=.none:=r1;cases b with
   | none=>
    have h2:y=.non:=h2;subst h2;obtain rfl:v=.none:=r2;exact EqAt.same _
   | some j=>
    have h2:y=.int j:=h2;subst h2;obtain ⟨t,rfl⟩:=r2;exact EqAt.none_int _ _
  | some i=>
   have h1:x=.int i:=h1;subst h1;obtain ⟨t,rfl⟩:=r1;cases b with
   | none=>
    have h2:y=.non:=h2;subst h2;obtain rfl:v=.none:=r2;exact EqAt.int_none _ _
   | some j=>
    have h2:y=.int j:=h2;subst h2;obtain ⟨t',rfl⟩:=r2;have e:decide (some i=some j)=(i==j):=by
     by_cases z:i=j
     .subst z;simp
     .rw[bx (λq=>z (aJ q)),beq_eq_false_iff_ne.mpr z]
    have:=EqAt.int_int (A:=‹Around›) (s:=‹Shared›) i t j t';rw[<-e]at this;exact this
structure Tup (α:Type) where
 l:List α
def Tup.ext' {α:Type}{a b:Tup α}(h:a.l=b.l):a=b:=by
 cases a
 cases b
 cases h
 rfl
instance {α:Type} [DecidableEq α]:DecidableEq (Tup α):=λa b=>if h:a.l=b.l then .isTrue (Tup.ext' h) else .isFalse λz=>h (by rw[z])
inductive hasT {α:Type}[Rep α](K:Frag)(H:Hp)(t:Tup α)(v:V):Prop
 | c:∀ a xs,v=.ref a->SqT K H a xs->aD K H t.l xs->hasT K H t v
section
variable {α:Type}[r:Rep α]{X:Cx}{Rf:List (Addr×Obj)}{U:St}{H:Hp}{s:Shared}{A:Around}{as bs:Tup α}{x y:V}{u v:Value}
def BG (I:Inv X Rf U H s)(h1:hasT X.K H as x)(h2:hasT X.K H bs x):as=bs:=by
 obtain ⟨a,xs,rfl,q1,h1⟩:=h1;obtain ⟨b,ys,e,q2,h2⟩:=h2;cases e
 rw[I.tuple_inj q2 q1]at h2;exact Tup.ext' (h1.inj I h2)
def BH {as bs:List α}(n m:Nat)(hn:as.length=n)(hm:bs.length=m):((List.range (min n m)).all (λj=>decide (as[j]?=bs[j]?))&&n==m)=decide (as=bs):=by
 by_cases hl:as.length=bs.length
 .have e:=vh as bs hl;have z:min n m=as.length:=by lia
  rw[z,e,beq_iff_eq.mpr (by lia:n=m),Bool.and_true]
 .rw[bx (λz=>hl (by rw[z])),beq_eq_false_iff_ne.mpr (by lia:n≠m),jE]
def BI:decide (as=bs)=decide (as.l=bs.l):=by
 by_cases h:as.l=bs.l
 .rw[aV h,aV (Tup.ext' h)]
 .rw[bx h,bx (λz=>h (by rw[z]))]
def BJ (I:Inv X Rf U H s)(hu:A.units+(Rep.depth α+1)<cLine)(h1:hasT X.K H as x)(h2:hasT X.K H bs y)(r1:RelV x u)(r2:RelV y v):RcAt A s u v (decide (as=bs)):=by
 obtain ⟨a,xs,rfl,q1,h1⟩:=h1;obtain ⟨b,ys,rfl,q2,h2⟩:=h2;cases r1
 cases r2
 obtain ⟨us,ru,pu,_⟩:=I.tuple q1;obtain ⟨vs,rv,pv,_⟩:=I.tuple q2;have l1:=ru.length;have l2:=rv.length;have m1:=h1.length;have m2:=h2.length;have hin:A.in1.units+Rep.depth α<cLine:=gJ (ko kW _) .(a);have:=RcAt.tuples (A:=A) (s:=s) (l:=a) (b:=b) (items:=us.toArray) (items2:=vs.toArray) (e:=λj=>decide (as.l[j]?=bs.l[j]?)) pu pv .(a) (oZ I hin h1 h2 ru rv);rw[BH (as:=as.l) (bs:=bs.l) us.toArray.size vs.toArray.size .(T) .(T),<-BI]at this;exact this
def Iv (I:Inv X Rf U H s)(hu:A.units+(Rep.depth α+1)<cLine)(h1:hasT X.K H as x)(h2:hasT X.K H bs y)(r1:RelV x u)(r2:RelV y v):RcNeAt A s u v (!decide (as=bs)):=by
 obtain ⟨a,xs,rfl,q1,h1⟩:=h1;obtain ⟨b,ys,rfl,q2,h2⟩:=h2;cases r1
 cases r2
 obtain ⟨us,ru,pu,_⟩:=I.tuple q1;obtain ⟨vs,rv,pv,_⟩:=I.tuple q2;have l1:=ru.length;have l2:=rv.length;have m1:=h1.length;have m2:=h2.length;have hin:A.in1.units+Rep.depth α<cLine:=gJ (ko kW _) .(a);have:=RcNeAt.tuples (A:=A) (s:=s) (l:=a) (b:=b) (items:=us.toArray) (items2:=vs.toArray) (e:=λj=>decide (as.l[j]?=bs.l[j]?)) pu pv .(a) (oZ I hin h1 h2 ru rv);rw[BH (as:=as.l) (bs:=bs.l) us.toArray.size vs.toArray.size .(T) .(T),<-BI]at this;exact this
def Iw (I:Inv X Rf U H s)(hu:A.units+(Rep.depth α+1)<cLine)(h1:hasT X.K H as x)(h2:hasT X.K H bs y)(r1:RelV x u)(r2:RelV y v):EqAt A s u v (decide (as=bs)):=by
 have rc:=BJ (A:=A) I hu h1 h2 r1 r2;have h1':=id h1;have h2':=id h2;obtain ⟨a,xs,rfl,q1,h1⟩:=h1;obtain ⟨b,ys,rfl,q2,h2⟩:=h2;cases r1
 cases r2
 by_cases hab:a=b
 .subst hab;rw[aV (BG I h1' h2')];exact EqAt.same _
 .exact EqAt.of_refs hab rc
end
instance {α:Type} [Rep α]:Rep (Tup α) where
 dec:=inferInstance
 depth:=Rep.depth α+1
 has:=hasT
 mono:=λe ⟨a,xs,h1,h2,h3⟩=>#[a,xs,h1,h2.ext e,h3.mono e]
 inj:=λI h1 h2=>BG I h1 h2
 rc:=λI hu h1 h2 r1 r2=>BJ I hu h1 h2 r1 r2
 rn:=λI hu h1 h2 r1 r2=>Iv I hu h1 h2 r1 r2
 eq:=λI hu h1 h2 r1 r2=>Iw I hu h1 h2 r1 r2
end L2
namespace L2
open PySem PySem.Spec PyProof.Rows
section
variable {X:Cx}{K:Frag}
def gQ (h:X.K=K:=by rfl):cN X (.type "tuple") (λxs H Q=>∃ p ys,xs=[V.ref p]/\((SqL K H p ys/\∀ l,H l=none->Q (.ref l) (upd H l (.tup ys)))\/(SqT K H p ys/\Q (.ref p) H))):=by
 subst h;exact Gy
end
section
variable {X:Cx}{K:Frag}{tg:Expr}
def Iy (hl:PE X l tl)(h:X.K=K:=by rfl):PI X tg l (iTup K tl):=by
 subst h;exact gx hl
end
def ItF (hi:Int)(n:Nat):It:=#[λi _=>i<n,λi H x H'=>H'=H/\x=.int (hi-i),λi _=>n<=i]
def Iz {K:Frag}(it:Addr)(hi:Int)(n:Nat):Turn P w K tg (ItF hi n) [it] it (λi h=>IsRangeIter h it (hi+(i:Nat)*(-1)) ((n:Int)-(i:Nat)) (-1)) where
 mem:=by simp
 obj:=λi h st b hb=>by
  have e:b=it:=by simpa using hb
  subst e;exact #[_,st,λv z=>by
   have z':Data.fields _=Data.cell v:=z;cases z']
 keep:=λi h h' st k=>k it .(k) _ st
 item:=by
  intro X hP hw hK hc i Rf s U H E I hf st hg;subst hP hw hK;obtain ⟨f0,f1,f2,f3,f4,f5⟩:=hf it .(k);have W:=Walks.range (prog:=X.prog) (w:=X.w) .(ha) it hi (-1) n;refine W.item i s _ _ hg st λv h' tk hv st' kk=>?_;obtain ⟨t,rfl⟩:=hv;have I1:Inv X Rf U H { s with heap:=h',toks:=tk }:=I.turned (λb o hb e=>kk b o (by simpa using hb) e) f0 f1 f3 f4 f5;refine #[_,rfl,mv (s:={ s with heap:=h',toks:=tk }) (n := "range_iterator") st' rfl rfl .(q) #[.int (hi-i),H,I1,#[t,?_],.(pa),st',λb hb=>(hf b hb).1]];rw[show hi+((i:Nat):Int)*(-1)=hi-i by lia]
 done:=by
  intro X hP hw hK hc i Rf s U H E I hf st hg;subst hP hw hK;obtain ⟨f0,f1,f2,f3,f4,f5⟩:=hf it .(k);exact wpAny_pyNext_range_end .(ha) st (by have:n<=i:=hg;lia) λh' eb=>#[rfl,I.turned (t':=s.toks) (λb o hb e=>eb b o hb e) f0 f1 f3 f4 f5]
 self:=λ_ _ _ _ _ st h=>wpAny_pyIter_rangeiter st h
def BK (a b:Int):Builtin.Range.rangeSize a b (-1)=if a>b then a-b else 0:=by
 unfold Builtin.Range.rangeSize;rw[ao .(q)];split
 .rw[show -(-1:Int)=1 from rfl,Int.ediv_one];lia
 .rfl
def IA {a b:Int}(ha:-(2^62)<=a)(ha':a<2^62)(hb:-(2^62)<=b)(hb':b<2^62):Builtin.Range.small a b (-1)=true:=by
 unfold Builtin.Range.small;rw[BK];simp only[Builtin.Range.rangeFitsLong,eV,oa,decide_eq_true_eq,beq_iff_eq,show ¬ (-1:Int)>0 by decide,if_false];split<;>lia
section
variable {X:Cx}{tg:Expr}
def IB {R:It->Hp->Prop}{E:Value->Shared->Prop}{hi lo:Int}{t u v:Tok}{tk:Nat}(I:Inv X Rf U H s)(h1:-(2^62)<=hi)(h2:hi<2^62)(h3:-(2^62)<=lo)(h4:lo<2^62)
  (q:R (ItF hi (hi-lo).toNat) H):wpAny .(d) X.A (pyIter .(ca)) (PIE X Rf U tg R) E { s with heap:=s.heap.push { cls:=.type "range",data:=.fields (List.toArray [.int hi t,.int lo u,.int (-1) v]) },toks:=tk }:=by
 refine wpAny_pyIter_range (IsRange.new ..) (IA h1 h2 h3 h4) ?_;have I1:Inv X Rf U H { s with heap:=s.heap.push { cls:=.type "range",data:=.fields (List.toArray [.int hi t,.int lo u,.int (-1) v]) },toks:=tk }:=I.kept λb o e=>aY _ e;refine #[(s.heap.push { cls:=.type "range",data:=.fields (List.toArray [.int hi t,.int lo u,.int (-1) v]) }).objs.size,[(s.heap.push { cls:=.type "range",data:=.fields (List.toArray [.int hi t,.int lo u,.int (-1) v]) }).objs.size],_,_,H,rfl,
  I1.kept (t':=tk) λb o e=>aY _ e,Iz _ hi (hi-lo).toNat,?_,λb hb=>?_,q]
 .have e1:hi+((0:Nat):Int)*(-1)=hi:=by simp
  have e2:(((hi-lo).toNat:Nat):Int)-((0:Nat):Int)=Builtin.Range.rangeSize hi lo (-1):=by rw[BK];split<;>lia
  show IsRangeIter _ _ (hi+((0:Nat):Int)*(-1)) ((((hi-lo).toNat:Nat):Int)-((0:Nat):Int)) (-1);rw[e1,e2];exact cB _ rfl
 .have e:b=(s.heap.push { cls:=.type "range",data:=.fields (List.toArray [.int hi t,.int lo u,.int (-1) v]) }).objs.size:=by simpa using hb
  subst e;exact I1.fpOk (aq _) (I1.hok.fresh (aq _))
inductive BL (R:It->Hp->Prop)(vs:List V)(H1:Hp):Prop
 | c:∀(i j:Int),vs=[.int i,.int j,.int (-1)]->(-(2^62)<=i/\i<2^62/\-(2^62)<=j/\j<2^62)->R (ItF i (i-j).toNat) H1->BL R vs H1
def IC (ta:TA):TI:=λU H R=>ta U H λvs H1=>BL R vs H1
def ID {a b c:Expr}{p pos:Pos}(hg:Gl X "range")(hm:X.mg "range" = none)(ha:PA X [a,b,c] ta)(hs:starEach [a,b,c] X.env=[(false,eval a X.env),(false,eval b X.env),(false,eval c X.env)]:=by rfl)(hs2:starEach [b,c] X.env=[(false,eval b X.env),(false,eval c X.env)]:=by rfl) :
  PI X tg (.Call (.Name "range" p) [a,b,c] [] pos) (IC ta):=by
 intro Rf s U H R I h;refine Call_ (iu I hg hm boot_range (PyProof.Rows.callWith_type1 .(F) (by rw[hs,hs2]) (by rw[hs2];rfl)));obtain ⟨vs,H1,I1,r1,q1⟩:=zq0;obtain ⟨i,j,e,⟨q1,q2,q3,q4⟩,q⟩:=q1;subst e;cases r1 with
 | cons r rr=>
  cases rr with
  | cons r' rr=>
   cases rr with
   | cons r2 rr=>
    cases rr
    obtain ⟨t,rfl⟩:=r;obtain ⟨t',rfl⟩:=r';obtain ⟨t2,rfl⟩:=r2;exact call_range_3 .(q) (IB I1 q1 q2 q3 q4 q) (av (PyProof.noPylong_small .(q)))
end
def IE {hi:Int}{n:Nat}{g:TG}{tb:TS}{D:Ends}{U:St}{H:Hp}(Pv:Nat->St->Hp->Prop)(h0:Pv 0 U H)
  (hs:∀ i U H,i<n->Pv i U H->g (.int (hi-i)) U H λU2 H2=>tb { D with nx:=Pv (i+1),ct:=Pv (i+1),bk:=D.nx } U2 H2) (hd:∀ U H,Pv n U H->D.nx U H) :
  ∃ W:Nat->Nat->St->Hp->Prop,.(da)/\∀ i m U H,W i m U H->
   ((ItF hi n).stop i H/\D.nx U H)\/((ItF hi n).go i H/\∃ N:St->Hp->Prop,.(u)/\∀ x H',(ItF hi n).yld i H x H'->g x U H' λU2 H2=>tb { D with nx:=N,ct:=N,bk:=D.nx } U2 H2):=by
 refine #[λi m U H=>m=n-i/\i<=n/\Pv i U H,#[n,by simp,cv _,h0],?_];rintro i m U H ⟨rfl,hi,p⟩;by_cases hlt:i<n
 .refine .inr #[hlt,Pv (i+1),λU' H' p'=>#[n-(i+1),by lia,rfl,hlt,p'],λx H' y=>?_];obtain ⟨e,y⟩:=y;subst e y;exact hs i U _ hlt p
 .have e:i=n:=by lia
  subst e;exact .inl #[aq _,hd U H p]
structure vA (scope:Scope)(ps caps:List Str):Prop where
 kind:scope.kind=.function
 co:scope.isCoroutine=false
 gen:scope.isGenerator=false
 nocell:∀ x∈scope.names,x.2≠.cell
 par:∀ x∈ps,scope.names.lookup x=some .local
 cap:∀ x∈caps,scope.names.lookup x=some .free
 nd:(ps++caps).Nodup
def je (P:Program)(w:World)(K:Frag)(mg:Str->Option Value)(base:Heap)(N:List Str)(qual:Str)(scope:Scope)(f:Addr)(cd:Value)(cl:List (Str×Addr))(A:Around)(outer:List Env)(s:Shared)(H:Hp):Cx where
 prog:=P
 w:=w
 K:=K
 mg:=mg
 base:=base
 A:=A.deeper (W.envX qual scope s.heap.objs.size f cd cl)
 N:=N
 s₀:=s
 H₀:=H
 env:=W.envX qual scope s.heap.objs.size f cd cl
 outer:=outer
 stack:=W.envX qual scope s.heap.objs.size f cd cl::outer
 ex:=[]
 calm:=true
 fn:=λ_=>false
 pn:=[]
 xe:=λ_ _=>False
def mI (c:Addr)(q:Str):Heap->Prop:=λh=>h.CodeRec (.ref c) q
def jf (H:Hp)(c:Addr)(q:Str):Prop:=H c=some (.ext (mI c q))
def IF (h1 h2:Heap)(x:mI c q h1)(k:∀ o,h1.get? c=some o->h2.get? c=some o):mI c q h2:=by
 obtain ⟨c',o,vs,t,e,ho,r⟩:=x;cases e
 exact #[c,o,vs,t,rfl,k o ho,r]
def jf.rec {w:World}{h:Heap}{c:Addr}(x:jf H c q)(ok:HOk P w H h):h.CodeRec (.ref c) q:=(ok c _ x).1
def BM {x:Str}{u:Value}:∀{ps:List Str} {us:List Value} {i:Nat},ps.Nodup->ps[i]?=some x->us[i]?=some u->(ps.zip us).reverse.lookup x=some u
 | [],_,_,_,e,_=>by simp at e
 | _::_,[],_,_,_,e=>by simp at e
 | p::ps,v::us,0,hn,e1,e2=>by
  have e1:p=x:=by simpa using e1
  have e2:v=u:=by simpa using e2
  subst e1 e2;rw[uy,kz,List.lookup_append];have z:(ps.zip us).reverse.lookup p=none:=by
   rw[List.lookup_eq_none_iff];intro y hy;have:=l0 (kC.mp hy);simp only[beq_eq_false_iff_ne,ne_eq,bne_iff_ne];intro q;rw[dD]at hn
   first
    | exact hn.1 (q ▸ this.1)
    | (rw[q]at hn;exact hn.1 this.1)
  rw[z];simp
 | p::ps,v::us,i+1,hn,e1,e2=>by
  rw[dD]at hn;have ih:=BM (ps:=ps) (us:=us) (i:=i) hn.2 (by simpa using e1) (by simpa using e2);rw[uy,kz,List.lookup_append,ih];rfl
inductive jU (n:Nat)(tb:TE)(vcs:List V)(c:Addr)(q:Str)(vs:List V)(H:Hp)(Q:VK)(w_1:XK):Prop
 | c:vs.length=n->jf H c q->tb (vs.map some++vcs.map some) H Q->jU n tb vcs c q vs H Q w_1
def BN {K:Frag}{base:Heap}{k:Nat}{f c:Addr}{name qual:Str}{params:Arguments}{body:Expr}{cl:List (Str×Addr)}{pm ctv:Value}{vcs:List V}
  (S:vA scope ps caps) (hf:base.get? f=some (W.kla_obj name qual params body scope cl pm c ctv)) (hlen:vcs.length=caps.length)
  (hcap:∀(j:Nat) (x:Str) (v:V),caps[j]?=some x->vcs[j]?=some v->∃ a u,cl.lookup x=some a/\base.IsCell a (some u)/\RelV v u)
  (hcell:∀ x a,cl.lookup x=some a->∃ v,base.IsCell a v) (hinj:∀ x y a,cl.lookup x=some a->cl.lookup y=some a->x=y) (hhas:∀ x,scope.names.lookup x=some .free->∃ a,cl.lookup x=some a)
  (hb:∀(A:Around) (outer:List Env) (s:Shared) (H:Hp),Room k (A.deeper (W.envX qual scope s.heap.objs.size f (.ref c) cl))->PE (je P w K mg base (ps++caps) qual scope f (.ref c) cl A outer s H) body tb) :
  FnOk P w K mg base CX0 (k+1) f (W.kla_fn name qual params body scope cl pm (.ref c) ctv) ps (jU ps.length tb vcs c qual):=by
 refine #[λvs H Q E h=>h.1,λA outer s H args us vs Q E hr e0 hbind r hsp=>?_];obtain ⟨hl,hc,hq⟩:=hsp;have bk:∀ b o,base.get? b=some o->s.heap.get? b=some o:=λb o e=>(e0.bs b o e).1;have hul:us.length=ps.length:=by rw[<-r.length];exact hl
 refine W.kla_callFunE hr.depth (bk _ _ hf) rfl S.co S.gen rfl (hc.rec e0.hok) ?_;refine hbind _ _ _ _ ?_;refine wpAny_newFunctionEnv S.nocell (λy hy=>S.par _ (l0 hy).1) (λh1 hns hsb=>#[(e0.mod.nolimit.keeps bk).fresh _ hsb,?_]) S.kind;show codeAny _ _ (.expr body (W.envX qual scope s.heap.objs.size f (.ref c) cl)) _ _;have hk:∀ b o,s.heap.get? b=some o->h1.get? b=some o:=λb o e=>hsb.extBut b o (bK (aQ e)) (aY _ e);have cellK:∀ a v,base.IsCell a v->h1.IsCell a v/\H a=none:=λa v ⟨o,ho,hd⟩=>#[#[o,hk _ _ (bk _ _ ho),hd],(e0.bs _ _ ho).2];have ndps:ps.Nodup:=(fF.mp S.nd).1;have noA:∀ b:Addr,b∉([]:List Addr):=λb z=>absurd z .(k);have I:Inv (je P w K mg base (ps++caps) qual scope f (.ref c) cl A outer s H) [] (vs.map some++vcs.map some) H { s with heap:=h1,toks:=s.toks+(ps.zip us).length }:=by
  refine #[#[e0.mod,S.kind,rfl,rfl,aq _,hinj,λy hy=>?_,λy a z _=>(by cases z),λ_=>hr.hd,Around.frames_deeper e0.frames,.inr #[rfl,rfl],λb z=>absurd z (noA b),e0.bs,e0.bsz,λb _ _=>noA b,λb z=>absurd z (noA b),e0.funs,e0.frf],
   rfl,e0.bare,Un.kept hk,#[_,hns,λi y v h1' h2 h3=>?_],λy a h=>?_,e0.hok.fresh (aq _),λy a h=>?_,λp hp=>absurd (show p∈([]:List (Addr×Obj)) from hp) (by simp),e0.hok.kept hk,?_]
  .have hy:scope.names.lookup y=some .cell\/scope.names.lookup y=some .free:=hy;rcases hy with hy|hy
   .exact absurd rfl (S.nocell _ (PySem.mem_of_lookup hy))
   .exact hhas y hy
  .have h1':(ps++caps)[i]?=some y:=h1';by_cases hi:i<ps.length
   .rw[iO hi]at h1';rw[iO .(y),aZ]at h2;cases e:vs[i]? with
    | none=>rw[e]at h2;cases h2
    | some v'=>
     rw[e]at h2;cases h2
     obtain ⟨u,hu,ru⟩:=r.get e;exact #[u,ru,.inl #[S.par y (cX h1'),BM ndps h1' hu]]
   .rw[gi .(a)]at h1';rw[gi .(y),ai,aZ]at h2;cases e:vcs[i-vs.length]? with
    | none=>rw[e]at h2;cases h2
    | some v'=>
     rw[e]at h2;cases h2
     rw[hl]at e;obtain ⟨a,u,e1,e2,ru⟩:=hcap _ _ _ h1' e;exact #[u,ru,.inr #[.inr (S.cap y (cX h1')),a,e1,(cellK _ _ e2).1]]
  .obtain ⟨v,z⟩:=hcell y a h;exact #[v,(cellK _ _ z).1]
  .obtain ⟨v,z⟩:=hcell y a h;exact (cellK _ _ z).2
  .show (vs.map some++vcs.map some).length=(ps++caps).length;rw[aS,aS,ai,ai,hl,hlen]
 refine W.kla_codeExpr (cW (hb A outer s H (hr.deeper _) [] _ _ H Q I hq) (λu s' hu=>?_) λ_ _ z=>(show False from z).elim);obtain ⟨v,H',J,rv,q⟩:=hu;exact #[v,H',J.os,J.bare,J.base,J.hok,rv,q]
def Gro (Pt:Addr)(H H':Hp):Prop:=∀ b o,b≠Pt->H b=some o->H' b=some o
def Gro.refl (Pt:Addr)(H:Hp):Gro Pt H H:=λ_ _ _ h=>h
structure bB (H:Hp)(Pt:Addr)(pos:Pos)(q:Str):Prop where
 ex:∃ tab:Array Value,H Pt=some (.tbl tab)/\TriplesOk tab.toList/\(codeAmong pos tab.toList=none\/∃ c,codeAmong pos tab.toList=some (.ref c)/\jf H c q)
def bB.ext (x:bB H Pt pos q)(e:Ext H H'):bB H' Pt pos q:=by
 obtain ⟨tab,h1,h2,h3⟩:=x.ex;refine #[tab,e _ _ h1 nofun,h2,?_];rcases h3 with h3|⟨c,h3,h4⟩
 .exact .inl h3
 .exact .inr #[c,h3,e _ _ h4 nofun]
def bB.gro (x:bB H Pt pos q)(e:Gro P2 H H')(hne:Pt≠P2)(h2:∃ tab,H P2=some (.tbl tab)):bB H' Pt pos q:=by
 obtain ⟨tab,h1,h3,h4⟩:=x.ex;refine #[tab,e _ _ hne h1,h3,?_];rcases h4 with h4|⟨c,h4,h5⟩
 .exact .inl h4
 .refine .inr #[c,h4,e _ _ .(ua) h5];obtain ⟨tab2,y⟩:=h2;rw[<-z,show H c=_ from h5]at y;cases y
def BMAt (mg:Str->Option Value)(base:Heap):Prop:=∃ bm o,mg "__builtins__" = some (.ref bm)/\bm≠builtinsNs/\bm≠mainGlobals/\base.get? bm=some o/\o.cls=.type "module"/\o.dict=some builtinsNs/\o.data=.plain
section
variable {X:Cx}{Rf:List (Addr×Obj)}{U:St}{H:Hp}{s:Shared}{params:Arguments}{body:Expr}{scope:Scope}{lpos:Pos}{c Pt:Addr}{Q:Value->Shared->Prop}
def IG {c':Addr}{q:Str}{tab more:Array Value}{h':Heap}{tk:Nat}(I:Inv X Rf U H s)(hP:H Pt=some (.tbl tab))(hx:∀ b o,b≠Pt->s.heap.get? b=some o->h'.get? b=some o)(hge:s.heap.objs.size<=c')
  (hrec:h'.CodeRec (.ref c') q) (htb:h'.get? Pt=some (W.tabObj (tab++more))):Inv X Rf U (upd (upd H Pt (.tbl (tab++more))) c' (.ext (mI c' q))) { s with heap:=h',toks:=tk }:=by
 have hfr:H c'=none:=I.hok.fresh hge;have nPc:Pt≠c':=aw hP hfr;have low:∀ b u,H b=some u->b≠c':=λb u e=>aw e hfr;have lows:∀ b o,s.heap.get? b=some o->b≠c':=λb o e=>bK (cn (aQ e) hge);have nP:∀ b,H b=none->b≠Pt:=λb n z=>by rw[z,hP]at n;cases n
 refine I.un (t':=tk) #[λb o e n _ _=>hx b o (nP b n) e,λb o e n _ _=>#[o.slots,hx b o (nP b n) e],λb o e n _=>?_,λb o e _=>?_,λb xs e=>?_,λb o u e=>?_,λb ps e=>?_] λa o e=>?_
 .rw[aj (lows b o e),aj (nP b n)];exact n
 .by_cases z:b=Pt
  .exact #[_,by rw[z];exact htb]
  .exact #[o,hx b o z e]
 .rw[aj (low b _ e),aj (λz=>by rw[z,hP]at e;cases e)]
  exact e
 .rw[aj (low b _ e),aj (λz=>by rw[z,hP]at e;cases e)]
  exact e
 .by_cases z:b=Pt
  .rw[z,hP]at e;cases e
   exact #[more,by rw[z,aj nPc,ag]]
  .exact #[(List.toArray []),by rw[aj (low b _ e),aj z,e];simp]
 .by_cases z:a=c'
  .subst z;rw[ag]at e;cases e
   obtain ⟨c2,o2,vs,t,e2,ho2,r2⟩:=id hrec;cases e2
   exact #[hrec,#[o2,ho2],λh1 h2 x k=>IF h1 h2 x k]
  .rw[aj z]at e;by_cases y:a=Pt
   .subst y;rw[ag]at e;cases e
    exact htb
   .rw[aj y]at e;refine (I.hok a o e).stay (λb u hb q=>hx b u ?_ q) (λb q=>?_) λb xs q=>?_
    .rcases hb with rfl|hb
     .exact y
     .intro z2;rw[z2,hP]at hb;cases hb
    .rw[aj (low b _ q),aj (λz2=>by rw[z2,hP]at q;cases q)]
     exact q
    .rw[aj (low b _ q),aj (λz2=>by rw[z2,hP]at q;cases q)]
     exact q
def BO (I:Inv X Rf U H s)(hdef:defaultsOf params X.env=([],[]))(hfr:∀ x,(x,NameKind.free)∈scope.names->(X.env.kindOf x=some .cell\/X.env.kindOf x=some .free))(hcode:X.env.code=.ref c)(hC:codeHdIn X.K c Pt=true)(hBM:BMAt X.mg X.base)
  (hT:bB H Pt lpos .(f))
  (h:∀(f c':Addr) (cl:List (Str×Addr)) (pm ctv:Value) (H':Hp) (s':Shared),kX scope X.env cl->Inv X Rf U H' s'->s'.heap.get? f=some (W.kla_obj "<lambda>" (X.env.qual ++ "<lambda>") params body scope cl pm c' ctv)->H' f=none->s.heap.objs.size<=f->
   Gro Pt H H'->bB H' Pt lpos (X.env.qual ++ "<lambda>")->jf H' c' (X.env.qual ++ "<lambda>")->Q (.ref f) s') :
  wpAny .(d) X.A (eval (.Lambda params body scope lpos) X.env) Q X.xe s:=by
 obtain ⟨cl,hcl⟩:=vn (scope:=scope) (env:=X.env) λx hx=>I.ok.has x (hfr x hx);obtain ⟨tab,hP,ht,hor⟩:=hT.ex;have hPo:s.heap.get? Pt=some (W.tabObj tab):=I.hok Pt _ hP;have C:W.CodeHd s.heap c Pt:=(W.codeHd_of_K I.ok.mod.kin hC).keeps I.bk;have hgl:=I.mod.glob.keeps I.bk;have hgP:mainGlobals≠Pt:=λz=>by
  obtain ⟨o,es,ep,e,_⟩:=I.mod.glob;have:=(I.bs _ _ e).2;rw[z,hP]at this;cases this
 have hb:s.heap.BuiltinsAt X.mg Pt:=by
  obtain ⟨bm,o,b1,b2,b3,b4,b5⟩:=hBM;refine #[bm,o,b1,b2,b3,λz=>?_,I.bk _ _ b4,b5];have:=(I.bs _ _ b4).2;rw[z,hP]at this;cases this
 refine W.kla_eval hdef ?_;rcases hor with hnone|⟨c',hsome,hca⟩
 .refine W.kla_makeFunction (clos:=cl) hcl.eq I.ok.glob hgl hcode C hPo ht hnone hgP hb λc' ctv h' tk hx hge hlt hrec htb=>?_;have hx':∀ o2 b o,b≠Pt->s.heap.get? b=some o->(h'.push o2).get? b=some o:=λo2 b o n e=>aY _ (hx b o n e);have I':=IG (c':=c') (q:=X.env.qual ++ "<lambda>") (tk:=tk) I hP (hx' _) hge (hrec.push (W.kla_obj "<lambda>" .(f) params body scope cl ((X.mg "__name__").getD .none) c' ctv)) (aY _ htb);have hsz:s.heap.objs.size<=h'.objs.size:=eS (gJ hge hlt);have nPc:Pt≠c':=aw hP (I.hok.fresh hge);have eT:(tab++(List.toArray [rawInt lpos.line,rawInt lpos.col,.ref c'])).toList=tab.toList++[rawInt lpos.line,rawInt lpos.col,.ref c']:=by simp
  have hTI:bB (upd (upd H Pt (.tbl (tab++(List.toArray [rawInt lpos.line,rawInt lpos.col,.ref c'])))) c' (.ext (mI c' (X.env.qual ++ "<lambda>")))) Pt lpos .(f):=
   #[_,by rw[aj nPc,ag],by rw[eT];exact TriplesOk_snoc _ _ _ _ ht,.inr #[c',by rw[eT];exact codeAmong_snoc _ ht hnone,ag]]
  refine h h'.objs.size c' cl _ ctv _ _ hcl I' (cB _ rfl) ?_ hsz ?_ hTI ag
  .rw[aj (jz hlt),aj .(ua)]
   .exact I.hok.fresh hsz
   .have:=aQ hPo;rw[<-z]at this;exact absurd this (ku.mpr hsz)
  .intro b o n e;rw[aj (aw e (I.hok.fresh hge)),aj n];exact e
 .refine W.kla_makeFunctionHit (clos:=cl) hcl.eq I.ok.glob hgl hcode C hPo ht hsome hb λctv h' tk hk hsz=>?_;exact h h'.objs.size c' cl _ ctv H _ hcl (I.kept (t':=tk) λb o e=>aY _ (hk b o e)) (cB _ rfl) (I.hok.fresh hsz) hsz (Gro.refl _ _) hT hca
end
def dX (X:Cx)(s:Shared)(H:Hp):Heap:=W.hideAll s.heap (trk s.heap H++frs X.stack)
def vB {h b1 b2:Heap}:∀{l:List Env},h.FunFrames b1 l->(∀ b∈frs l,b2.get? b=none)->h.FunFrames b2 l
 | [],_,_=>trivial
 | env::l,⟨h1,⟨L,o,h2,h3,h4,h5⟩,h6⟩,k=>by
  have m:∀ b∈frs l,b∈frs (env::l):=λb hb=>by
   unfold frs;rw[kg,h2];exact bP _ hb
  refine #[h1,#[L,o,h2,k L ?_,h4,h5],vB h6 λb hb=>k b (m b hb)];unfold frs;rw[kg,h2];exact bZ
section
variable {X:Cx}{Rf:List (Addr×Obj)}{U:St}{H:Hp}{s:Shared}
def mJ {b:Addr}{o:Obj}(e:s.heap.get? b=some o)(n:H b=none)(hf:b∉frs X.stack):(dX X s H).get? b=some o:=
 W.hideAll_get _ e λhm=>by
  rcases bX.mp hm with z|z
  .have q:(H b).isSome=true:=(d6.mp z).2;rw[n]at q;cases q
  .exact hf z
def BP {b:Addr}{o:Obj}(e:(dX X s H).get? b=some o):s.heap.get? b=some o/\H b=none/\b∉frs X.stack:=by
 have e1:=W.of_hideAll _ e;have hm:b∉trk s.heap H++frs X.stack:=λz=>by
  unfold dX at e;rw[W.hideAll_none _ z]at e;cases e
 rw[bX,not_or]at hm;refine #[e1,?_,hm.2];cases q:H b with
 | none=>rfl
 | some u=>exact absurd (d6.mpr #[d7.mpr (aQ e1),by rw[q];rfl]) hm.1
def BQ (I:Inv X Rf U H s):∀ b o,X.base.get? b=some o->(dX X s H).get? b=some o:=λb o e=>by
 obtain ⟨h1,h2⟩:=I.bs b o e;refine mJ h1 h2 λz=>?_;have:=(I.stack.mem z).1;rw[e]at this;cases this
def BR (I:Inv X Rf U H s):Env0 X.prog X.w X.K X.mg (dX X s H) X.A X.stack s H:=by
 have sub:=BQ I;refine #[I.ok.frames,#[I.mod.kin.keeps sub,I.mod.glob.keeps sub,?_,I.mod.nolimit.keeps sub],λb o e=>#[(BP e).1,(BP e).2.1],lZ (W.hideAll_size _ _),vB I.stack λb hb=>W.hideAll_none _ (fT _ hb),I.stkFree,I.hok,I.bare];obtain ⟨mb,h1,h2⟩:=I.mod.blt;exact #[mb,h1.keeps sub,h2]
end
structure FV (P:Program)(w:World)(K:Frag)(mg:Str->Option Value)(base:Heap)(k:Nat)(f:Addr)(ps:List Str)(sp:Sp):Prop where
 ex:∃ fd,FnOk P w K mg base CX0 k f fd ps sp/\dn K fd ps []/\W.FnAt f base
section
variable {X:Cx}
def IH (X:Cx)(kr:Nat)(tf:TE)(t:TA):TE:=λU H Q=>tf U H λx H1=>∃ f k ps sp,x=.ref f/\FV X.prog X.w X.K X.mg X.base k f ps sp/\k<=kr/\t U H1 λvs H2=>sp vs H2 Q E0
def vC {x:Str}{e:Expr}{es:List Expr}{t:TA}{p pos:Pos}(hr:Room kr X.A)(hf:PE X (.Name x p) tf)(ha:PA X (e::es) t)
  (he:starEach (e::es) X.env= .(w)::starEach es X.env:=by rfl) (hpl: .(r).any (·.1)=false:=by rfl):PE X .(C) (IH X kr tf t):=by
 intro Rf s U H Q I h;refine wpAny_Call_Name_kw (thn (hf Rf s U H _ I h) λu s1 zq0=>?_);obtain ⟨x1,H1,I1,r1,q1⟩:=zq0;obtain ⟨f,k,ps,sp,rfl,hF,hk,q⟩:=q1;cases r1
 obtain ⟨fd,ok,bd,oc,od,fd2,sl,ho⟩:=hF.ex;refine W.callWith_F #[oc,od,fd2,sl,I1.bk _ _ ho] (thn (ha pos Rf s1 U H1 _ I1 q) λus s2 zq0=>?_) he hpl;obtain ⟨vs,H2,I2,r,q2⟩:=zq0;refine #[#[oc,od,fd2,sl,I2.bk _ _ ho],?_];exact oR ok (hr.mono hk) bd .nil mE I2 r (by rw[bQ];exact q2)
structure jV (X:Cx)(params:Arguments)(body:Expr)(scope:Scope)(ps caps:List Str)(cap:List Nat):Prop where
 sc:vA scope ps caps
 frees:∀ x,(x,NameKind.free)∈scope.names->(X.env.kindOf x=some .cell\/X.env.kindOf x=some .free)
 capAt:∀(j:Nat) (x:Str),caps[j]?=some x->∃ i:Nat,cap[j]?=some i/\X.N[i]?=some x/\(X.env.kindOf x=some .cell\/X.env.kindOf x=some .free)
 dflt:defaultsOf params X.env=([],[])
 binds:∀(cl:List (Str×Addr)) (pm cdv ct:Value) (us:List Value),us.length=ps.length->bindArgs (W.kla_fn "<lambda>" .(f) params body scope cl pm cdv ct) #[us,[]]=pure (ps.zip us)
 own:∀ x,X.fn x=true
def II {f c':Addr}{pm ctv:Value}{vcs:List V}{k n:Nat}(I:Inv X Rf U H s)(L:jV X params body scope ps caps cap)(hcl:kX scope X.env cl)
  (ho:s.heap.get? f=some (W.kla_obj "<lambda>" .(f) params body scope cl pm c' ctv)) (hn:H f=none) (hfr:∀ b∈frs X.stack,b<n) (hge:n<=f)
  (hv:vcs.length=caps.length) (hvs:∀(j i:Nat) (v:V),cap[j]?=some i->vcs[j]?=some v->U[i]?=some (some v))
  (hb:∀(base:Heap) (f:Addr) (cd:Value) (cl:List (Str×Addr)) (A:Around) (outer:List Env) (s:Shared) (H:Hp),Room k (A.deeper (W.envX .(f) scope s.heap.objs.size f cd cl))->PE (je X.prog X.w X.K X.mg base (ps++caps) .(f) scope f cd cl A outer s H) body tb) :
  FV X.prog X.w X.K X.mg (dX X s H) (k+1) f ps (jU ps.length tb vcs c' .(f)):=by
 have nf:f∉frs X.stack:=λz=>absurd (cn (hfr f z) hge) (d5 _);have hbf:=mJ (X:=X) ho hn nf;have cellB:∀ x a v,X.env.cells.lookup x=some a->s.heap.IsCell a v->(dX X s H).IsCell a v:=λx a v e ⟨o,h1,h2⟩=>by
  refine #[o,mJ h1 (I.freeC x a e) λz=>?_,h2];rcases aU.mp (I.stkSub a z) with y|y
  .exact I.cne x a e y
  .obtain ⟨_,o2,h3,_⟩:=I.ok.funs.mem y;exact absurd (cn (aQ h3) (I.ok.cab x a (L.own x) e)) (d5 _)
 refine #[_,BN L.sc hbf hv (λj x v h1 h2=>?_) (λx a e=>?_) (λx y a h1 h2=>I.ok.inj x y a (hcl.sub x a h1) (hcl.sub y a h2)) (λx e=>?_) (λA outer s H hr=>hb _ f _ cl A outer s H hr),.all (L.binds cl pm (.ref c') ctv),#[_,_,_,_,hbf]]
 ·obtain ⟨i,e1,e2,e3⟩:=L.capAt j x h1;obtain ⟨m,hm,hl⟩:=I.loc;obtain ⟨u,ru,lk⟩:=hl i x v e2 (hvs j i v e1 h2) (by
   rcases e3 with z|z
   .exact .inr (.inl z)
   .exact .inr (.inr z))
  rcases lk with ⟨z,_⟩|⟨_,a,e4,e5⟩
  .rcases e3 with y|y
   .rw[y]at z;cases z
   .rw[y]at z;cases z
  .obtain ⟨a',e6⟩:=hcl.has x (PySem.mem_of_lookup (L.sc.cap x (cX h1)));have e7:=hcl.sub x a' e6;rw[e4]at e7;cases e7
   exact #[a,u,e6,cellB x a _ e4 e5,ru]
 .obtain ⟨v,z⟩:=I.cell x a (hcl.sub x a e);exact #[v,cellB x a v (hcl.sub x a e) z]
 .exact hcl.has x (PySem.mem_of_lookup e)
def IJ (X:Cx)(n kf:Nat)(ps:List Str)(cap:List Nat)(Pt:Addr)(lpos:Pos)(tb te:TE)(spH:Heap->Sp):TE:=λU H Q=>te U H λx1 H1=>bB H1 Pt lpos .(f)/\∃ vcs:List V,vcs.length=n/\(∀(j i:Nat) (v:V),cap[j]?=some i->vcs[j]?=some v->U[i]?=some (some v))/\
 ∀(base:Heap) (f c':Addr) (H2:Hp),Gro Pt H1 H2->bB H2 Pt lpos .(f)->jf H2 c' .(f)->FV X.prog X.w X.K X.mg base kf f ps (jU ps.length tb vcs c' .(f))->spH base [x1,.ref f] H2 Q E0
def IK {q1 q2:Str}{lpos p pos:Pos}{spH:Heap->Sp}{k:Nat}{c Pt:Addr}
  (F:∀ base,FC X.prog X.w X.K X.mg base j x [q1,q2] (spH base)) (hr:Room k X.A) (h1:PE X e1 te) (L:jV X params body scope ps caps cap) (hcode:X.env.code=.ref c) (hC:codeHdIn X.K c Pt=true) (hBM:BMAt X.mg X.base)
  (hb:∀(base:Heap) (f:Addr) (cd:Value) (cl:List (Str×Addr)) (A:Around) (outer:List Env) (s:Shared) (H:Hp),Room kf (A.deeper (W.envX .(f) scope s.heap.objs.size f cd cl))->PE (je X.prog X.w X.K X.mg base (ps++caps) .(f) scope f cd cl A outer s H) body tb)
  (hjk:j<=k:=by decide) (hg:Gl X x:=by rfl) (hdb: .(o)=false:=by decide) (he:starEach [e1,.Lambda params body scope lpos] X.env=(false,eval e1 X.env)::starEach [.Lambda params body scope lpos] X.env:=by rfl)
  (he2:starEach [.Lambda params body scope lpos] X.env=[.(oa)]:=by rfl) (hpl:(backTo pos (starEach [.Lambda params body scope lpos] X.env)).any (·.1)=false:=by rfl) :
  PE X (.Call (.Name x p) [e1,.Lambda params body scope lpos] [] pos) (IJ X caps.length (kf+1) ps cap Pt lpos tb te spH):=by
 intro Rf s U H Q I h;obtain ⟨g,fd,_,_,kp,m,oc,od,osl,lk⟩:=(F X.base).ex;refine wpAny_Call_Name_kw (ir I hg m ?_ hdb);refine W.callWith_K (h₀:=X.base) I.ok.mod.kin kp ?_ he hpl;rw[he];show wpAny _ _ (spliced ((false,eval e1 X.env)::backTo pos (starEach [.Lambda params body scope lpos] X.env))) _ _ s;refine Calls.spliced_cons (thn (h1 Rf s U H _ I h) λu s1 zq0=>?_);obtain ⟨x1,H1,I1,r1,q1⟩:=zq0;obtain ⟨hT,vcs,hv,hvs,q⟩:=q1;rw[he2];show wpAny _ _ (spliced ((false,eval (.Lambda params body scope lpos) X.env)::[])) _ _ s1;refine Calls.spliced_cons (BO I1 L.dflt L.frees hcode hC hBM hT λf c' cl pm ctv H2 s2 hcl I2 ho hn hge hgr hT2 hca=>?_);refine Calls.spliced_nil #[I2.kIn,?_];have hF:=II (k:=kf) (n:=s1.heap.objs.size) I2 L hcl ho hn (λb hb=>by
  obtain ⟨_,o,e,_⟩:=I1.stack.mem hb;exact aQ e) hge hv hvs hb
 have hsp:=q (dX X s2 H2) f c' H2 hgr hT2 hca hF;obtain ⟨g2,fd2,ok,bd,_,m2,_⟩:=(F (dX X s2 H2)).ex;rw[m]at m2;cases m2
 have r2:Vals [x1,.ref f] [u,.ref f]:=.cons r1 (.cons rfl .nil);refine wpAny_call (codeAny_mono (ok.run X.A X.stack s2 H2 #[[u,.ref f],[]] [u,.ref f] [x1,.ref f] Q E0 (hr.mono hjk) (BR I2) (bd s2 [u,.ref f] I2.kIn rfl) r2 hsp) λr s' hq=>?_);cases r with
 | error e=>exact False.elim hq
 | ok fl=>
  cases fl with
  | ret u=>exact I2.after hq
  | next=>exact False.elim hq
  | brk=>exact False.elim hq
  | cont=>exact False.elim hq
end
def IL {K:Frag}{mg mb:Str->Option Value}{k:Nat}{fa a:Addr}{x:Str}{s₁:Shared}{vs:List Value}{ns:List Int}{tabs:List (Addr×Addr)}
  (KX:K.In s₁.heap) (hns:s₁.heap.Ns mainGlobals mg) (hb:s₁.heap.Ns builtinsNs mb) (hbb:∀ x:Str,x ≠ "__name__"->mb x=bootBuiltins x) (hlim:s₁.heap.NoLimit) (hg:s₁.gens=(List.toArray [])) (hBM:BMAt mg s₁.heap)
  (hT:W.TabsAt tabs s₁.heap) (hKT:∀ q∈tabs,K.lookup q.2=none)
  (ha:s₁.heap.get? a=some { cls:=.type "list",data:=.seq vs.toArray }) (hi:IntsAre vs ns) (hl:ns.length<=sizeLine) (hr:Room k callerA)
  (F:∀ base:Heap,K.In base->base.Ns mainGlobals mg->BMAt mg base->FnOk P w K mg base CX k fa fd [x] sp) (hbind:∀(s:Shared) (u:Value),BindsTo s fd #[[u],[]] [(x,u)])
  (hsp:∀ H:Hp,(∀ q∈tabs,H q.2=some (.tbl (List.toArray [])))->SqL K H a .(H)->sp [.ref a] H (λv _=>v=.bl true) λ_ _ _=>False)
  (hCX:∀ H e s',CX [] H s₁ (λ_ _ _=>False) e s'->False) :
  codeAny (model P w) callerA (.call (.ref fa) #[[.ref a],[]]) (λr s'=>r=.ok (.ret (.bool true))/\OldK s₁.heap s'.heap/\s'.os=s₁.os/\AllBare s'.gens) s₁:=by
 have rv:=Ba hi;have lenV:=hi.length;have tabO:∀ b,b∈tabs.map (·.2)->s₁.heap.get? b=some (W.tabObj (List.toArray []))/\isCodeTable s₁.heap b/\K.lookup b=none:=λb hm=>by
  obtain ⟨q,hq,rfl⟩:=cA.mp hm;exact #[(hT q hq).2,((hT q hq).1.tab (hT q hq).2).isCodeTable,hKT q hq]
 have nat:a∉tabs.map (·.2):=λz=>by
  have:=(tabO a z).1;rw[ha]at this;cases this
 have core:∀ Hs:Hp,(∀ b,Hs b=none\/(b=a/\Hs b=some (.frz { cls:=.type "list",data:=.seq vs.toArray } (.lst .(H)))))->(∀ H:Hp,(∀ b,b∉tabs.map (·.2)->H b=Hs b)->SqL K H a .(H))->(Hs a≠none->K.lookup a=none)->
   codeAny (model P w) callerA (.call (.ref fa) #[[.ref a],[]]) (λr s'=>r=.ok (.ret (.bool true))/\OldK s₁.heap s'.heap/\s'.os=s₁.os/\AllBare s'.gens) s₁:=by
  intro Hs hO hS hK;obtain ⟨H,hH⟩:∃ H:Hp,H=λb=>if b∈tabs.map (·.2) then some (.tbl (List.toArray [])) else Hs b:= .(Ba)
  have H1:∀ b,b∈tabs.map (·.2)->H b=some (.tbl (List.toArray [])):=λb z=>by rw[hH];exact ak z
  have H2:∀ b,b∉tabs.map (·.2)->H b=Hs b:=λb z=>by rw[hH];exact ao z
  have cases3:∀ b,H b=none\/(b=a/\H b=some (.frz { cls:=.type "list",data:=.seq vs.toArray } (.lst .(H))))\/(b∈tabs.map (·.2)/\H b=some (.tbl (List.toArray []))):=λb=>by
   by_cases z:b∈tabs.map (·.2)
   .exact .inr (.inr #[z,H1 b z])
   .rcases hO b with y|⟨y1,y2⟩
    .exact .inl ((H2 b z).trans y)
    .exact .inr (.inl #[y1,(H2 b z).trans y2])
  have hok:HOk P w H s₁.heap:=λb u e=>by
   rcases cases3 b with y|⟨y1,y2⟩|⟨y1,y2⟩
   .rw[y]at e;cases e
   .rw[y2]at e;cases e
    subst y1;exact #[ha,by rw[ai];exact hl,vs,_,rv,ha]
   .rw[y2]at e;cases e
    exact (tabO b y1).1
  have base_of:∀{b:Addr} {o:Obj},s₁.heap.get? b=some o->H b=none->(hidT s₁.heap H).get? b=some o:=λe n=>Fk e n;have noD:∀{b:Addr} {o:Obj},s₁.heap.get? b=some o->(∀ xs n,o.data≠.seq xs n)->(∀ xs,o.data≠.fields xs)->H b=none:=λ{b o} e d1 d2=>by
   rcases cases3 b with y|⟨y1,y2⟩|⟨y1,y2⟩
   .exact y
   .subst y1;rw[ha]at e;cases e
    exact absurd rfl (d1 _ _)
   .rw[(tabO b y1).1]at e;cases e
    exact absurd rfl (d2 _)
  have nsK:∀{b:Addr} {m:Str->Option Value},s₁.heap.Ns b m->(hidT s₁.heap H).Ns b m:=λ{b m} ⟨o,es,ep,e,d,r⟩=>#[o,es,ep,base_of e (noD e (λ_ _ z=>by rw[d]at z;cases z) (λ_ z=>by rw[d]at z;cases z)),d,r]
  have hKb:K.In (hidT s₁.heap H):=λb o e=>base_of (KX b o e) (by
   rcases cases3 b with y|⟨y1,y2⟩|⟨y1,y2⟩
   .exact y
   .subst y1;rw[hK (by rw[<-H2 b nat,y2];exact λz=>nomatch z)]at e;cases e
   .rw[(tabO b y1).2.2]at e;cases e)
  have hM:Mod K mg (hidT s₁.heap H):=#[hKb,nsK hns,#[mb,nsK hb,hbb],let ⟨mc,h1,h2⟩:=hlim;#[mc,nsK h1,h2]];have hBMb:BMAt mg (hidT s₁.heap H):=by
   obtain ⟨bm,o,b1,b2,b3,b4,b5,b6,b7⟩:=hBM;exact #[bm,o,b1,b2,b3,base_of b4 (noD b4 (λ_ _ z=>by rw[b7]at z;cases z) (λ_ z=>by rw[b7]at z;cases z)),b5,b6,b7]
  have e0:Env0 P w K mg (hidT s₁.heap H) callerA [] s₁ H:=#[rfl,hM,λb o e=>Fl e,lZ (Fj _ _),trivial,λb hb=>absurd (show b∈([]:List Addr) from hb) .(k),hok,.of_eq hg];refine codeAny_mono ((F _ hKb (nsK hns) hBMb).run callerA [] s₁ H #[[.ref a],[]] [.ref a] [.ref a] _ _ hr e0 (hbind s₁ (.ref a)) (.cons rfl .nil) (hsp H (λq hq=>H1 _ (List.mem_map_of_mem hq)) (hS H H2))) λr s' h=>?_;cases r with
  | error e=>exact (hCX H e s' h).elim
  | ok fl=>
   cases fl with
   | next=>exact False.elim h
   | brk=>exact False.elim h
   | cont=>exact False.elim h
   | ret u=>
    obtain ⟨v,H',os,bare,un,hok',r',q⟩:=h;have q':v=.bl true:=q;subst q';obtain rfl:u=Value.bool true:=r';have keep:∀ b o,H b=none->s₁.heap.get? b=some o->s'.heap.get? b=some o:=λb o n e=>un.keep b o e n (by intro z;exact absurd (show b∈([]:List Addr) from z) .(k)) .(k);have frz:∀ b o,b=a->H b=some (.frz { cls:=.type "list",data:=.seq vs.toArray } (.lst .(H)))->s₁.heap.get? b=some o->s'.heap.get? b=some o:=λb o y1 y2 e=>by
     obtain ⟨e1,_⟩:=hok b _ y2;obtain ⟨e2,_⟩:=hok' b _ (un.frzs b _ _ y2);rw[e]at e1;cases e1
     exact e2
    have tbl:∀ b,H b=some (.tbl (List.toArray []))->∃ ps,s'.heap.get? b=some (W.tabObj ps):=λb y=>by
     obtain ⟨more,e⟩:=un.tbls b _ y;exact #[_,hok' b _ e]
    refine #[rfl,#[λb o e=>?_,λb o e=>?_],os,bare]
    .rcases cases3 b with y|⟨y1,y2⟩|⟨y1,y2⟩
     .exact .inl (keep b o y e)
     .exact .inl (frz b o y1 y2 e)
     .obtain ⟨ps,hp⟩:=tbl b y2;obtain ⟨t1,t2,_⟩:=tabO b y1;rw[e]at t1;cases t1
      exact .inr (.inl #[t2,rfl,(List.toArray []),ps,rfl,by rw[Array.empty_append];exact hp])
    .rcases cases3 b with y|⟨y1,y2⟩|⟨y1,y2⟩
     .exact #[o,keep b o y e]
     .exact #[o,frz b o y1 y2 e]
     .obtain ⟨ps,hp⟩:=tbl b y2;exact #[_,hp]
 cases hk:K.lookup a with
 | some o=>
  have e:=KX a o hk;rw[ha]at e;cases e
  exact core (λ_=>none) (λ_=>.inl rfl) (λH _=>.inr #[_,vs.toArray,_,hk,rfl,rfl,rfl,by rw[bT,lenV];exact hl,by simpa using rv]) λz=>absurd rfl z
 | none=>
  refine core (λb=>if b=a then some (.frz { cls:=.type "list",data:=.seq vs.toArray } (.lst .(H))) else none) (λb=>?_) (λH h=>.inl (.inr #[{ cls:=.type "list",data:=.seq vs.toArray },by rw[h a nat];exact ak rfl])) λ_=>hk
  by_cases z:b=a
  .exact .inr #[z,ak z]
  .exact .inl (ao z)
def IM {l:OpenLaw}{n k:Nat}{q:Program}{loose:List Str}{XP:(Str->Option Value)->Heap->Prop}{YP:World->Heap->Prop}{d:DefRec}{K:Params->Frag}{sp:World->Sp}{x:Str}{tabs:List (Addr×Addr)}
  (hn:l.most=some n) (hn2:n<=sizeLine) (hdf:d.params.defaults=[]) (hr:Room k callerA)
  (hY:∀(w:World) (h:Heap),YP w h->(K w.params).In h) (hYT:∀(w:World) (h:Heap),YP w h->∀ q∈tabs,h.get? q.2=some (W.tabObj (List.toArray [])))
  (hC:∀(w:World),∀ q∈tabs,codeHdIn (K w.params) q.1 q.2=true/\(K w.params).lookup q.2=none)
  (F:∀(w:World) (mg:Str->Option Value) (fa:Addr) (h:Heap),(K w.params).In h->h.Ns mainGlobals mg->mg d.name=some (.ref fa)->
   ∃ fd:FuncData,(∀(s:Shared) (u:Value),BindsTo s fd #[[u],[]] [(x,u)])/\
    ∀ base:Heap,(K w.params).In base->base.Ns mainGlobals mg->BMAt mg base->FnOk l.prog w (K w.params) mg base CX0 k fa fd [x] (sp w))
  (hsp:∀(w:World) (H:Hp) (a:Addr) (ns:List Int),ns.length<=n->(∀ q∈tabs,H q.2=some (.tbl (List.toArray [])))->SqL (K w.params) H a .(H)->sp w [.ref a] H (λv _=>v=.bl true) λ_ _ _=>False) :
  W.WalkO q loose XP YP l.row.toRowW d [] (λf vs=>PySem.call f vs):=by
 refine Att.attach_call hn hdf λw s₀ s₁ mg mb fa o pm cd doc a vs ns G Y ho hd hcd hmg hobj hints hlen hg=>?_;have KX:=hY w _ Y;obtain ⟨fd,hb,hF⟩:=F w mg fa _ KX G.T.g hmg;have hBM:BMAt mg s₁.heap:=by
  obtain ⟨bm,ob,b1,b2,b3,b4,b5,b6⟩:=G.T.bmain;refine #[bm,ob,b1,b2,λz=>?_,b3,b4,b5,b6];obtain ⟨o,es,ep,e,hd,_⟩:=G.T.g;rw[z,e]at b3;cases b3
  rw[hd]at b6;cases b6
 exact IL (tabs:=tabs) KX G.T.g G.T.b G.T.builtins G.T.nolimit hg hBM (λq hq=>#[W.codeHd_of_K KX (hC w q hq).1,hYT w _ Y q hq]) (λq hq=>(hC w q hq).2) hobj hints (bW hlen hn2) hr hF hb (λH hO hS=>hsp w H a ns hlen hO hS) λH e s' z=>z
structure DFT (K:Frag)(mg:Str->Option Value)(x:Str)(st:Stmt)(ps:List Str)(c Pt:Addr):Prop where
 ex:∃(f:Addr) (oc:Value) (od:Option Addr) (kV dc pm:Value) (an:Option Addr) (ct:Value) (osl:Array (Option Value)),K.lookup f=some #[oc,od,.func (fnOf x x (fh st) (c9 st) (aE st) .none kV dc pm an (.ref c) ct),osl]/\
  codeIn K (.ref c) x=true/\keepIn K (.ref f)=true/\mg x=some (.ref f)/\dn K (fnOf x x (fh st) (c9 st) (aE st) .none kV dc pm an (.ref c) ct) ps []
 hd:codeHdIn K c Pt=true
def DFT.ok {w:World}{K:Frag}{mg:Str->Option Value}{base:Heap}{st:Stmt}{N:List Str}{k:Nat}{sp:Sp}{c:Addr}(D:DFT K mg x st ps c Pt)(S:aL N ps (aE st))(len:∀ vs H Q E,sp vs H Q E->vs.length=ps.length)
  (hbody:∀(f:Addr) (A:Around) (outer:List Env) (s:Shared) (H:Hp) (vs:List V) (Q:VK) (E:XK),Room k (A.deeper (envOfC x (aE st) s.heap.objs.size f (.ref c)))->sp vs H Q E->
   ∃ t,PSs (cxOf CX0 P w K mg base N x (aE st) f (.ref c) A outer s H E).nox (c9 st) t/\t { nx:=λ_ H'=>Q .non H',rt:=Q } (cO N vs) H):FC P w K mg base (k+1) x ps sp:=by
 obtain ⟨f,oc,od,kV,dc,pm,an,ct,osl,lk,hcd,kp,m,bd⟩:=D.ex;refine #[f,_,oS lk hcd S len λA outer s H vs Q E hr hsp=>?_,bd,kp,m,oc,od,osl,lk];obtain ⟨t,h,q⟩:=hbody f A outer s H vs Q E hr hsp;exact #[t,h.nox,q]
def IP {K:Frag}{x:Str}{c Pt f:Addr}{oc:Value}{od:Option Addr}{fd:FuncData}{sl:Array (Option Value)}(a:nsIn K mainGlobals x=some (some (.ref f)))(l:K.lookup f=some #[oc,od,.func fd,sl])(t:tabIn K x=some (c,Pt)):fd.code=.ref c:=by
 unfold tabIn at t;rw[a]at t;dsimp only at t;rw[l]at t;dsimp only at t;split at t
 .rename_i c2 hc;split at t
  .split at t
   .cases t
    exact hc
   .cases t
  .cases t
 .cases t
def vD {X:Cx}{params:Arguments}{body:Expr}{osc:Scope}{N:List Str}{cap:List Nat}(sc:vA scope ps caps)
  (h1:∀ p∈scope.names,p.2=NameKind.free->osc.names.lookup p.1=some NameKind.cell) (h2:∀ p∈caps.zip cap,N[p.2]?=some p.1/\osc.names.lookup p.1=some NameKind.cell) (hl:caps.length=cap.length)
  (ho:X.env.scope=osc) (hN:X.N=N) (d:defaultsOf params X.env=([],[]))
  (b:∀(cl:List (Str×Addr)) (pm cdv ct:Value) (us:List Value),us.length=ps.length->bindArgs (W.kla_fn "<lambda>" .(f) params body scope cl pm cdv ct) #[us,[]]=pure (ps.zip us))
  (o:∀ x,X.fn x=true):jV X params body scope ps caps cap:=by
 have hk:∀ x,X.env.kindOf x=osc.names.lookup x:=λx=>by
  unfold Env.kindOf;rw[ho]
 refine #[sc,λx hx=>.inl ?_,λj x hj=>?_,d,b,o]
 .rw[hk];exact h1 (x,.free) hx rfl
 .have hj':=(aT.mp hj).1;have hc:cap[j]?=some (cap[j]' .(a)):=aA _;have hz:(caps.zip cap)[j]?=some (x,cap[j]' .(a)):=by
   rw[List.getElem?_zip_eq_some];exact #[hj,hc]
  obtain ⟨a1,a2⟩:=h2 _ (cX hz);refine #[_,hc,?_,.inl ?_]
  .rw[hN];exact a1
  .rw[hk];exact a2
structure Sub (K:Frag)(mg:Str->Option Value)(b1 b2:Heap):Prop where
 mod:Mod K mg b1
 get:∀ b o,b1.get? b=some o->b2.get? b=some o
 size:b1.objs.size<=b2.objs.size
section
variable {P:Program}{w:World}{K:Frag}{mg:Str->Option Value}{b1 b2:Heap}{k:Nat}{f:Addr}{ps:List Str}{sp:Sp}
def FnOk.lift {fd:FuncData}(F:FnOk P w K mg b1 CX k f fd ps sp)(S:Sub K mg b1 b2):FnOk P w K mg b2 CX k f fd ps sp:=
 #[F.len,λA outer s H args us vs Q E hr e0=>F.run A outer s H args us vs Q E hr #[e0.frames,S.mod,λb o e=>e0.bs b o (S.get b o e),bW S.size e0.bsz,vB e0.funs (λb hb=>by
  cases q:b1.get? b with
  | none=>rfl
  | some o=>
   have z:=(e0.funs.mem hb).1;rw[S.get b o q]at z;exact nomatch z),e0.frf,e0.hok,e0.bare]]
def FV.lift (F:FV P w K mg b1 k f ps sp)(S:Sub K mg b1 b2):FV P w K mg b2 k f ps sp:=by
 obtain ⟨fd,ok,bd,oc,od,fd2,sl,ho⟩:=F.ex;exact #[fd,FnOk.lift ok S,bd,oc,od,fd2,sl,S.get _ _ ho]
def BMAt.lift (h:BMAt mg b1)(S:Sub K mg b1 b2):BMAt mg b2:=by
 obtain ⟨bm,o,h1,h2,h3,h4,h5⟩:=h;exact #[bm,o,h1,h2,h3,S.get _ _ h4,h5]
end
def IQ (P:Program)(w:World)(K:Frag)(mg:Str->Option Value)(base:Heap)(kr:Nat)(tf:TE)(t:TA):TE:=λU H Q=>tf U H λx H1=>∃ f k ps sp,x=.ref f/\FV P w K mg base k f ps sp/\k<=kr/\t U H1 λvs H2=>sp vs H2 Q E0
def IR (P:Program)(w:World)(K:Frag)(mg:Str->Option Value)(base:Heap){X:Cx}{x:Str}{e:Expr}{es:List Expr}{t:TA}{p pos:Pos}(hr:Room kr X.A)(hf:PE X (.Name x p) tf)(ha:PA X (e::es) t)
  (h1:X.prog=P:=by rfl) (h2:X.w=w:=by rfl) (h3:X.K=K:=by rfl) (h4:X.mg=mg:=by rfl) (h5:X.base=base:=by rfl)
  (he:starEach (e::es) X.env= .(w)::starEach es X.env:=by rfl) (hpl: .(r).any (·.1)=false:=by rfl):PE X .(C) (IQ P w K mg base kr tf t):=by
 subst h1 h2 h3 h4 h5;exact vC hr hf ha he hpl
section
variable {X:Cx}{Rf:List (Addr×Obj)}{U:St}{H:Hp}{s:Shared}
def vE (I:Inv X Rf U H s):Sub X.K X.mg X.base (dX X s H):=#[I.ok.mod,BQ I,bW I.env0.bsz (lZ (W.hideAll_size _ _).symm)]
def vF (X:Cx)(n kf:Nat)(ps:List Str)(cap:List Nat)(Pt:Addr)(lpos:Pos)(tb:Heap->TE)(U:St)(H1:Hp)(q:Heap->Addr->Hp->Prop):Prop:=bB H1 Pt lpos .(f)/\∃ vcs:List V,vcs.length=n/\(∀(j i:Nat) (v:V),cap[j]?=some i->vcs[j]?=some v->U[i]?=some (some v))/\
 ∀(base:Heap) (f c':Addr) (H2:Hp),Gro Pt H1 H2->bB H2 Pt lpos .(f)->jf H2 c' .(f)->Sub X.K X.mg X.base base->FV X.prog X.w X.K X.mg base kf f ps (jU ps.length (tb base) vcs c' .(f))->q base f H2
def IS {f c':Addr}{pm ctv:Value}{vcs:List V}{k n:Nat}(I:Inv X Rf U H s)(L:jV X params body scope ps caps cap)(hcl:kX scope X.env cl)
  (ho:s.heap.get? f=some (W.kla_obj "<lambda>" .(f) params body scope cl pm c' ctv)) (hn:H f=none) (hfr:∀ b∈frs X.stack,b<n) (hge:n<=f)
  (hv:vcs.length=caps.length) (hvs:∀(j i:Nat) (v:V),cap[j]?=some i->vcs[j]?=some v->U[i]?=some (some v))
  (hb:∀(f:Addr) (cd:Value) (cl:List (Str×Addr)) (A:Around) (outer:List Env) (s1:Shared) (H1:Hp),Room k (A.deeper (W.envX .(f) scope s1.heap.objs.size f cd cl))->PE (je X.prog X.w X.K X.mg (dX X s H) (ps++caps) .(f) scope f cd cl A outer s1 H1) body tb) :
  FV X.prog X.w X.K X.mg (dX X s H) (k+1) f ps (jU ps.length tb vcs c' .(f)):=by
 have nf:f∉frs X.stack:=λz=>absurd (cn (hfr f z) hge) (d5 _);have hbf:=mJ (X:=X) ho hn nf;have cellB:∀ x a v,X.env.cells.lookup x=some a->s.heap.IsCell a v->(dX X s H).IsCell a v:=λx a v e ⟨o,h1,h2⟩=>by
  refine #[o,mJ h1 (I.freeC x a e) λz=>?_,h2];rcases aU.mp (I.stkSub a z) with y|y
  .exact I.cne x a e y
  .obtain ⟨_,o2,h3,_⟩:=I.ok.funs.mem y;exact absurd (cn (aQ h3) (I.ok.cab x a (L.own x) e)) (d5 _)
 refine #[_,BN L.sc hbf hv (λj x v h1 h2=>?_) (λx a e=>?_) (λx y a h1 h2=>I.ok.inj x y a (hcl.sub x a h1) (hcl.sub y a h2)) (λx e=>?_) (λA outer s H hr=>hb f _ cl A outer s H hr),.all (L.binds cl pm (.ref c') ctv),#[_,_,_,_,hbf]]
 ·obtain ⟨i,e1,e2,e3⟩:=L.capAt j x h1;obtain ⟨m,hm,hl⟩:=I.loc;obtain ⟨u,ru,lk⟩:=hl i x v e2 (hvs j i v e1 h2) (by
   rcases e3 with z|z
   .exact .inr (.inl z)
   .exact .inr (.inr z))
  rcases lk with ⟨z,_⟩|⟨_,a,e4,e5⟩
  .rcases e3 with y|y
   .rw[y]at z;cases z
   .rw[y]at z;cases z
  .obtain ⟨a',e6⟩:=hcl.has x (PySem.mem_of_lookup (L.sc.cap x (cX h1)));have e7:=hcl.sub x a' e6;rw[e4]at e7;cases e7
   exact #[a,u,e6,cellB x a _ e4 e5,ru]
 .obtain ⟨v,z⟩:=I.cell x a (hcl.sub x a e);exact #[v,cellB x a v (hcl.sub x a e) z]
 .exact hcl.has x (PySem.mem_of_lookup e)
def BS {tb:Heap->TE}{c Pt:Addr}{Qv:List Value->Shared->Prop}(I:Inv X Rf U H s)
  (L:jV X params body scope ps caps cap) (hcode:X.env.code=.ref c) (hC:codeHdIn X.K c Pt=true) (hBM:BMAt X.mg X.base)
  (hb:∀(base:Heap) (f:Addr) (cd:Value) (cl:List (Str×Addr)) (A:Around) (outer:List Env) (s:Shared) (H:Hp),Sub X.K X.mg X.base base->Room kf (A.deeper (W.envX .(f) scope s.heap.objs.size f cd cl))->PE (je X.prog X.w X.K X.mg base (ps++caps) .(f) scope f cd cl A outer s H) body (tb base))
  (hg:vF X caps.length (kf+1) ps cap Pt lpos tb U H q) (h:∀ f H2 s2,Inv X Rf U H2 s2->q (dX X s2 H2) f H2->Qv [.ref f] s2):wpAny .(d) X.A (spliced [.(oa)]) Qv X.xe s:=by
 obtain ⟨hT,vcs,hv,hvs,q⟩:=hg;refine Calls.spliced_cons (BO I L.dflt L.frees hcode hC hBM hT λf c' cl pm ctv H2 s2 hcl I2 ho hn hge hgr hT2 hca=>?_);have S:=vE I2;have hF:=IS (k:=kf) (n:=s.heap.objs.size) (tb:=tb (dX X s2 H2)) I2 L hcl ho hn (λb hb=>by
  obtain ⟨_,o,e,_⟩:=I.stack.mem hb;exact aQ e) hge hv hvs (λf cd cl A outer s H hr=>hb _ f cd cl A outer s H S hr)
 exact Calls.spliced_nil (h f H2 s2 I2 (q _ f c' H2 hgr hT2 hca S hF))
def BU {x:Str}{k:Nat}{g:Addr}{Q:VK}{us:List Value}{vs:List V}(I:Inv X Rf U H s)(m:X.mg x=some (.ref g))(F:FC X.prog X.w X.K X.mg (dX X s H) j x qs sp)(hr:Room k X.A)(hjk:j<=k)(r:Vals vs us)(h:sp vs H Q E0) :
  wpAny .(d) X.A (call (.ref g) us) .(X) X.xe s:=by
 obtain ⟨g2,fd2,ok,bd,_,m2,_⟩:=F.ex;rw[m]at m2;cases m2
 refine wpAny_call (codeAny_mono (ok.run X.A X.stack s H #[us,[]] us vs Q E0 (hr.mono hjk) (BR I) (by simpa using bd s us I.kIn (by rw[bQ,<-r.length];exact ok.len _ _ _ _ h)) r h) λr s' hq=>?_);cases r with
 | error e=>exact False.elim hq
 | ok fl=>
  cases fl with
  | ret u=>exact I.after hq
  | next=>exact False.elim hq
  | brk=>exact False.elim hq
  | cont=>exact False.elim hq
end
section
variable {X:Cx}
def IT (X:Cx)(n kf:Nat)(ps:List Str)(cap:List Nat)(Pt:Addr)(lpos:Pos)(tb:Heap->TE)(te:TE)(spH:Heap->Sp):TE:=λU H Q=>te U H λx1 H1=>vF X n kf ps cap Pt lpos tb U H1 λbase f H2=>spH base [x1,.ref f] H2 Q E0
def IU {lpos p pos:Pos}{tb:Heap->TE}{spH:Heap->Sp}{k:Nat}{c Pt:Addr}
  (F:∀ base,Sub X.K X.mg X.base base->FC X.prog X.w X.K X.mg base j x qs (spH base)) (hr:Room k X.A) (h1:PE X e1 te) (L:jV X params body scope ps caps cap) (hcode:X.env.code=.ref c) (hC:codeHdIn X.K c Pt=true) (hBM:BMAt X.mg X.base)
  (hb:∀(base:Heap) (f:Addr) (cd:Value) (cl:List (Str×Addr)) (A:Around) (outer:List Env) (s:Shared) (H:Hp),Sub X.K X.mg X.base base->Room kf (A.deeper (W.envX .(f) scope s.heap.objs.size f cd cl))->PE (je X.prog X.w X.K X.mg base (ps++caps) .(f) scope f cd cl A outer s H) body (tb base))
  (hjk:j<=k:=by decide) (hg:Gl X x:=by rfl) (hdb: .(o)=false:=by decide) (he:starEach [e1,.Lambda params body scope lpos] X.env=(false,eval e1 X.env)::starEach [.Lambda params body scope lpos] X.env:=by rfl)
  (he2:starEach [.Lambda params body scope lpos] X.env=[.(oa)]:=by rfl) (hpl:(backTo pos (starEach [.Lambda params body scope lpos] X.env)).any (·.1)=false:=by rfl) :
  PE X (.Call (.Name x p) [e1,.Lambda params body scope lpos] [] pos) (IT X caps.length (kf+1) ps cap Pt lpos tb te spH):=by
 intro Rf s U H Q I h;obtain ⟨g,fd,_,_,kp,m,oc,od,osl,lk⟩:=(F X.base #[I.ok.mod,λ_ _ e=>e,aq _]).ex;refine wpAny_Call_Name_kw (ir I hg m ?_ hdb);refine W.callWith_K (h₀:=X.base) I.ok.mod.kin kp ?_ he hpl;rw[he];show wpAny _ _ (spliced ((false,eval e1 X.env)::backTo pos (starEach [.Lambda params body scope lpos] X.env))) _ _ s;refine Calls.spliced_cons (thn (h1 Rf s U H _ I h) λu s1 zq0=>?_);obtain ⟨x1,H1,I1,r1,q1⟩:=zq0;rw[he2];show wpAny _ _ (spliced [.(oa)]) _ _ s1;exact BS I1 L hcode hC hBM hb q1 λf H2 s2 I2 hsp=>#[I2.kIn,BU I2 m (F _ (vE I2)) hr hjk (vs:=[x1,.ref f]) (.cons r1 (.cons rfl .nil)) hsp]
def IV (X:Cx)(n kf:Nat)(ps:List Str)(cap:List Nat)(Pt:Addr)(lpos:Pos)(tb:Heap->TE)(te te2:TE)(spH:Heap->Sp):TE:=λU H Q=>te U H λx1 H1=>te2 U H1 λx2 H2=>vF X n kf ps cap Pt lpos tb U H2 λbase f H3=>spH base [x1,x2,.ref f] H3 Q E0
def IW {lpos p pos:Pos}{tb:Heap->TE}{spH:Heap->Sp}{k:Nat}{c Pt:Addr}
  (F:∀ base,Sub X.K X.mg X.base base->FC X.prog X.w X.K X.mg base j x qs (spH base)) (hr:Room k X.A) (h1:PE X e1 te) (h2:PE X e2 te2) (L:jV X params body scope ps caps cap) (hcode:X.env.code=.ref c) (hC:codeHdIn X.K c Pt=true) (hBM:BMAt X.mg X.base)
  (hb:∀(base:Heap) (f:Addr) (cd:Value) (cl:List (Str×Addr)) (A:Around) (outer:List Env) (s:Shared) (H:Hp),Sub X.K X.mg X.base base->Room kf (A.deeper (W.envX .(f) scope s.heap.objs.size f cd cl))->PE (je X.prog X.w X.K X.mg base (ps++caps) .(f) scope f cd cl A outer s H) body (tb base))
  (hjk:j<=k:=by decide) (hg:Gl X x:=by rfl) (hdb: .(o)=false:=by decide) (he:starEach [e1,e2,.Lambda params body scope lpos] X.env=(false,eval e1 X.env)::starEach [e2,.Lambda params body scope lpos] X.env:=by rfl)
  (he2:starEach [e2,.Lambda params body scope lpos] X.env=[(false,eval e2 X.env),.(oa)]:=by rfl) (hpl:(backTo pos (starEach [e2,.Lambda params body scope lpos] X.env)).any (·.1)=false:=by rfl) :
  PE X (.Call (.Name x p) [e1,e2,.Lambda params body scope lpos] [] pos) (IV X caps.length (kf+1) ps cap Pt lpos tb te te2 spH):=by
 intro Rf s U H Q I h;obtain ⟨g,fd,_,_,kp,m,oc,od,osl,lk⟩:=(F X.base #[I.ok.mod,λ_ _ e=>e,aq _]).ex;refine wpAny_Call_Name_kw (ir I hg m ?_ hdb);refine W.callWith_K (h₀:=X.base) I.ok.mod.kin kp ?_ he hpl;rw[he];show wpAny _ _ (spliced ((false,eval e1 X.env)::backTo pos (starEach [e2,.Lambda params body scope lpos] X.env))) _ _ s;refine Calls.spliced_cons (thn (h1 Rf s U H _ I h) λu s1 zq0=>?_);obtain ⟨x1,H1,I1,r1,q1⟩:=zq0;rw[he2];show wpAny _ _ (spliced ((false,eval e2 X.env)::[.(oa)])) _ _ s1;refine Calls.spliced_cons (thn (h2 Rf s1 U H1 _ I1 q1) λu2 s2 zq0=>?_);obtain ⟨x2,H2,I2,r2,q2⟩:=zq0;exact BS I2 L hcode hC hBM hb q2 λf H3 s3 I3 hsp=>#[I3.kIn,BU I3 m (F _ (vE I3)) hr hjk (vs:=[x1,x2,.ref f]) (.cons r1 (.cons r2 (.cons rfl .nil))) hsp]
end
def IX {K:Frag}{a:Addr}{xs ys:List V}{g:TG}{tb:TS}{D:Ends}{U:St}{H:Hp}(hlen:ys.length<=xs.length)(Pv:Nat->St->Hp->Prop)(h0:Pv 0 U H)(hl:∀ i U H,i<=ys.length->Pv i U H->SqL K H a xs/\SqL K H b ys)
  (hs:∀ i x y U H p,xs[i]?=some x->ys[i]?=some y->Pv i U H->H p=none->g (.ref p) U (upd H p (.tup [x,y])) λU2 H2=>tb { D with nx:=Pv (i+1),ct:=Pv (i+1),bk:=D.nx } U2 H2) (hd:∀ U H,Pv ys.length U H->D.nx U H) :
  ∃ W:Nat->Nat->St->Hp->Prop,.(da)/\∀ i m U H,W i m U H->((Itz K a b).stop i H/\D.nx U H)\/((Itz K a b).go i H/\∃ N:St->Hp->Prop,.(u)/\∀ x H',(Itz K a b).yld i H x H'->g x U H' λU2 H2=>tb { D with nx:=N,ct:=N,bk:=D.nx } U2 H2):=by
 refine #[λi m U H=>i+m=ys.length/\Pv i U H,#[ys.length,by lia,h0],λi m U H zq0=>?_];obtain ⟨e,pv⟩:=zq0;obtain ⟨hS,hS'⟩:=hl i U H .(a) pv;by_cases hi:i<ys.length
 .refine .inr #[#[xs,ys,xs[i]' .(a),ys[i],hS,hS',aA .(a),aA hi],Pv (i+1),λU' H' q=>#[m-1,by lia,by lia,q],λx H' y=>?_];obtain ⟨p,z,z',rfl,hp,hz,hz',rfl⟩:=y;exact hs i z z' U H p (hz xs hS) (hz' ys hS') pv hp
 .have:i=ys.length:=by lia
  subst this;exact .inl #[#[xs,ys,hS,hS',.inr (aq _)],hd U H pv]
end L2
namespace L2
open PySem PySem.Spec PyProof.Rows PySem.SeqAt
structure Tri (α β γ:Type) where
 a:α
 b:β
 c:γ
end L2
namespace L2
open PySem PySem.Spec PyProof.Rows
structure DM (K:Frag)(C:Addr)(m q:Str)(st:Stmt)(ps:List Str):Prop where
 ex:∃ f fd,Fun K m q st f fd/\dn K fd ps []/\Meth K C m f
structure FM (P:Program)(w:World)(K:Frag)(mg:Str->Option Value)(base:Heap)(C:Addr)(k:Nat)(m:Str)(ps:List Str)(sp:Sp):Prop where
 ex:∃ f fd,FnOk P w K mg base CX0 k f fd ps sp/\dn K fd ps []/\Meth K C m f/\∃ oc od osl,K.lookup f=some #[oc,od,.func fd,osl]
structure DI (K:Frag)(C:Addr)(q:Str)(st:Stmt)(ps:List Str):Prop where
 ex:∃ f fd,Fun K "__init__" q st f fd/\dn K fd ps []/\Mk K C f
structure FI (P:Program)(w:World)(K:Frag)(mg:Str->Option Value)(base:Heap)(C:Addr)(k:Nat)(ps:List Str)(sp:Sp):Prop where
 ex:∃ f fd,FnOk P w K mg base CX0 k f fd ps sp/\dn K fd ps []/\Mk K C f
section
variable {P:Program}{w:World}{K:Frag}{mg:Str->Option Value}{base:Heap}{C:Addr}{m q:Str}{st:Stmt}{N ps:List Str}{k:Nat}{sp:Sp}
def DM.ok (D:DM K C m q st ps)(S:aL N ps (aE st))(len:∀ vs H Q E,sp vs H Q E->vs.length=ps.length)
  (hbody:∀(f:Addr) (cdv:Value) (A:Around) (outer:List Env) (s:Shared) (H:Hp) (vs:List V) (Q:VK) (E:XK),Room k (A.deeper (envOfC q (aE st) s.heap.objs.size f cdv))->sp vs H Q E->
   ∃ t,PSs (cxOf CX0 P w K mg base N q (aE st) f cdv A outer s H E).nox (c9 st) t/\t { nx:=λ_ H'=>Q .non H',rt:=Q } (cO N vs) H):FM P w K mg base C (k+1) m ps sp:=by
 obtain ⟨f,fd,F,b,me⟩:=D.ex;exact #[f,fd,F.ok S len λcdv A outer s H vs Q E hr h=>hbody f cdv A outer s H vs Q E hr h,b,me,by
  obtain ⟨oc,od,kV,doc,pm,an,cdv,ct,osl,rfl,lk,hcd⟩:=F.ex;exact #[oc,od,osl,lk]]
def DI.ok (D:DI K C q st ps)(S:aL N ps (aE st))(len:∀ vs H Q E,sp vs H Q E->vs.length=ps.length)
  (hbody:∀(f:Addr) (cdv:Value) (A:Around) (outer:List Env) (s:Shared) (H:Hp) (vs:List V) (Q:VK) (E:XK),Room k (A.deeper (envOfC q (aE st) s.heap.objs.size f cdv))->sp vs H Q E->
   ∃ t,PSs (cxOf CX0 P w K mg base N q (aE st) f cdv A outer s H E).nox (c9 st) t/\t { nx:=λ_ H'=>Q .non H',rt:=Q } (cO N vs) H):FI P w K mg base C (k+1) ps sp:=by
 obtain ⟨f,fd,F,b,me⟩:=D.ex;exact #[f,fd,F.ok S len λcdv A outer s H vs Q E hr h=>hbody f cdv A outer s H vs Q E hr h,b,me]
end
section
variable {X:Cx}{j k:Nat}{C:Addr}{m x:Str}{ps:List Str}{sp:Sp}{o e:Expr}{es:List Expr}{ta:TE}{t:TA}{p pos apos:Pos}
def jW {pl:Sem Bool}(F:FM X.prog X.w X.K X.mg X.base C j m ps sp)(c:Cls X.K C)(hr:Room k X.A)(he:PE X o ta)(ha:PA X (e::es) t)(hjk:j<=k:=by decide)
  (hst:starEach (e::es) X.env= .(w)::starEach es X.env:=by rfl) (hpl: .(r).any (·.1)=false:=by rfl)
  (ht:eval (.Call (.Attribute o m apos) (e::es) [] pos) X.env=(do
   let ov <-eval o X.env
   standAt apos.atName
   let (f,first) <-holding [ov] (getMethod ov m pl)
   callWith pos f first (backTo pos (starEach (e::es) X.env)) (backToKw pos (keywordEach [] X.env))):=by rfl) :
  PE X (.Call (.Attribute o m apos) (e::es) [] pos) (oQ C m sp [] E0 ta t):=by
 obtain ⟨f,fd,ok,b,me,_⟩:=F.ex;exact F1 he c me ok (hr.mono hjk) b .nil mE ha hst hpl ht
def IY {pl:Sem Bool}(F:FM X.prog X.w X.K X.mg X.base C j m ps sp)(c:Cls X.K C)(hr:Room k X.A)(he:PE X o ta)(hjk:j<=k:=by decide)
  (ht:eval (.Call (.Attribute o m apos) [] [] pos) X.env=(do
   let ov <-eval o X.env
   standAt apos.atName
   let (f,first) <-holding [ov] (getMethod ov m pl)
   callWith pos f first (backTo pos (starEach [] X.env)) (backToKw pos (keywordEach [] X.env))):=by rfl) :
  PE X (.Call (.Attribute o m apos) [] [] pos) (oQ C m sp [] E0 ta tNil):=by
 obtain ⟨f,fd,ok,b,me,_⟩:=F.ex;exact Ga he c me ok (hr.mono hjk) b .nil mE ht
def IZ (F:FI X.prog X.w X.K X.mg X.base C j ps sp)(hr:Room k X.A)(hm:X.mg x=some (.ref C))(ha:PA X (e::es) t)(hjk:j+1<=k:=by decide)(hg:Gl X x:=by rfl)
  (hdb: .(o)=false:=by decide) (he:starEach (e::es) X.env= .(w)::starEach es X.env:=by rfl) (hpl: .(r).any (·.1)=false:=by rfl) :
  PE X .(C) (Az C sp [] E0 t):=by
 obtain ⟨f,fd,ok,b,me⟩:=F.ex;exact Gc me ok (hr.mono hjk) hg hm b .nil mE ha hdb he hpl
end
section
variable {X:Cx}
def I0 (hu:X.A.units+1<cLine):OpR X (compareOp .NotIn) (λx y H Q=>∃ a o,y=.ref a/\DGet H a x o/\Q (.bl (!o.isSome)) H):=by
 intro Rf s U H x y v u Q I rx ry h;obtain ⟨a,o,rfl,g,q⟩:=h;cases ry
 exact GE hu I g rx λs' I'=>#[.bl _,H,I',rfl,q]
def Ja {A:Around}(hu:A.units+1<cLine)(hA:X.A=A:=by rfl):OpR X (compareOp .NotIn) (λx y H Q=>∃ a o,y=.ref a/\DGet H a x o/\Q (.bl (!o.isSome)) H):=by
 subst hA;exact I0 hu
end
section
variable {X:Cx}
inductive vG (K:Frag)(x:V)(y:V)(H:Hp)(Q:VK):Prop
 | c:∀ a b xs ys,x=.ref a->y=.ref b->SqT K H a xs->SqT K H b ys->xs.length+ys.length<=sizeLine->(xs=[]->Q (.ref b) H)->(xs≠[]->(ys=[]->Q (.ref a) H)/\(ys≠[]->∀ p,H p=none->Q (.ref p) (upd H p (.tup (xs++ys)))))->vG K x y H Q
def Jb:OpR X (binaryOp .Add) (vG X.K):=by
 intro Rf s U H x y v u Q I rx ry h;obtain ⟨a,b,xs,ys,e1,e2,ha,hb,hz,q1,q2⟩:=h;by_cases hx:xs=[]
 .subst e1 e2;cases rx
  cases ry
  obtain ⟨its,r1,p1,_⟩:=I.tuple ha;obtain ⟨its2,r2,p2,_⟩:=I.tuple hb;obtain ⟨⟨cls,dd,data,sl⟩,ho,hc,n,hd⟩:=id p1;obtain ⟨⟨cls2,dd2,data2,sl2⟩,ho2,hc2,n2,hd2⟩:=id p2;simp only at hc hd hc2 hd2;subst hc hd hc2 hd2;have hv:its=[]:=r1.nil_iff.mpr hx;exact concat_meets #[_,ho,rfl] #[_,ho2,rfl] noFill_tuple_add seq_tuple_add PySem.F.slot_tuple_add PySem.F.entry_tuple_add (PySem.F.args_tuple_add_2 _ _)
   (tuple_addW0 a b its.toArray its2.toArray n n2 dd dd2 sl sl2 (by simp[hv])) #[ho,ho2,.ref b,H,I,rfl,q1 hx]
 .exact oV Rf s U H x y v u Q I rx ry #[a,b,xs,ys,e1,e2,ha,hb,hx,hz,λz=>(q2 hx).1 z,λz=>(q2 hx).2 z]
end
end L2
namespace DictP
open PySem PySem.Spec PyProof.Rows
set_option maxRecDepth 100000
def Jc:typeLookup (.type "list") "keys" = pure none:=by rw[typeLookup_type,builtinLookup_eq_fast];kernel_rfl
section
variable {prog:Program}{w:World}{A:Around}{E:Value->Shared->Prop}{a:Addr}{o:Obj}{h:Heap}{g:Array GenState}{d:Drawn}{t:Nat}{os:OsState}{xs:Array Value}{n:Nat}{sl:Array (Option Value)}
def Jd {tk:Tok}{Q:Fin->Shared->Prop}(hh:A.handled=none)(hx:h.get? a=some { cls:=.type "list",dict:=none,data:=.seq xs n,slots:=sl })
  (q:∀ h' t' e,(∀ b u,h.get? b=some u->h'.get? b=some u)->(#[h',g,d,t',os]:Shared).TypeIs (.ref e) "AttributeError"->E (.ref e) #[h',g,d,t',os]) :
  wpAny .(i) A (Builtin.«object.__getattribute__» #[[.ref a,.str "keys" tk],[]]) Q E #[h,g,d,t,os]:=by
 have hT:(#[h,g,d,t,os]:Shared).TypeIs (.ref a) "list":=#[_,hx,rfl];have f4:=Jc
 repeat (any_goals (first|assumption|wp_step))
 have hm:(Str.ofString (toString "'" ++ toString ((Manifest.find? "list").elim "list" λx=>x.tpName)++toString "' object has no attribute '")++Str.ofString "keys" ++ Str.ofString "'").length<=sizeLine:=by decide +kernel
 generalize (Str.ofString (toString "'" ++ toString ((Manifest.find? "list").elim "list" λx=>x.tpName)++toString "' object has no attribute '")++Str.ofString "keys" ++ Str.ofString "'")=msg at hm ⊢;unfold raiseAttrError;refine ax (wpAny_mkStr (ax ?_) hm);unfold newExc newTuple;refine ax (wpAny_newObj_type ?_);refine ax (m:=firstArgMember _ _) (wpAny_of_eq (a:=Value.none) (by rfl) ?_);refine wpAny_newObj_type ?_;refine ax (wpAny_mkText ?_);have hX:=cB .(x) (o:={ cls:=.type "AttributeError",data:=.fields ((List.toArray [.ref h.objs.size,.none,.none,.none,.bool false,.none])++(List.toArray [unsetMember,unsetMember])) }) rfl;have hk:∀ b u,h.get? b=some u->(.(x).push { cls:=.type "AttributeError",data:=.fields ((List.toArray [.ref h.objs.size,.none,.none,.none,.bool false,.none])++(List.toArray [unsetMember,unsetMember])) }).get? b=some u:=λb u e=>aY _ (aY _ e);have hne:h.get? .(x).objs.size=none:=Heap.get?_none_of_le .(k);show wpAny .(i) A (noteAttr (.ref .(x).objs.size) (.ref a) (.str "keys" (t+1)) >>= λ_=>raiseNew (.ref .(x).objs.size)) Q E #[.(x).push { cls:=.type "AttributeError",data:=.fields ((List.toArray [.ref h.objs.size,.none,.none,.none,.bool false,.none])++(List.toArray [unsetMember,unsetMember])) },g,d,t+2,os];generalize .(x).push { cls:=.type "AttributeError",data:=.fields ((List.toArray [.ref h.objs.size,.none,.none,.none,.bool false,.none])++(List.toArray [unsetMember,unsetMember])) }=h2 at hX hk ⊢;generalize .(x).objs.size=e at hX hne ⊢;generalize (Value.ref h.objs.size)=r0 at hX;unfold noteAttr;dsimp only;have hTe:(#[h2,g,d,t+2,os]:Shared).TypeIs (.ref e) "AttributeError":=#[_,hX,rfl];refine ax (ax ?_);unfold lacksNameAndObj;dsimp only;refine ax (wpAny_isInstance (T := "AttributeError") (b:=true) hTe (by rw[isSubtype_type];kernel_rfl) ?_);simp only[Bool.not_true,kq,if_false];refine ax (wpAny_load hX ?_);dsimp only;have i6:((List.toArray [r0,Value.none,Value.none,Value.none,Value.bool false,Value.none])++(List.toArray [unsetMember,unsetMember]))[6]?=some unsetMember:=by simp
 have i7:((List.toArray [r0,Value.none,Value.none,Value.none,Value.bool false,Value.none])++(List.toArray [unsetMember,unsetMember]))[7]?=some unsetMember:=by simp
 refine wpAny_ite_split (λz=>absurd z (by rw[i6,i7];decide)) .(fa);refine wpAny_ite_split (λz=>absurd z (by rw[i6,i7];decide)) .(fa);refine aM ?_;rw[ak rfl];refine ax (wpAny_rule (ax (wpAny_typeOf hTe ?_)));dsimp only;unfold layMembers;refine ax (wpAny_load hX ?_);dsimp only;refine wpAny_update (s:=#[h2,g,d,t+2,os]) hX ?_;unfold raiseNew;refine ax (wpAny_handled ?_);rw[hh]
 first
  | refine wpAny_throw ?_
  | refine ax (aM (wpAny_throw ?_))
 refine q _ _ e (λb u eb=>?_) #[_,Heap.get?_update_self _ hX (Obj.isFreed_of_fields (Obj.data_mapFields rfl _)),rfl];have nb:b≠e:=λz=>by
  rw[z,hne]at eb;cases eb
 exact (jD _ _ (bt nb)).trans (hk b u eb)
def Je {tk:Tok}{R:Result->Shared->Prop}(hh:A.handled=none)(hx:h.get? a=some { cls:=.type "list",dict:=none,data:=.seq xs n,slots:=sl })
  (q:∀ h' t' e,(∀ b u,h.get? b=some u->h'.get? b=some u)->(#[h',g,d,t',os]:Shared).TypeIs (.ref e) "AttributeError"->R (.error (.ref e)) #[h',g,d,t',os]) :
  codeAny .(i) A (.call (.builtin "list.__getattribute__") #[[.ref a,.str "keys" tk],[]]) R #[h,g,d,t,os]:=
 codeAny_call_builtin F.slot_list_getattribute.plain F.entry_list_ga (F.slot_list_getattribute.check _ _ _ _ _ _ _ _ (show (#[h,g,d,t,os]:Shared).TypeIs (.ref a) "list" from #[_,hx,rfl]) (F.args_list_getattribute_2 _ _) (Jd (A:=A.in1) hh hx q))
def Jf {Q:Option Value->Shared->Prop}(hh:A.handled=none)(hx:h.get? a=some { cls:=.type "list",dict:=none,data:=.seq xs n,slots:=sl })
  (q:∀ h' t',(∀ b u,h.get? b=some u->h'.get? b=some u)->Q none #[h',g,d,t',os]):wpAny .(i) A (getAttr? (.ref a) "keys") Q E #[h,g,d,t,os]:=by
 have hT:(#[h,g,d,t,os]:Shared).TypeIs (.ref a) "list":=#[_,hx,rfl];have f2:=F.slot_list_getattribute.lookup;have f3:=F.slot_list_getattribute.bind (.ref a);have f5:typeLookup (.type "list") "__getattr__" = pure none:=by rw[typeLookup_type,builtinLookup_eq_fast];kernel_rfl
 unfold getAttr? getAttrBy?
 repeat (any_goals (first|assumption|wp_step))
 refine Je hh hx λh' t' e k ty=>?_;have su:isSubtype (.type "AttributeError") (.type "AttributeError")=pure true:=by rw[isSubtype_type];kernel_rfl
 show wpAny .(i) A (getattributeRaised (.ref a) (.str "keys" t) (.type "list") (.ref e) none false false) _ _ _;unfold getattributeRaised;refine ax (wpAny_isInstance ty su ?_);rw[ak rfl];refine ax (?_:wpAny _ _ (typeLookup (.type "list") "__getattr__") _ _ _);rw[f5];refine aM ?_;show wpAny _ _ (throw (Value.ref e)) _ _ _;refine wpAny_throw ?_;show wpAny _ _ (do let b <-isInstance (.ref e) (.type "AttributeError");if b=true then pure none else throw (Value.ref e)) _ _ _
 refine ax (wpAny_isInstance ty su ?_);exact aM (q h' t' k)
end
end DictP
namespace DictP
open PySem PySem.Spec PyProof.Rows L2
set_option maxRecDepth 100000
def BV:entryFor table "dict.update.loop" = some Builtin.«dict.update.loop»:=entryFor_of_tree (by kernel_rfl)
def pj:plainId "dict.update.loop" = true:=by decide +kernel
def Jg {K:Type}[DecidableEq K]{kvs:List (K×Value)}{k:K}{v:Value}(h:k∉kvs.map (·.1)):stored kvs k v=kvs++[(k,v)]:=by
 unfold stored;rw[ao λz=>?_];obtain ⟨kv,h1,h2⟩:=List.any_eq_true.mp z;exact h (cA.mpr #[kv,h1,bO h2])
section
variable {prog:Program}{w:World}{A:Around}{R:Result->Shared->Prop}{I:Addr}{fp wr:List Addr}{G:Array GenState->Array GenState->Prop}{n:Nat}{P:Nat->Value->Prop}{St:Nat->Shared->Prop}
def Jh {h0:Heap}(W:WalksS prog w A.in1 I fp wr G n P St)(d:Addr)(hdf:d∉fp)(res:Value)(kvs:List (Key×Value))(hn:n=kvs.length)(hnd: .(Da).Nodup)
  (hP:∀ i v,P i v->∃ tp key k val,v=.ref tp/\tp≠d/\tp∉wr/\h0.IsTuple tp (List.toArray [key,val])/\(cf prog w).is k key=true/\kvs[i]?=some (k,val)) (hz:kvs.length<=sizeLine) :
  ∀(j i:Nat) (s:Shared) (tk:Tok),n-i=j->i<=n->St i s->(∀ b o,b≠d->b∉wr->h0.get? b=some o->s.heap.get? b=some o)->s.heap.DictOf (cf prog w) d (kvs.take i)->
   (∀ s',Moved (d::wr) G s s'->s'.heap.DictOf (cf prog w) d kvs->R (.ok (.ret res)) s')->codeAny .(i) A (.builtin "dict.update.loop" #[[.ref d,.ref I,.int i tk,res],[]]) R s:=by
 have hdw:d∉wr:=λh=>hdf (W.sub _ h);have up:∀ b∈wr,b∈d::wr:=λb hb=>bP _ hb;intro j
 induction j with
 | zero=>
  intro i s tk hj hi st hk hd q;have e:i=n:=by lia
  subst e;refine codeAny_builtin BV ?_;rw[Around.under_plainId pj _];show wpAny _ A.in1 (pyNext (.ref I) >>= _) _ _ s;refine ax (W.done s _ _ st λs' hm=>?_);refine ax (?_:wpAny _ A.in1 (Builtin.Dict.addKeywords d []) _ _ s');refine aM (aM (q s' (hm.mono up) ?_));obtain ⟨o,es,ep,ho,r⟩:=hd;rw[hn,List.take_length]at r;exact #[o,es,ep,hm.heap d o hdw ho,r]
 | succ j ih=>
  intro i s tk hj hi st hk hd q;have hlt:i<n:=by lia
  refine codeAny_builtin BV ?_;rw[Around.under_plainId pj _];show wpAny _ A.in1 (pyNext (.ref I) >>= _) _ _ s;refine ax (W.item i s _ _ hlt st λv s' hPi st' hm=>?_);obtain ⟨tp,key,k,val,rfl,ntd,ntw,ht,hkey,hkv⟩:=hP i v hPi;obtain ⟨ot,o1,o2,nt,o3⟩:=ht;have g1:=hm.heap tp ot ntw (hk tp ot ntd ntw o1);have hd':s'.heap.DictOf (cf prog w) d (kvs.take i):=by
   obtain ⟨o,es,ep,ho,r⟩:=hd;exact #[o,es,ep,hm.heap d o hdw ho,r]
  obtain ⟨hik,hek⟩:=aT.mp hkv;have hnew:k∉(kvs.take i).map (·.1):=λz=>by
   rw[iQ]at z;obtain ⟨m,hm1,hm2⟩:=List.mem_take_iff_getElem.mp z;have h2:m< .(Da).length:=by lia
   have h3:i< .(Da).length:=by rw[ai];exact hik
   have:=dU.mp hnd m i h2 h3 .(a);apply this;rw[hm2,List.getElem_map,hek]
  refine ax (wpAny_holding (ax (wpAny_tryCatch ?_)));unfold Builtin.Dict.pairItems;refine ax (wpAny_typeOf (T := "tuple") #[_,g1,o2] ?_);rw[ak .(q)];unfold seqItems?;refine ax (ax (wpAny_load g1 ?_));rw[o3];refine aM (aM ?_);show wpAny _ A.in1 (holding [key,val] (dictSet d key val)) _ _ s';refine wpAny_holding (wpAny_dictSet_pairs hkey hd' (λh' hd2 sb=>?_) (by rw[bu];lia));rw[Jg hnew]at hd2;have tk1:kvs.take (i+1)=kvs.take i++[(k,val)]:=by
   rw[cG hik,hek]
  rw[<-tk1]at hd2;refine aM #[plainId_quiet pj _,ih (i+1) _ 0 .(a) hlt (W.frame _ s' _ _ st' (fD _) λb hb o e=>?_) (λb o n1 n2 e=>?_) hd2 λs'' hm'' x3=>?_]
  .rw[sb.2 b (λh:b=d=>hdf (by rw[<-h];exact hb))];exact e
  .rw[sb.2 b n1];exact hm.heap b o n2 (hk b o n1 n2 e)
  .refine q s'' (Moved.trans W.gtrans ((hm.mono up).then_heap (fD _) λb o hb e=>?_) hm'') x3;rw[sb.2 b (λh:b=d=>hb (by rw[h];exact bZ))];exact e
end
end DictP
namespace DictP
open PySem PySem.Spec PyProof.Rows L2
set_option maxRecDepth 100000
section
variable {prog:Program}{w:World}{A:Around}{E:Value->Shared->Prop}{s:Shared}
def of_pairs {l:Addr}{items:Array Value}{nl:Nat}{sl:Array (Option Value)}{kvs:List (Key×Value)}{Q:Value->Shared->Prop}(hh:A.handled=none)(hl:s.heap.get? l=some { cls:=.type "list",dict:=none,data:=.seq items nl,slots:=sl })
  (hnd: .(Da).Nodup) (hlen:items.size=kvs.length) (hz:kvs.length<=sizeLine)
  (hit:∀(i:Nat) v,items[i]?=some v->∃ tp key k val,v=.ref tp/\s.heap.IsTuple tp (List.toArray [key,val])/\(cf prog w).is k key=true/\kvs[i]?=some (k,val))
  (q:∀ h' tk,h'.DictOf (cf prog w) s.heap.objs.size kvs->(∀ b o,s.heap.get? b=some o->h'.get? b=some o)->Q .(ca) { s with heap:=h',toks:=tk }) :
  wpAny .(i) A (call (.type "dict") [.ref l]) Q E s:=by
 refine callType_codes (Q₁:=λobj s₁=>obj=.ref s.heap.objs.size/\s₁={ s with heap:=s.heap.push { cls:=.type "dict",data:=.dict (List.toArray []) } }) F.kt_called_dict (F.kt_typeCall_dict_1 _) F.entry_dict_init (kt_code_dict_new _ .(pa)) ?_;rintro obj s₁ ⟨rfl,rfl⟩;have hnew:(s.heap.push { cls:=.type "dict",data:=.dict (List.toArray []) }).DictOf (cf prog w) s.heap.objs.size []:=Heap.DictOf.new s.heap;have hl1:=aY { cls:=.type "dict",data:=.dict (List.toArray []) } hl;have hkp:∀ b o,s.heap.get? b=some o->(s.heap.push { cls:=.type "dict",data:=.dict (List.toArray []) }).get? b=some o:=λb o e=>aY _ e;have hds:s.heap.objs.size<(s.heap.push { cls:=.type "dict",data:=.dict (List.toArray []) }).objs.size:=by
  rw[jB];exact kh _
 have hlS:l<s.heap.objs.size:=aQ hl;refine #[hnew.typeIs,F.args_dict_init_2 _ _,?_];generalize s.heap.push { cls:=.type "dict",data:=.dict (List.toArray []) }=h1 at hnew hl1 hkp hds ⊢;unfold Builtin.«dict.__init__»;refine ax ?_;unfold Builtin.Dict.selfAndRest;refine ax (wpAny_notOrdered_dict hnew.typeIs ?_);show wpAny _ _ (pure (s.heap.objs.size,[Value.ref l])) _ _ _;refine aM ?_;show wpAny _ _ (Builtin.Dict.updateFrom "dict.__init__" s.heap.objs.size (.ref l) [] .none) _ _ _;unfold Builtin.Dict.updateFrom;refine ax (wpAny_typeOf (T := "list") #[_,hl1,rfl] ?_);rw[ak .(q)];refine ax (Jf (A:=_) hh hl1 λh2 t2 k2=>?_);rw[ak (show (none:Option Value).isNone=true from rfl)];refine ax (wpAny_rule (ax ?_));have hl2:=k2 _ _ hl1;have hL2:h2.IsList l items:=#[_,hl2,rfl,nl,rfl];refine wpAny_pyIter_list (s:=#[h2,s.gens,s.drawn,t2,s.os]) hL2 ?_;refine aM #[plainId_quiet pj _,?_];have hd2:h2.DictOf (cf prog w) s.heap.objs.size []:=by
  obtain ⟨o,es,ep,ho,r⟩:=hnew;exact #[o,es,ep,k2 _ _ ho,r]
 have hdlt:s.heap.objs.size<h2.objs.size:=by
  obtain ⟨o,es,ep,ho,r⟩:=hd2;exact aQ ho
 have hne:l≠h2.objs.size:=bK (Nat.lt_trans hlS hdlt);have h3:A.in1.in1.handled=none:=by simp[hh]
 refine Jh (h0:=s.heap) ((Walks.list h3 _ l hne items).toS) s.heap.objs.size .(ua) .none kvs hlen hnd (λi v hv=>?_) hz items.size 0 _ 0 .(a) (cv _) #[#[_,cB _ rfl,rfl,rfl],hL2.push _] (λb o n1 n2 e=>aY _ (k2 _ _ (hkp _ _ e))) ?_ λs' hm hd'=>?_
 .simp only[aU,cJ,or_false]at z;rcases z with z|z
  .exact absurd hdlt (by rw[<-z];exact d5 _)
  .exact absurd hlS (by rw[<-z];exact d5 _)
 .obtain ⟨tp,key,k,val,e1,e2,e3,e4⟩:=hit i v hv;have htp:tp<s.heap.objs.size:=by
   obtain ⟨ot,o1,_⟩:=e2;exact aQ o1
  refine #[tp,key,k,val,e1,bK htp,λz=>?_,e2,e3,e4];rw[bM.mp z]at htp;exact absurd (Nat.lt_trans htp hdlt) (d5 _)
 .rw[md];exact hd2.push _
 .refine #[rfl,?_];rw[Moved.eq_with hm];refine q s'.heap s'.toks hd' λb o e=>hm.heap b o .(ua) (aY _ (k2 _ _ (hkp _ _ e)));have hb:=aQ e;simp only[aU,cJ,or_false]at z;rcases z with z|z
  .rw[z]at hb;exact absurd hb (d5 _)
  .rw[z]at hb;exact absurd (Nat.lt_trans hb hdlt) (d5 _)
end
end DictP
namespace L2
open PySem PySem.Spec PyProof.Rows
inductive BW (K:Frag)(xs:List V)(H:Hp)(Q:VK):Prop
 | c:∀(p:Addr) (zs:List V) (kvs:List (Key×V)),xs=[.ref p]->SqL K H p zs->Paired (λ(z:V) (kv:Key×V)=>∃ b,z=.ref b/\H b=some (.tup [kV kv.1,kv.2])) zs kvs->(kvs.map (·.1)).Nodup->(∀ d,H d=none->Q (.ref d) (upd H d (.dK kvs)))->BW K xs H Q
section
variable {X:Cx}
def BX (I:Inv X Rf U H s):∀{zs:List V} {kvs:List (Key×V)} {us:List Value},Paired (λ(z:V) (kv:Key×V)=>∃ b,z=.ref b/\H b=some (.tup [kV kv.1,kv.2])) zs kvs->Vals zs us->
  ∃ ks:List (Key×Value),KV kvs ks/\∀(i:Nat) v,us[i]?=some v->∃ tp key k val,v=.ref tp/\s.heap.IsTuple tp (List.toArray [key,val])/\(cf X.prog X.w).is k key=true/\ks[i]?=some (k,val)
 | _,_,_,.nil,.nil=>#[[],.nil,λi v h=>by simp at h]
 | _::_,kv::_,_::_,.cons ⟨b,e1,e2⟩ t,.cons r q=>by
  subst e1;obtain ⟨ks,h1,h2⟩:=BX I t q;cases r
  obtain ⟨its,rv,p,_⟩:=I.tuple (SqT.of e2);cases rv with
  | cons r1 rv=>
   cases rv with
   | cons r2 rv=>
    cases rv
    refine #[(kv.1,_)::ks,.cons #[rfl,r2] h1,λi v hv=>?_];cases i with
    | zero=>
     simp only[List.getElem?_cons_zero,Option.some.injEq]at hv;subst hv;exact #[b,_,kv.1,_,rfl,p,jN r1,rfl]
    | succ i=>
     rw[uA]at hv ⊢;exact h2 i v hv
def BY:∀{kvs:List (Key×V)} {ks:List (Key×Value)},KV kvs ks->ks.map (·.1)=kvs.map (·.1)
 | _,_,.nil=>rfl
 | _,_,.cons r t=>by
  rw[bL,bL,BY t,r.1]
def Ji (hc:X.calm=true):cN X (.type "dict") (BW X.K):=by
 intro Rf s U H xs us Q I r h;obtain ⟨p,zs,kvs,rfl,hq,hp,hn,q⟩:=h;obtain ⟨u,rfl,rx⟩:=fX r;cases rx
 obtain ⟨its,rv,pl,hz⟩:=I.list hq;obtain ⟨ks,hk,hit⟩:=BX I hp rv;have l1:=Paired.length hp;have l2:=rv.length;have l3:=Paired.length hk;obtain ⟨⟨oc,od,oda,osl⟩,n,e,e1,e2,e3⟩:=pl;simp only at e1 e2 e3;subst e1 e2 e3;refine DictP.of_pairs (kvs:=ks) .(ha) e (by rw[BY hk];exact hn) (by rw[bT];lia) .(a) (λi v hv=>hit i v (by simpa using hv)) λh' tk hd k=>?_;exact #[.ref s.heap.objs.size,_,I.laid (a:=s.heap.objs.size) (o:=.dK kvs) (t':=tk) k (aq _) #[by lia,beq_eq_false_iff_ne.mpr (bt (bK I.big)),ks,hk,hd],rfl,q _ .(ja)]
end
end L2
namespace Kas
open PySem PySem.W PyProof.Rows
def run {α:Type}(f:Nat->Nat->Bool):KasT α->α
 | .ret a=>a
 | .ask i j k=>run f (k (f i j))
def lh {α β:Type}(f:Nat->Nat->Bool)(g:α->KasT β):∀ t:KasT α,run f (t.bind g)=run f (g (run f t))
 | .ret _=>rfl
 | .ask i j k=>lh f g (k (f i j))
def Res {α:Type}(n:Nat)(P:α->Prop):KasT α->Prop
 | .ret a=>P a
 | .ask i j k=>i<n/\j<n/\∀ b,Res n P (k b)
def Res.bind {α β:Type}{n:Nat}{P:α->Prop}{P':β->Prop}{g:α->KasT β}(h2:∀ a,P a->Res n P' (g a)):∀{t:KasT α},Res n P t->Res n P' (t.bind g)
 | .ret a,h=>h2 a h
 | .ask _ _ _,h=>#[h.1,h.2.1,λb=>Res.bind h2 (h.2.2 b)]
def Res.run {α:Type}{n:Nat}{P:α->Prop}(f:Nat->Nat->Bool):∀{t:KasT α},Res n P t->P (Kas.run f t)
 | .ret _,h=>h
 | .ask i j k,h=>Res.run (t:=k (f i j)) f (h.2.2 (f i j))
def wp_of {α:Type}{n:Nat}{P:α->Prop}{f:Nat->Nat->Bool}{cmp:Nat->Nat->(Bool->Shared->Prop)->Shared->Prop}{Q:α->Shared->Prop}{s:Shared}(hc:∀ i j C,i<n->j<n->C (f i j) s->cmp i j C s):∀{t:KasT α},Res n P t->Q (Kas.run f t) s->t.kasWp cmp Q s
 | .ret _,_,q=>q
 | .ask i j _,h,q=>hc i j _ h.1 h.2.1 (wp_of hc (h.2.2 (f i j)) q)
def Good (n:Nat)(p:Array Nat):Prop:=p.Perm .(K).toArray
def Good.size {n:Nat}{p:Array Nat}(h:Good n p):p.size=n:=by
 have:=h.size_eq;simpa using this
def Good.lt {n:Nat}{p:Array Nat}(h:Good n p)(hn:0<n)(k:Nat):p.getD k 0<n:=by
 by_cases c:k<p.size
 .have e:p.getD k 0=p[k]:=by simp[Array.getD,c]
  rw[e];have hm:p[k]∈ .(K).toArray:=h.mem_iff.mp (Array.getElem_mem c);simpa using hm
 .have e:p.getD k 0=0:=by simp[Array.getD,c]
  rw[e];exact hn
def Good.rev {n:Nat}{p:Array Nat}(h:Good n p)(i j:Nat):Good n (kas_rev p i j):=(mirror_perm p i j _).trans h
def Good.bub {n:Nat}{p:Array Nat}(h:Good n p)(i j:Nat):Good n (bubble p i j):=(bubble_perm p i j).trans h
section
variable {n:Nat}(hn:0<n)
include hn
def vH (h:Good n p):∀(f m:Nat),Res n (λ_=>True) (kas_asc p f m)
 | 0,_=>trivial
 | f+1,m=>#[h.lt hn _,h.lt hn _,λb=>by
  cases b with
  | true=>exact trivial
  | false=>exact vH h f (m+1)]
def pk:∀(f:Nat) {p:Array Nat} (m q:Nat),Good n p->Res n (λr:Array Nat×Nat×Nat=>Good n r.1) (kas_desc f p m q)
 | 0,_,_,_,h=>h
 | f+1,p,m,q,h=>#[h.lt hn _,h.lt hn _,λb=>by
  cases b with
  | true=>
   show Res n _ (if q>0 then kas_desc f (kas_rev p (m-(q+1)) m) (m+1) 0 else kas_desc f p (m+1) 0)
   split
   .exact pk f _ _ (h.rev _ _)
   .exact pk f _ _ h
  | false=>
   refine #[h.lt hn _,h.lt hn _,λc=>?_];cases c with
   | true=>exact h
   | false=>exact pk f _ _ h]
def BZ (h:Good n p)(m r:Nat):Res n (λx:Nat×Array Nat=>Good n x.2) (kas_tail3 m r p):=by
 refine Res.bind (λa _=>?_) (vH hn (h.rev 0 m) (r-m) m);exact h.rev _ _
def B0 (h:Good n p)(m r:Nat):Res n (λx:Nat×Array Nat=>Good n x.2) (kas_descPart m r p):=by
 refine Res.bind (λa ha=>?_) (pk hn _ _ _ h);show Res n _ (if a.2.2>0 then _ else _)
 split
 .exact BZ hn (Good.rev ha _ _) _ _
 .exact BZ hn ha _ _
def B1 (h:Good n p)(r:Nat):Res n (λx:Nat×Array Nat=>Good n x.2) (kas_count r p):=by
 refine Res.bind (λa _=>?_) (vH hn h _ _);show Res n _ (if (a==r)=true then _ else if a>1 then _ else _)
 split
 .exact h
 .split
  .refine #[h.lt hn _,h.lt hn _,λb=>?_];cases b with
   | true=>exact h
   | false=>exact B0 hn (h.rev _ _) _ _
  .exact B0 hn h _ _
def vI (h:Good n p)(k:Nat):∀(f l r:Nat),Res n (λ_=>True) (kas_place p k f l r)
 | 0,_,_=>trivial
 | f+1,l,r=>by
  show Res n _ (if l >= r then _ else _)
  split
  .exact trivial
  .refine #[h.lt hn _,h.lt hn _,λb=>?_];cases b with
   | true=>exact vI h k f _ _
   | false=>exact vI h k f _ _
def B5:∀(f:Nat) {p:Array Nat} (k:Nat),Good n p->Res n (Good n) (kas_bin f p k)
 | 0,_,_,h=>h
 | f+1,_,k,h=>Res.bind (λ_ _=>B5 f _ (h.bub _ _)) (vI hn h k _ _ _)
def sort_res:Res n (Good n) (kas_sort n):=by
 refine Res.bind (λa ha=>?_) (B1 hn (p:= .(K).toArray) (Array.Perm.refl _) n);show Res n _ (if a.1<n then _ else _)
 split
 .exact B5 hn _ _ ha
 .exact ha
end
structure Ord (f:Nat->Nat->Bool):Prop where
 irr:∀ a,f a a=false
 tr:∀ a b c,f a b=true->f b c=true->f a c=true
 neg:∀ a b c,f a c=true->f a b=true\/f b c=true
def Up (f:Nat->Nat->Bool)(p:Array Nat)(k:Nat):Prop:=∀ i j,i<j->j<k->f (p.getD j 0) (p.getD i 0)=false
def Down (f:Nat->Nat->Bool)(p:Array Nat)(k:Nat):Prop:=∀ i j,i<j->j<k->f (p.getD i 0) (p.getD j 0)=false
section
variable {f:Nat->Nat->Bool}(O:Ord f)
include O
def not_lt {a b c:Nat}(h1:f a b=false)(h2:f b c=false):f a c=false:=by
 cases e:f a c with
 | false=>rfl
 | true=>
  rcases O.neg a b c e with z|z
  .rw[h1]at z;cases z
  .rw[h2]at z;cases z
def asym {a b:Nat}(h:f a b=true):f b a=false:=by
 cases e:f b a with
 | false=>rfl
 | true=>
  have:=O.tr a b a h e;rw[O.irr]at this;cases this
def Jj {p:Array Nat}{m:Nat}(h1:1<=m)(h:Up f p m)(e:f (p.getD m 0) .(L)=false):Up f p (m+1):=λi j hij hj=>by
 by_cases c:j<m
 .exact h i j hij c
 .have:j=m:=by lia
  subst this;by_cases ci:i=j-1
  .rw[ci];exact e
  .exact not_lt O e (h i (j-1) .(a) .(a))
def vJ {p:Array Nat}:∀(fu m:Nat),1<=m->Up f p m->Up f p (run f (kas_asc p fu m))/\m<=run f (kas_asc p fu m)/\run f (kas_asc p fu m)<=m+fu/\(run f (kas_asc p fu m)<m+fu->f (p.getD (run f (kas_asc p fu m)) 0) (p.getD (run f (kas_asc p fu m)-1) 0)=true)
 | 0,m,_,h=>#[h,aq _,aq _,λz=>absurd z (by show ¬ m<m+0;lia)]
 | fu+1,m,h1,h=>by
  have step:run f (kas_asc p (fu+1) m)=if f (p.getD m 0) .(L)=true then m else run f (kas_asc p fu (m+1)):=by
   show run f (if f (p.getD m 0) .(L)=true then .ret m else kas_asc p fu (m+1))=_
   split<;>rfl
  rw[step];cases e:f (p.getD m 0) .(L) with
  | true=>exact #[h,aq _,by rw[ak rfl];lia,λ_=>e]
  | false=>
   rw[ao .(q)];obtain ⟨a1,a2,a3,a4⟩:=vJ fu (m+1) .(a) (Jj O h1 h e);exact #[a1,by lia,by lia,λz=>a4 .(a)]
def vK {p:Array Nat}{k:Nat}(h:Up f p k):∀(fu l r:Nat),l<=r->r<=k->r-l<=fu->(∀ i,i<l->f (p.getD k 0) (p.getD i 0)=false)->(∀ i,r<=i->i<k->f (p.getD k 0) (p.getD i 0)=true)->
  run f (kas_place p k fu l r)<=k/\(∀ i,i<run f (kas_place p k fu l r)->f (p.getD k 0) (p.getD i 0)=false)/\(∀ i,run f (kas_place p k fu l r)<=i->i<k->f (p.getD k 0) (p.getD i 0)=true)
 | 0,l,r,h1,h2,h3,h4,h5=>#[by show l<=k;lia,h4,λi hi=>h5 i (by have:l<=i:=hi;lia)]
 | fu+1,l,r,h1,h2,h3,h4,h5=>by
  by_cases c:l >= r
  .have e:run f (kas_place p k (fu+1) l r)=l:=by
    show run f (if l >= r then _ else _)=l
    rw[ak c];rfl
   rw[e];exact #[by lia,h4,λi hi=>h5 i .(a)]
  .have e:run f (kas_place p k (fu+1) l r)=if f (p.getD k 0) (p.getD ((l+r)/2) 0)=true then run f (kas_place p k fu l ((l+r)/2)) else run f (kas_place p k fu ((l+r)/2+1) r):=by
    show run f (if l >= r then _ else _)=_
    rw[ao c];show run f (if f (p.getD k 0) (p.getD ((l+r)/2) 0)=true then _ else _)=_
    split<;>rfl
   rw[e];cases e2:f (p.getD k 0) (p.getD ((l+r)/2) 0) with
   | true=>
    rw[ak rfl];refine vK h fu l _ .(a) .(a) .(a) h4 λi hi hk=>?_;by_cases ci:i=(l+r)/2
    .rw[ci];exact e2
    .rcases O.neg _ (p.getD i 0) _ e2 with z|z
     .exact z
     .rw[h _ i .(a) hk]at z;cases z
   | false=>
    rw[ao .(q)];refine vK h fu _ r .(a) h2 .(a) (λi hi=>?_) h5;by_cases ci:i=(l+r)/2
    .rw[ci];exact e2
    .exact not_lt O e2 (h i _ .(a) .(a))
omit O in
def gd (q:Array Nat)(x:Nat):q.getD x 0=(q[x]?).getD 0:=by
 by_cases h:x<q.size
 .simp[Array.getD,h]
 .simp[Array.getD,h]
omit O in
def B6 {p:Array Nat}{k d:Nat}(hk:k<p.size)(hd:d<=k)(j:Nat):(bubble p k d).getD j 0=if j=k-d then p.getD k 0 else if k-d<j/\j<=k then p.getD (j-1) 0 else p.getD j 0:=by
 rw[gd,getElem?_bubble hk d hd j,gd p k,gd p (j-1),gd p j];split
 .rfl
 .split<;>rfl
def Jk {p:Array Nat}{k l:Nat}(hk:k<p.size)(h:Up f p k)(hl:l<=k)(h1:∀ i,i<l->f (p.getD k 0) (p.getD i 0)=false)(h2:∀ i,l<=i->i<k->f (p.getD k 0) (p.getD i 0)=true):Up f (bubble p k (k-l)) (k+1):=λi j hij hj=>by
 rw[B6 hk .(a),B6 hk .(a),show k-(k-l)=l by lia];by_cases cj:j=l
 .rw[ak cj,ao .(a),ao .(a)];exact h1 i .(a)
 .rw[ao cj];by_cases cj2:l<j/\j<=k
  .rw[ak cj2];by_cases ci:i=l
   .rw[ak ci];exact asym O (h2 (j-1) .(a) .(a))
   .rw[ao ci];by_cases ci2:l<i/\i<=k
    .rw[ak ci2];exact h (i-1) (j-1) .(a) .(a)
    .rw[ao ci2];exact h i (j-1) .(a) .(a)
  .rw[ao cj2,ao .(a),ao .(a)];exact h i j hij .(a)
def B7:∀(fu:Nat) {p:Array Nat} (k:Nat),k+fu<=p.size->Up f p k->Up f (run f (kas_bin fu p k)) (k+fu)
 | 0,_,_,_,h=>h
 | fu+1,p,k,hz,h=>by
  have e:run f (kas_bin (fu+1) p k)=run f (kas_bin fu (bubble p k (k-run f (kas_place p k k 0 k))) (k+1)):=lh f _ _;rw[e];obtain ⟨a1,a2,a3⟩:=vK O h k 0 k (cv _) (aq _) .(a) (λi hi=>absurd hi (iR _)) (λi hi hk=>absurd hk .(a));have:=B7 fu (k+1) (by rw[bubble_size];lia) (Jk O .(a) h a1 a2 a3);rw[show k+(fu+1)=k+1+fu by lia];exact this
omit O in
def jg {p:Array Nat}{i j:Nat}(hj:j<=p.size)(k:Nat):(kas_rev p i j).getD k 0=if i<=k/\k<j then p.getD (i+j-1-k) 0 else p.getD k 0:=by
 unfold kas_rev;rw[gd,getElem?_mirror_all hj k,gd p (i+j-1-k),gd p k];split<;>rfl
omit O in
def pq (p:Array Nat)(i j:Nat):(kas_rev p i j).size=p.size:=mirror_size _ _ _ _
omit O in
def Jl {p:Array Nat}{m:Nat}(hm:m<=p.size)(h:Down f p m):Up f (kas_rev p 0 m) m:=λi j hij hj=>by
 rw[jg hm,jg hm,ak .(a),ak .(a)];exact h _ _ .(a) .(a)
def mK (f:Nat->Nat->Bool)(p:Array Nat)(m q:Nat):Prop:=∀ i j,m-(q+1)<=i->i<m->m-(q+1)<=j->j<m->f (p.getD i 0) (p.getD j 0)=false
omit O in
def B8 {p:Array Nat}{m q:Nat}(hm:m<=p.size)(hq:q+1<=m)(h:Down f p m)(hA:mK f p m q):Down f (kas_rev p (m-(q+1)) m) m:=λi j hij hj=>by
 rw[jg hm,jg hm];by_cases ci:m-(q+1)<=i/\i<m
 .rw[ak ci,ak .(a)];exact hA _ _ .(a) .(a) .(a) .(a)
 .rw[ao ci];split
  .exact h _ _ .(a) .(a)
  .exact h _ _ .(a) .(a)
def vL {m:Nat}(h1:1<=m)(h:Down f p m)(e:f .(L) (p.getD m 0)=false):Down f p (m+1):=λi j hij hj=>by
 by_cases c:j<m
 .exact h i j hij c
 .have:j=m:=by lia
  subst this;by_cases ci:i=j-1
  .rw[ci];exact e
  .exact not_lt O (h i (j-1) .(a) .(a)) e
def pw:∀(fu:Nat) {p:Array Nat} (m q:Nat),q+1<=m->m+fu<=p.size->Down f p m->mK f p m q->
  m<= .(R).2.1/\ .(R).2.1<=m+fu/\ .(R).2.2+1<= .(R).2.1/\ .(R).1.size=p.size/\Down f .(R).1 .(R).2.1/\mK f .(R).1 .(R).2.1 .(R).2.2
 | 0,p,m,q,hq,hz,h,hA=>#[aq _,aq _,hq,rfl,h,hA]
 | fu+1,p,m,q,hq,hz,h,hA=>by
  have one:∀{p':Array Nat},mK f p' (m+1) 0:=λ{p'} i j a b c d=>by
   have:i=j:=by lia
   subst this;exact O.irr _
  cases e:f (p.getD m 0) .(L) with
  | true=>
   have st:run f (kas_desc (fu+1) p m q)=run f (if q>0 then kas_desc fu (kas_rev p (m-(q+1)) m) (m+1) 0 else kas_desc fu p (m+1) 0):=by
    show run f (if f (p.getD m 0) .(L)=true then _ else _)=_
    rw[e,ak rfl]
   rw[st];by_cases cq:q>0
   .rw[ak cq];have hD:=B8 .(a) hq h hA;have hl:f ((kas_rev p (m-(q+1)) m).getD (m-1) 0) ((kas_rev p (m-(q+1)) m).getD m 0)=false:=by
     rw[jg .(a),jg .(a),ak .(a),ao .(a)];exact not_lt O (hA _ (m-1) .(a) .(a) .(a) .(a)) (asym O e)
    obtain ⟨b1,b2,b3,b4,b5,b6⟩:=pw fu (p:=kas_rev p (m-(q+1)) m) (m+1) 0 .(a) (by rw[pq];lia) (vL O .(a) hD hl) one;exact #[by lia,by lia,b3,by rw[b4,pq],b5,b6]
   .rw[ao cq];obtain ⟨b1,b2,b3,b4,b5,b6⟩:=pw fu (p:=p) (m+1) 0 .(a) .(a) (vL O .(a) h (asym O e)) one;exact #[by lia,by lia,b3,b4,b5,b6]
  | false=>
   have st:run f (kas_desc (fu+1) p m q)=if f .(L) (p.getD m 0)=true then (p,m,q) else run f (kas_desc fu p (m+1) (q+1)):=by
    show run f (if f (p.getD m 0) .(L)=true then _ else _)=_
    rw[e,ao .(q)];show run f (if f .(L) (p.getD m 0)=true then _ else _)=_
    split<;>rfl
   rw[st];cases e2:f .(L) (p.getD m 0) with
   | true=>
    rw[ak rfl];exact #[aq _,by show m<=_;lia,hq,rfl,h,hA]
   | false=>
    rw[ao .(q)];have hA2:mK f p (m+1) (q+1):=λi j a b c d=>by
     by_cases ci:i=m
     .by_cases cj:j=m
      .rw[ci,cj];exact O.irr _
      .rw[ci];exact not_lt O e (hA (m-1) j .(a) .(a) .(a) .(a))
     .by_cases cj:j=m
      .rw[cj];exact not_lt O (hA i (m-1) .(a) .(a) .(a) .(a)) e2
      .exact hA i j .(a) .(a) .(a) .(a)
    obtain ⟨b1,b2,b3,b4,b5,b6⟩:=pw fu (p:=p) (m+1) (q+1) .(a) .(a) (vL O .(a) h e2) hA2;exact #[by lia,by lia,b3,b4,b5,b6]
def Ca {p:Array Nat}{m r:Nat}(h1:1<=m)(hm:m<=r)(hr:r<=p.size)(h:Down f p m):m<=(run f (kas_tail3 m r p)).1/\(run f (kas_tail3 m r p)).1<=r/\Up f (run f (kas_tail3 m r p)).2 (run f (kas_tail3 m r p)).1:=by
 have e:run f (kas_tail3 m r p)=(run f (kas_asc (kas_rev p 0 m) (r-m) m),kas_rev p 0 m):=lh f _ _;rw[e];obtain ⟨a1,a2,a3,_⟩:=vJ O (p:=kas_rev p 0 m) (r-m) m h1 (Jl .(a) h);exact #[a2,by show run f _<=r;lia,a1]
def Cb {p:Array Nat}{m r:Nat}(h1:1<=m)(hm:m+1<=r)(hr:r<=p.size)(h:Down f p (m+1)):1<=(run f (kas_descPart m r p)).1/\(run f (kas_descPart m r p)).1<=r/\Up f (run f (kas_descPart m r p)).2 (run f (kas_descPart m r p)).1:=by
 have e:run f (kas_descPart m r p)=run f (if .(S).2.2>0 then kas_tail3 .(S).2.1 r (kas_rev .(S).1 (.(S).2.1-(.(S).2.2+1)) .(S).2.1) else kas_tail3 .(S).2.1 r .(S).1):=lh f _ _
 rw[e];obtain ⟨b1,b2,b3,b4,b5,b6⟩:=pw O (r - (m+1)) (p:=p) (m+1) 0 (by lia) (by lia) h (λi j a b c d=>by
  have:i=j:=by lia
  subst this;exact O.irr _)
 generalize run f (kas_desc (r-(m+1)) p (m+1) 0)=t at b1 b2 b3 b4 b5 b6;split
 .obtain ⟨c1,c2,c3⟩:=Ca O (p:=kas_rev t.1 (t.2.1-(t.2.2+1)) t.2.1) (m:=t.2.1) (r:=r) .(a) .(a) (by rw[pq,b4];exact hr) (B8 (by rw[b4];lia) b3 b5 b6);exact #[by lia,c2,c3]
 .obtain ⟨c1,c2,c3⟩:=Ca O (p:=t.1) (m:=t.2.1) (r:=r) .(a) .(a) (by rw[b4];exact hr) b5;exact #[by lia,c2,c3]
def Jm {p:Array Nat}{r:Nat}(h1:1<=r)(hr:r<=p.size):1<=(run f (kas_count r p)).1/\(run f (kas_count r p)).1<=r/\Up f (run f (kas_count r p)).2 (run f (kas_count r p)).1:=by
 obtain ⟨a1,a2,a3,a4⟩:=vJ O (p:=p) (r-1) 1 (aq _) (λi j hij hj=>absurd hj .(a));have e:run f (kas_count r p)=run f (if (run f .(za)==r)=true then .ret (run f .(za),p) else if run f .(za)>1 then .ask (p.getD 0 0) (p.getD (run f .(za)-1) 0) λc=>if c=true then .ret (run f .(za),p) else kas_descPart (run f .(za)) r (kas_rev p 0 (run f .(za))) else kas_descPart (run f .(za)) r p):=lh f _ _
 rw[e];generalize run f .(za)=m at a1 a2 a3 a4;by_cases c:m=r
 .subst c;rw[ak .(k)];exact #[a2,aq _,a1]
 .rw[ao (by simpa using c)];have hlt:=a4 .(a);by_cases c1:m>1
  .rw[ak c1];cases e2:f (p.getD 0 0) .(L) with
   | true=>
    have st:run f (.ask (p.getD 0 0) .(L) λc=>if c=true then .ret (m,p) else kas_descPart m r (kas_rev p 0 m))=(m,p):=by
     show run f (if f (p.getD 0 0) .(L)=true then _ else _)=_
     rw[e2,ak rfl];rfl
    rw[st];exact #[a2,by show m<=r;lia,a1]
   | false=>
    have st:run f (.ask (p.getD 0 0) .(L) λc=>if c=true then .ret (m,p) else kas_descPart m r (kas_rev p 0 m))=run f (kas_descPart m r (kas_rev p 0 m)):=by
     show run f (if f (p.getD 0 0) .(L)=true then _ else _)=_
     rw[e2,ao .(q)]
    rw[st];have low:∀ i,i<m->f (p.getD i 0) (p.getD 0 0)=false:=λi hi=>by
     by_cases ci:i=0
     .rw[ci];exact O.irr _
     .exact a1 0 i .(a) hi
    have high:∀ j,j<m->f .(L) (p.getD j 0)=false:=λj hj=>by
     by_cases cj:j=m-1
     .rw[cj];exact O.irr _
     .exact a1 j (m-1) .(a) .(a)
    have all:∀ i j,i<m->j<m->f (p.getD i 0) (p.getD j 0)=false:=λi j hi hj=>not_lt O (low i hi) (not_lt O e2 (high j hj));refine Cb O a2 .(a) (by rw[pq];exact hr) λi j hij hj=>?_;rw[jg .(a),jg .(a),ak .(a)];by_cases cj:j<m
    .rw[ak .(a)];exact all _ _ .(a) .(a)
    .rw[ao .(a),show j=m by lia];exact not_lt O (all _ (m-1) .(a) .(a)) (asym O hlt)
  .rw[ao c1];have hm1:m=1:=by lia
   subst hm1;refine Cb O (aq _) .(a) hr λi j hij hj=>?_;rw[show i=0 by lia,show j=1 by lia];exact asym O hlt
def sort_run {n:Nat}(hn:0<n):Up f (run f (kas_sort n)) n/\Good n (run f (kas_sort n)):=by
 refine #[?_,(sort_res hn).run f];obtain ⟨a1,a2,a3⟩:=Jm O (p:= .(K).toArray) (r:=n) hn .(k);have g:=(B1 hn (p:= .(K).toArray) (Array.Perm.refl _) n).run f;have e:run f (kas_sort n)=run f (if (run f (kas_count n .(K).toArray)).1<n then kas_bin (n-max (run f (kas_count n .(K).toArray)).1 1) (run f (kas_count n .(K).toArray)).2 (max (run f (kas_count n .(K).toArray)).1 1) else .ret (run f (kas_count n .(K).toArray)).2):=lh f _ _
 rw[e];generalize run f (kas_count n .(K).toArray)=t at a1 a2 a3 g;have hs:=Good.size g;rw[Nat.max_eq_left a1];split
 .have:=B7 O (n-t.1) (p:=t.2) t.1 .(a) a3;rw[show t.1+(n-t.1)=n by lia]at this;exact this
 .show Up f t.2 n;rw[show n=t.1 by lia];exact a3
end
end Kas
namespace Tim
open PySem PySem.W PyProof.Rows
section
variable {prog:Program}{w:World}{A:Around}{E:Value->Shared->Prop}{s:Shared}{κ:KeyKind}{kd:SortKind}
def Jn {vs:List Value}(keys:∀ v∈vs,∃ k,κ.keyOf v=some k)(hO:LtG prog w A s κ kd)(h2:2<=vs.length)(h64:vs.length<64) :
  wpAny .(i) A (sortRuns'.run (SortSt.mk' kd .(na) (List.toArray []) 7 none)) (λr s'=>s'=s/\(arrOf r.2).Perm (pairsOf vs)/\failedOf r.2=none/\Up κ (arrOf r.2) 0 (pairsOf vs).size) E s:=by
 obtain ⟨f,hf⟩:∃ f:Nat->Nat->Bool,f=λi j=>κ.blt (keyV κ (vs.getD i .none)) (keyV κ (vs.getD j .none)):= .(Ba);have O:Kas.Ord f:=by
  subst hf;exact #[λa=>κ.irrefl _,λa b c=>κ.trans _ _ _,λa b c=>κ.negTrans _ _ _]
 have hn:0<vs.length:=by lia
 have hk:∀ i,i<vs.length->κ.keyOf (vs.getD i .none)=some (keyV κ (vs.getD i .none)):=λi hi=>by
  have e:vs.getD i .none=vs[i]:=by rw[aF,aA hi];rfl
  obtain ⟨k,hk⟩:=keys _ (cC hi);rw[e];unfold keyV;rw[hk];rfl
 refine kat_run (ks:=vs) rfl h2 h64 (Q:=λst' s'=>s'=s/\(arrOf st').Perm (pairsOf vs)/\failedOf st'=none/\Up κ (arrOf st') 0 (pairsOf vs).size) (G:=λp s'=>s'=s/\Kas.Up f p vs.length/\Kas.Good vs.length p) (λp st' s' hp har hfl hG=>#[hG.1,?_,hfl,?_]) (Kas.wp_of (n:=vs.length) (f:=f) (λi j C hi hj hC=>?_) (Kas.sort_res hn) #[rfl,Kas.sort_run O hn])
 .rw[har];have hm:(p.map (kas_item .(na))).Perm ((List.range vs.length).toArray.map (kas_item .(na))):=by
   have h1:=(uz.mp hG.2.2).map (kas_item .(na));refine uz.mpr ?_;rw[Array.toList_map,Array.toList_map];exact h1
  have hr:=kas_range .(na);rw[show .(na).size=vs.length by simp]at hr;rw[hr]at hm;exact hm
 .intro i j _ hij hj;rw[pairsOf_size]at hj;have hat:∀ x,x<vs.length->kAt κ (arrOf st') x=keyV κ (vs.getD (p.getD x 0) .none):=λx hx=>by
   have hxp:x<p.size:=by lia
   rw[u9 (by rw[har,Array.size_map];exact hxp)];have e:(arrOf st')[x]'(by rw[har,Array.size_map];exact hxp)=(vs.getD (p.getD x 0) .none,vs.getD (p.getD x 0) .none):=by
    have e1:(arrOf st')[x]?=some (kas_item .(na) (p.getD x 0)):=by
     rw[har,Array.getElem?_map,Array.getElem?_eq_getElem hxp];show some (kas_item _ p[x])=_;have:p.getD x 0=p[x]:=by simp[Array.getD,hxp]
     rw[this]
    rw[kat_item rfl]at e1;exact (Array.getElem?_eq_some_iff.mp e1).2
   rw[e];rfl
  rw[hat i .(a),hat j hj];by_cases c:i=j
  .subst c;exact KeyOrd.kle_refl _
  .have:=hG.2.1 i j .(a) hj;subst hf;exact this
 .unfold kas_ask;subst hf;exact hO _ _ _ _ _ _ (hk i hi) (hk j hj) hC
def Jo {a:Addr}{vs:List Value}{n:Nat}{P:Fin->Shared->Prop}(ho:s.heap.get? a=some (seqObj "list" vs.toArray n))(hz:vs.length<=sizeLine)(h64:vs.length<64)(keys:∀ v∈vs,∃ k,κ.keyOf v=some k)
  (hlt:∀ h',mG a s.heap h'->LtG prog w A { s with heap:=h' } κ kd)
  (hkd:∀(h':Heap) (E:Value->Shared->Prop) (Q:SortKind->Shared->Prop),mG a s.heap h'->2<=vs.length->Q kd { s with heap:=h' }->wpAny .(i) A (keyKind' vs.toArray) Q E { s with heap:=h' })
  (h:∀ out:List Value,out.Perm vs->out.Pairwise (λx y=>κ.kle (keyV κ x) (keyV κ y))->P (.done (.ret .none)) { s with heap:=sortedHeap s.heap a vs out.toArray }) :
  wpAny .(i) A (Builtin.«list.sort» #[[.ref a],[]]) P E s:=by
 rw[list_sort_plain];have hlt0:a<s.heap.objs.size:=aQ ho;refine ax (listItems_at ho rfl ?_);refine ax (listUpdate_at ho rfl ?_ (by simpa using hz) (cv _));obtain ⟨m,ho1⟩:∃ m,(s.heap.update a (Obj.mapSeq λ_=>(List.toArray []))).get? a=some (seqObj "list" (List.toArray []) m):=#[_,get?_update_seq ho (λ_=>(List.toArray []))];refine ax (seqEpoch_at ho1 rfl ?_);refine ax (wpAny_newTuple ?_ (by simpa using hz));refine ax (wpAny_newList ?_);refine wpAny_holding ?_;have z1:(s.heap.update a (Obj.mapSeq λ_=>(List.toArray []))).objs.size=s.heap.objs.size:=by rw[Heap.size_update]
 have hk:mG a s.heap (((s.heap.update a (Obj.mapSeq λ_=>(List.toArray []))).push (seqObj "tuple" vs.toArray 0)).push (seqObj "list" (List.toArray []) 0)):=λb o hb e=>
  aY _ (aY _ ((jD _ _ (bt hb)).trans e))
 have ho6:(((s.heap.update a (Obj.mapSeq λ_=>(List.toArray []))).push (seqObj "tuple" vs.toArray 0)).push (seqObj "list" (List.toArray []) 0)).get? a=some (seqObj "list" (List.toArray []) m):=aY _ (aY _ ho1);show wpAny (model prog w) A _ P E { s with heap:=((s.heap.update a (Obj.mapSeq λ_=>(List.toArray []))).push (seqObj "tuple" vs.toArray 0)).push (seqObj "list" (List.toArray []) 0) };dsimp only;have fin:∀ st':SortSt,(arrOf st').Perm (pairsOf vs)->failedOf st'=none->Up κ (arrOf st') 0 (pairsOf vs).size->wpAny (model prog w) A (do
   let touched:=(<-seqEpoch a) != m
   Builtin.List.listUpdate (.ref a) λ_=>(arrOf st').map (·.2)
   if let some e:=failedOf st' then rule "list.sort.comparison-raised";throw e
   if touched then rule "list.sort.modified";raiseError "ValueError" "list modified during sort"
   ret .none) P E { s with heap:=((s.heap.update a (Obj.mapSeq λ_=>(List.toArray []))).push (seqObj "tuple" vs.toArray 0)).push (seqObj "list" (List.toArray []) 0) }:=λst' hp hf hU=>by
  refine ax (seqEpoch_at ho6 rfl ?_);refine ax (listUpdate_at ho6 rfl ?_ (cv _) (by
   refine bW (lZ ((Array.size_map ..).trans (hp.size_eq.trans (pairsOf_size _)))) ?_;lia))
  rw[hf];simp only[bne_self_eq_false,kq,if_false];obtain ⟨o1,o2⟩:=GZ hp hU;have:=h _ o1 o2;have e:((arrOf st').toList.map (·.2)).toArray=(arrOf st').map (·.2):=by rw[<-Array.toList_map,Array.toArray_toList]
  rw[e]at this;exact aM this
 by_cases h2:vs.toArray.size<2
 .rw[ak h2,ak h2];refine ax (aM ?_);rw[StateT.run_pure];refine ax (aM ?_);refine fin (SortSt.mk' general' .(na) (List.toArray []) 7 none) (Array.Perm.refl _) rfl ?_;intro i j q1 q2 q3;have:i=j:=by
   rw[pairsOf_size]at q3;simp at h2;lia
  subst this;exact KeyOrd.kle_refl _
 .rw[ao h2,ao h2];have h2':2<=vs.length:=by
   simp at h2;lia
  refine ax (hkd _ _ _ hk h2' ?_);refine ax (cW (Jn keys (hlt _ hk) h2' h64) ?_ λ_ _ e=>e);rintro ⟨⟨⟩,st'⟩ s' ⟨rfl,hp,hf,hs⟩;exact fin st' hp hf hs
def Jp {l:Addr}{vs:List Value}{Q:Value->Shared->Prop}(hl:∀{Q':List Value->Shared->Prop},Q' vs { s with heap:= .(ba).update s.heap.objs.size (Obj.mapSeq (· ++ vs.toArray)) }->wpAny .(i) A.in1 (collect (.ref l)) Q' E s)(hz:vs.length<=sizeLine)(h64:vs.length<64)(keys:∀ v∈vs,∃ k,κ.keyOf v=some k)
  (hlt:∀ h',(∀ b o,s.heap.get? b=some o->h'.get? b=some o)->LtG prog w A.in1.in1 { s with heap:=h' } κ kd)
  (hkd:∀(h':Heap) (E:Value->Shared->Prop) (Q:SortKind->Shared->Prop),(∀ b o,s.heap.get? b=some o->h'.get? b=some o)->2<=vs.length->Q kd { s with heap:=h' }->wpAny .(i) A.in1.in1 (keyKind' vs.toArray) Q E { s with heap:=h' })
  (h:∀(out:List Value) (h':Heap) (c:Nat),out.Perm vs->out.Pairwise (λx y=>κ.kle (keyV κ x) (keyV κ y))->(∀ b o,s.heap.get? b=some o->h'.get? b=some o)->
   h'.get? (s.heap.objs.size+1)=some (seqObj "list" out.toArray c)->Q (.ref (s.heap.objs.size+1)) { s with heap:=h' }) :
  wpAny .(i) A (call (.builtin "sorted") [.ref l]) Q E s:=by
 refine Calls.call_function_entry kind_sorted plain_sorted entry_sorted (args_sorted1 _) ?_;unfold Builtin.«sorted»;refine ax (m:=checkCount "sorted" 1 1 _) (aM ?_);refine ax (hl ?_);refine ax (wpAny_newList ?_ (by simpa using hz));have z1:(.(ba).update s.heap.objs.size (Obj.mapSeq (· ++ vs.toArray))).objs.size=s.heap.objs.size+1:=by
  rw[Heap.size_update,size_push']
 have hn:((.(ba).update s.heap.objs.size (Obj.mapSeq (· ++ vs.toArray))).push (seqObj "list" vs.toArray 0)).get? (s.heap.objs.size+1)=some (seqObj "list" vs.toArray 0):=by
  rw[<-z1];exact cB _ rfl
 have hk:∀ b o,s.heap.get? b=some o->((.(ba).update s.heap.objs.size (Obj.mapSeq (· ++ vs.toArray))).push (seqObj "list" vs.toArray 0)).get? b=some o:=λb o e=>
  aY _ ((jD _ _ (jz (aQ e))).trans (aY _ e))
 show wpAny _ _ _ _ _ { s with heap:=((s.heap.push (seqObj "list" (List.toArray []) 0)).update s.heap.objs.size (Obj.mapSeq (· ++ vs.toArray))).push (seqObj "list" vs.toArray 0) };rw[z1];generalize ((s.heap.push (seqObj "list" (List.toArray []) 0)).update s.heap.objs.size (Obj.mapSeq (· ++ vs.toArray))).push (seqObj "list" vs.toArray 0)=h1 at hn hk ⊢;have up:∀ h',mG (s.heap.objs.size+1) h1 h'->∀ b o,s.heap.get? b=some o->h'.get? b=some o:=λh' kb b o e=>kb b o (λz=>by
  have:=aQ e;rw[z]at this;exact absurd this (ku.mpr (fD _))) (hk b o e)
 refine ax (wpAny_holding (wpAny_call_entry slot_list_sort #[_,hn,rfl] entry_list_sort (Jo (s:={ s with heap:=h1 }) hn hz h64 keys (λh' kb=>hlt h' (up h' kb)) (λh' E Q kb h2 q=>hkd h' E Q (up h' kb) h2 q) λout p1 p2=> .(A)) (args_list_sort _)));obtain ⟨kb,c,hc⟩:=G0 (out:=out) hn;exact aM #[_,rfl,h out _ c p1 p2 (up _ kb) hc]
end
end Tim
namespace L2
open PySem PySem.Spec PyProof.Rows
inductive Cc (α:Type)[Rep α][Srt α](K:Frag)(xs:List V)(H:Hp)(Q:VK):Prop
 | c:∀(p:Addr) (vs:List V) (as:List α),xs=[.ref p]->SqL K H p vs->aD K H as vs->as.length<64->(∀ l ws,H l=none->aD K H (cT as) ws->Q (.ref l) (upd H l (.lst ws)))->Cc α K xs H Q
inductive Cd (α:Type)[Rep α][Srt α](K:Frag)(xs:List V)(H:Hp)(Q:VK):Prop
 | c:∀(p:Addr) (vs:List V) (as:List α),xs=[.ref p]->SqT K H p vs->aD K H as vs->as.length<64->(∀ l ws,H l=none->aD K H (cT as) ws->Q (.ref l) (upd H l (.lst ws)))->Cd α K xs H Q
section
variable {X:Cx}
def Ce {α:Type}[Rep α][Srt α]{Q:VK}{p:Addr}{vs:List V}{its:List Value}{as:List α}(I:Inv X Rf U H s)(rv:Vals vs its)(hz:vs.length<=sizeLine)(ha:aD X.K H as vs)(h64:as.length<64)
  (col:∀{Q':List Value->Shared->Prop},Q' its { s with heap:= .(ba).update s.heap.objs.size (Obj.mapSeq (· ++ its.toArray)) }->wpAny .(d) X.A.in1 (collect (.ref p)) Q' X.xe s)
  (q:∀ l ws,H l=none->aD X.K H (cT as) ws->Q (.ref l) (upd H l (.lst ws))):wpAny .(d) X.A (call (.builtin "sorted") [.ref p]) .(X) X.xe s:=by
 have hlen:=rv.length;obtain ⟨km,kk⟩:=Bx I ha rv;refine Tim.Jp (κ:=srtKind α X.K H) (kd:=Srt.kd α) col .(a) (by have:=ha.length;lia) (λv hv=>?_) (λh' k E x y a b Q hx hy q=>?_) (λh' E Q k h2 q=>Srt.kind (Inv.kept (t':=s.toks) I k) ha rv h2 q) λout h' c p1 p2 k hc=>?_
 .obtain ⟨a,_,_,_,e⟩:=kk v hv;exact #[a,e]
 .obtain ⟨x1,r1,e1⟩:=Bs hx;obtain ⟨y1,r2,e2⟩:=Bs hy;exact Srt.lt (Inv.kept (t':=s.toks) I k) e1 e2 r1 r2 q
 .obtain ⟨ws,bs,w1,w2,w3⟩:=Bw (α:=α) (K:=X.K) (H:=H) (out:=out) λv hv=>kk v (p1.mem_iff.mp hv);have eb:bs=cT as:=by
   refine o8 ?_ ?_
   .rw[w3,<-km];exact p1.map _
   .rw[w3];exact l7.mpr p2
  rw[eb]at w2;have hw:ws.length<=sizeLine:=by
   have:=w1.length;have:=p1.length_eq;lia
  exact #[.ref (s.heap.objs.size+1),_,I.laid (a:=s.heap.objs.size+1) (o:=.lst ws) (t':=s.toks) k (fD _) #[hw,out,c,w1,hc],rfl,q _ ws (I.hok.fresh (fD _)) w2]
def px (α:Type)[Rep α][Srt α]:cN X (.builtin "sorted") (Cc α X.K):=by
 intro Rf s U H xs us Q I r h;obtain ⟨p,vs,as,rfl,hq,ha,h64,q⟩:=h;obtain ⟨u,rfl,rx⟩:=fX r;cases rx
 obtain ⟨its,rv,pl,hz⟩:=I.list hq;exact Ce I rv hz ha h64 (λh=>PyProof.Rows.collect_list pl.isList h (by have:=rv.length;lia)) q
def Cf (α:Type)[Rep α][Srt α]:cN X (.builtin "sorted") (Cd α X.K):=by
 intro Rf s U H xs us Q I r h;obtain ⟨p,vs,as,rfl,hq,ha,h64,q⟩:=h;obtain ⟨u,rfl,rx⟩:=fX r;cases rx
 obtain ⟨its,rv,pl,hz⟩:=I.tuple hq;exact Ce I rv hz ha h64 (λh=>Im (show s.heap.IsTuple p its.toArray from pl) h (by have:=rv.length;lia)) q
end
def bJ.there {w:World}{h:Heap}{a:Addr}{o:HO}(x:bJ P w H h a o):∃ ob,h.get? a=some ob:=by
 cases o with
 | lst xs=>obtain ⟨_,_,_,_,e⟩:=x;exact #[_,e]
 | tup xs=>obtain ⟨_,_,_,o,e,_⟩:=x;exact #[_,e]
 | dK kvs=>obtain ⟨_,_,_,_,o,_,_,e,_⟩:=x;exact #[_,e]
 | dT kvs=>obtain ⟨_,_,_,_,o,_,_,e,_⟩:=x;exact #[_,e]
 | set S n=>obtain ⟨o,_,_,_,e,_⟩:=x;exact #[_,e]
 | ins C dx fs=>obtain ⟨_,_,_,e,_⟩:=x;exact #[_,e]
 | own y=>obtain ⟨o,e⟩:=x;exact #[o,e]
 | xd fs=>obtain ⟨_,⟨o,_,_,e,_⟩,_⟩:=x;exact #[_,e]
 | rng lo hi=>obtain ⟨_,_,_,e⟩:=x;exact #[_,e]
 | frz ob u=>obtain ⟨e,_⟩:=x;exact #[_,e]
 | tbl ps=>exact #[_,(show h.get? a=some _ from x)]
 | met f y=>exact #[_,(show h.get? a=some _ from x)]
 | ext φ=>obtain ⟨_,⟨o,e⟩,_⟩:=x;exact #[o,e]
structure Air (P:Program)(w:World)(l:List Env)(H:Hp)(old:Heap)(a:Addr)(cls fl:Value)(H':Hp)(h:Heap):Prop where
 un:Un (frs l) [] H H' old h
 hok:HOk P w H' h
 ua:H' a=none
 na:old.get? a=none
 uf:∀ b∈frs l,H' b=none
 nf:∀ b∈frs l,∃ o,h.get? b=some o/\∀ vs,o.data≠.fields vs
 tr:∃(a0:Value) (oe:Obj) (vs:Array Value) (T:Addr) (oT:Obj) (ts:Array Value),(h.get? a=some oe/\(oe.cls=cls/\vs[0]?=some a0)/\oe.data=.fields vs/\vs[1]?=some (.ref T)/\T≠a/\h.get? T=some oT/\oT.data=.fields ts/\ts[3]?=some fl)/\H' T=none/\old.get? T=none
section
variable {P:Program}{w:World}{l:List Env}{H H':Hp}{old h h':Heap}{a:Addr}{cls fl fl':Value}
def Air.step (x:Air P w l H old a cls fl H' h)(hl:∀ B:Heap,(∀ b,b∈frs l->B.get? b=none)->∀ h:Heap,(∀ b∈frs l,∃ o,h.get? b=some o/\∀ vs,o.data≠.fields vs)->h.FunFrames B l) :
  ∃(B:Heap) (a0:Value),B.StaysIn h/\B.get? a=none/\h.FunFrames B l/\h.TracedAtW B a cls a0 fl/\
   ∀(h':Heap) (fl':Value),B.StaysIn h'->h.UpToSlots h'->h'.TracedAtW B a cls a0 fl'->Air P w l H old a cls fl' H' h':=by
 obtain ⟨a0,oe,vs,T,oT,ts,⟨e1,e2,e3,e4,e5,e6,e7,e8⟩,u1,u2⟩:=x.tr;have hB:∀ b o,h.get? b=some o->b≠a->b≠T->b∉frs l->(W.hideAll h (a::T::frs l)).get? b=some o:=λb o e n1 n2 n3=>W.hideAll_get _ e λhm=>by
  rcases aU.mp hm with z|hm
  .exact n1 z
  rcases aU.mp hm with z|hm
  .exact n2 z
  .exact n3 hm
 refine #[W.hideAll h (a::T::frs l),a0,λb o q=>W.of_hideAll _ q,W.hideAll_none _ bZ,hl _ (λb hb=>W.hideAll_none _ (bP _ (bP _ hb))) h x.nf,?_,?_]
 .exact #[oe,vs,T,oT,ts,e1,e2,e3,e4,W.hideAll_none _ (bP _ bZ),e5,e6,e7,e8]
 intro h' fl' k1 k2 k3;have kT:∀ b o,h.get? b=some o->b≠a->b≠T->∃ sl,h'.get? b=some { o with slots:=sl }:=λb o e n1 n2=>by
  by_cases hb:b∈frs l
  .obtain ⟨o',q,nf⟩:=x.nf b hb;rw[e]at q;cases q
   exact k2 b o e nf
  .exact #[o.slots,k1 b o (hB b o e n1 n2 hb)]
 have ne:∀ b u,H' b=some u->b≠a/\b≠T/\b∉frs l:=λb u e=>#[aw e x.ua,aw e u1,λhb=>(by rw[x.uf b hb]at e;cases e)]
 have ne2:∀ b o,old.get? b=some o->b≠a/\b≠T:=λb o e=>#[λz=>(by rw[z,x.na]at e;cases e),λz=>(by rw[z,u2]at e;cases e)]
 refine #[#[λb o e n hb hx=>?_,λb o e n hb hx=>?_,x.un.free,λb o e hx=>?_,x.un.tups,x.un.frzs,x.un.tbls],λb u e=>?_,x.ua,x.na,x.uf,λb hb=>?_,?_]
 .exact k1 b o (hB b o (x.un.keep b o e n hb hx) (ne2 b o e).1 (ne2 b o e).2 hb)
 .obtain ⟨sl,q⟩:=x.un.slot b o e n hb hx;obtain ⟨sl',q'⟩:=kT b _ q (ne2 b o e).1 (ne2 b o e).2;exact #[sl',q']
 .obtain ⟨o',q⟩:=x.un.there b o e hx;obtain ⟨sl',q'⟩:=kT b _ q (ne2 b o e).1 (ne2 b o e).2;exact #[_,q']
 .refine (x.hok b u e).stay (λc v hc q=>?_) (λ_ q=>q) λ_ _ q=>q;have hc':∃ z,H' c=some z:=by
   rcases hc with rfl|z
   .exact #[_,e]
   .exact #[_,z]
  obtain ⟨z,ez⟩:=hc';exact k1 c v (hB c v q (ne c z ez).1 (ne c z ez).2.1 (ne c z ez).2.2)
 .obtain ⟨o,q,nf⟩:=x.nf b hb;obtain ⟨sl,q'⟩:=k2 b o q nf;exact #[_,q',nf]
 .obtain ⟨oe',vs',T',oT',ts',f1,f2,f3,f4,f5,f6,f7,f8,f9⟩:=k3;have hnT:T'∉frs l:=λhb=>by
   obtain ⟨o,q,nf⟩:=x.nf T' hb;obtain ⟨sl,q'⟩:=k2 T' o q nf;rw[f7]at q';cases q'
   exact nf _ f8
  have hno:∀ o,h.get? T'=some o->T'=T:=λo e=>jx λz=>by
   rw[hB T' o e f6 z hnT]at f5;cases f5
  refine #[a0,oe',vs',T',oT',ts',#[f1,f2,f3,f4,f6,f7,f8,f9],?_,?_]
  .cases e:H' T' with
   | none=>rfl
   | some u=>
    obtain ⟨o,q⟩:=(x.hok T' u e).there;rw[hno o q,u1]at e;cases e
  .cases e:old.get? T' with
   | none=>rfl
   | some o=>
    obtain ⟨o',q⟩:=x.un.there T' o e .(k);rw[hno o' q,u2]at e;cases e
end
def pz {base h0:Heap}:∀{l:List Env},h0.FunFrames base l->∀ B h:Heap,(∀ b,b∈frs l->B.get? b=none)->(∀ b∈frs l,∃ o,h.get? b=some o/\∀ vs,o.data≠.fields vs)->h.FunFrames B l
 | [],_,_,_,_,_=>trivial
 | env::r,⟨hk,⟨L,o,hf,_,_,_⟩,hr⟩,B,h,hB,hh=>by
  have e:frs (env::r)=L::frs r:=by unfold frs;rw[kg,hf]
  rw[e]at hB hh;obtain ⟨o',q,nf⟩:=hh L bZ;exact #[hk,#[L,o',hf,hB L bZ,q,nf],pz hr B h (λb hb=>hB b (bP _ hb)) λb hb=>hh b (bP _ hb)]
inductive CXE (P:Program)(w:World)(outer:List Env)(H:Hp)(s:Shared)(E:XK)(e:Value)(s':Shared):Prop
 | c:∀(a:Addr) (cls:Value) (H':Hp),e=.ref a->s'.os=s.os->AllBare s'.gens->Air P w outer H s.heap a cls .none H' s'.heap->E cls none H'->CXE P w outer H s E e s'
section
variable {P:Program}{w:World}{K:Frag}{mg:Str->Option Value}{base:Heap}{N:List Str}{q:Str}{sc:Scope}{f:Addr}{cd:Value}{A:Around}{outer:List Env}{s0:Shared}{H0:Hp}{E:XK}
abbrev cxE (P:Program)(w:World)(K:Frag)(mg:Str->Option Value)(base:Heap)(N:List Str)(q:Str)(sc:Scope)(f:Addr)(cd:Value)(A:Around)(outer:List Env)(s0:Shared)(H0:Hp)(E:XK):Cx:=cxOf (CXE P w) P w K mg base N q sc f cd A outer s0 H0 E
def Jq (I:Inv X Rf U H s):∀ b∈frs X.stack,∃ o,s.heap.get? b=some o/\∀ vs,o.data≠.fields vs:=λb hb=>(I.stack.mem hb).2
def Air.out {s:Shared}{a:Addr}{cls:Value}(I:Inv (cxE P w K mg base N q sc f cd A outer s0 H0 E) Rf U H s)(x:Air P w (envOfC q sc s0.heap.objs.size f cd::outer) H s.heap a cls fl H' h):Air P w outer H0 s0.heap a cls fl H' h:=by
 have ef:frs (envOfC q sc s0.heap.objs.size f cd::outer)=s0.heap.objs.size::frs outer:=rfl;have nl:∀ b o,s0.heap.get? b=some o->b≠s0.heap.objs.size:=λb o e=>bK (aQ e);have nx:∀ b:Addr,b∉(cxE P w K mg base N q sc f cd A outer s0 H0 E).ex:=λb z=>absurd (show b∈([]:List Addr) from z) .(k);obtain ⟨a0,oe,vs,T,oT,ts,tr,u1,u2⟩:=x.tr;have old:∀ b,s.heap.get? b=none->s0.heap.get? b=none:=λb e=>by
  cases z:s0.heap.get? b with
  | none=>rfl
  | some o=>
   obtain ⟨o',e'⟩:=I.base.there b o z (nx b);rw[e]at e';cases e'
 refine #[#[λb o e n hb hx=>?_,λb o e n hb hx=>?_,λb o e n hx=>?_,λb o e hx=>?_,λb xs e=>x.un.tups b xs (I.base.tups b xs e),λb o u e=>x.un.frzs b o u (I.base.frzs b o u e),λb ps e=>?_],x.hok,x.ua,old a x.na,λb hb=>x.uf b (by rw[ef];exact bP _ hb),λb hb=>x.nf b (by rw[ef];exact bP _ hb),a0,oe,vs,T,oT,ts,tr,u1,old T u2]
 .exact x.un.keep b o (I.base.keep b o e n hb (nx b)) (I.base.free b o e n (nx b)) (by rw[ef];exact λz=>(aU.mp z).elim (nl b o e) hb) hx
 .obtain ⟨sl,e1⟩:=I.base.slot b o e n hb (nx b);obtain ⟨sl',e2⟩:=x.un.slot b _ e1 (I.base.free b o e n (nx b)) (by rw[ef];exact bP _ hb) hx;exact #[sl',e2]
 .obtain ⟨o',e'⟩:=I.base.there b o e (nx b);exact x.un.free b o' e' (I.base.free b o e n (nx b)) hx
 .obtain ⟨o',e'⟩:=I.base.there b o e (nx b);exact x.un.there b o' e' hx
 .obtain ⟨m1,e1⟩:=I.base.tbls b ps e;obtain ⟨m2,e2⟩:=x.un.tbls b _ e1;exact #[m1++m2,by rw[e2,Array.append_assoc]]
def Jr:iy (CXE P w) (cxE P w K mg base N q sc f cd A outer s0 H0 E) E:=by
 intro Rf U H s e s' I h;obtain ⟨a,cls,H',rfl,ho,hb,x,hE⟩:=h;obtain ⟨B,a0,b1,b2,b3,b4,next⟩:=x.step λB hB h hh=>pz I.stack B h hB hh
 show wpAny _ _ (leaving _ _) _ _ _;refine wpAny_leaves_onW (base:=B) (cls:=cls) (a0:=a0) I.ok.frames rfl #[b1,b2,b3,b4] λh' k1 k2=>?_;exact #[a,cls,H',rfl,ho.trans I.os,hb,(next h' .none k1.1 k2 k1.2.2.2).out I,hE]
def Js {h':Heap}{a:Addr}{cls:Value}{vs:List Value}(I:Inv (cxE P w K mg base N q sc f cd A outer s0 H0 E) Rf U H s)(m:Heap.MadeExcOf s.heap h' a cls vs)(hE:E cls none H) :
  (cxE P w K mg base N q sc f cd A outer s0 H0 E).xe (.ref a) { s with heap:=h' }:=by
 have hin:=Jq I;have hB:∀ b o,s.heap.get? b=some o->b∉frs (envOfC q sc s0.heap.objs.size f cd::outer)->(W.hideAll s.heap (frs (envOfC q sc s0.heap.objs.size f cd::outer))).get? b=some o:=λb o e n=>W.hideAll_get _ e n;show wpAny _ _ (leaving _ _) _ _ _;refine wpAny_leaves_madeW (base:=W.hideAll s.heap (frs (envOfC q sc s0.heap.objs.size f cd::outer))) I.ok.frames rfl (λb o q=>W.of_hideAll _ q) (pz I.stack _ _ (λb hb=>W.hideAll_none _ hb) hin) m λh2 t k1 k2 k3 k4=>?_;obtain ⟨k11,k12,k13,oe,ws,T,oT,ts,f1,f2,f3,f4,f5,f6,f7,f8,f9⟩:=k1;have kT:∀ b o,s.heap.get? b=some o->∃ sl,h2.get? b=some { o with slots:=sl }:=λb o e=>by
  by_cases hb:b∈frs (envOfC q sc s0.heap.objs.size f cd::outer)
  .obtain ⟨o',z,nf⟩:=hin b hb;rw[e]at z;cases z
   exact k4 b o (m.keeps b o e) nf
  .exact #[o.slots,k11 b o (hB b o e hb)]
 have trk:∀ b u,H b=some u->∃ o,s.heap.get? b=some o/\b∉frs (envOfC q sc s0.heap.objs.size f cd::outer):=λb u e=>by
  obtain ⟨o,z⟩:=(I.hok b u e).there;exact #[o,z,λhb=>(by rw[I.stkFree b hb]at e;cases e)]
 have hnT:T∉frs (envOfC q sc s0.heap.objs.size f cd::outer):=λhb=>by
  obtain ⟨o,z,nf⟩:=hin T hb;obtain ⟨sl,z'⟩:=kT T o z;rw[f7]at z';cases z'
  exact nf _ f8
 have x:Air P w (envOfC q sc s0.heap.objs.size f cd::outer) H s.heap a cls .none H h2:=by
  refine #[#[λb o e n hb hx=>k11 b o (hB b o e hb),λb o e n hb hx=>kT b o e,λb o e n hx=>n,λb o e hx=>?_,λb xs e=>e,λb o u e=>e,λb ps e=>#[(List.toArray []),by rw[e];simp]],λb u e=>?_,?_,m.new,I.stkFree,λb hb=>?_,.ref t,oe,ws,T,oT,ts,#[f1,f2,f3,f4,f6,f7,f8,f9],?_,?_]
  .obtain ⟨sl,z⟩:=kT b o e;exact #[_,z]
  .refine (I.hok b u e).stay (λc v hc z=>?_) (λ_ q=>q) λ_ _ q=>q;have hc':∃ y,H c=some y:=by
    rcases hc with rfl|y
    .exact #[_,e]
    .exact #[_,y]
   obtain ⟨y,ey⟩:=hc';obtain ⟨o,_,n⟩:=trk c y ey;exact k11 c v (hB c v z n)
  .cases e:H a with
   | none=>rfl
   | some u=>
    obtain ⟨o,z,_⟩:=trk a u e;rw[m.new]at z;cases z
  .obtain ⟨o,z,nf⟩:=hin b hb;obtain ⟨sl,z'⟩:=kT b o z;exact #[_,z',nf]
  .cases e:H T with
   | none=>rfl
   | some u=>
    obtain ⟨o,z,n⟩:=trk T u e;rw[hB T o z n]at f5;cases f5
  .cases e:s.heap.get? T with
   | none=>rfl
   | some o=>
    rw[hB T o e hnT]at f5;cases f5
 exact #[a,cls,H,rfl,I.os,I.bare,x.out I,hE]
end
abbrev Cg:List Value:=[.type "ValueError",.type "Exception",.type "BaseException",.type "object"]
def Jt {K:Frag}{h:Heap}{C:Addr}{bmB:List Value}{newId:String}(X:K.In h)(q:W.excIn K C bmB newId=true) :
  ∃ bm N nm qn bs hdct sn sub ab col dd k0 k1 k2 k3 k5,∃ mN:Str->Option Value,h.get? C=some (excClassObj nm qn C N bs bm hdct sn sub ab col dd k0 k1 k2 k3 k5 newId)/\h.Ns N mN/\mN "__init__" = none/\OwnTail h bmB bm:=by
 unfold W.excIn at q;split at q
 rotate_left
 .exact absurd q .(q)
 rename_i dct cdt slots hlook;split at q
 rotate_left
 .exact absurd q .(q)
 rename_i C2 tail s0 s1 s2 s3 nid s5 hmro hslots;simp only[eV,beq_iff_eq,kx]at q;obtain ⟨⟨⟨⟨⟨z1,z2⟩,z3⟩,z4⟩,z5⟩,z6⟩:=q;subst z1 z2;obtain ⟨cnm,cbs,cmro,cns,cqn,chd,csn,csub,cab,ccol,cdel⟩:=cdt;dsimp only at hmro z3 z5 z6;subst hmro z3;obtain ⟨ls⟩:=slots;dsimp only at hslots;subst hslots;exact #[tail,cns,cnm,cqn,cbs,chd,csn,csub,cab,ccol,dct,s0,s1,s2,s3,s5,_,X _ _ hlook,.of_isNs (W.isNs_of_in X z5),W.nsMap_none_of_in X z5 z6,W.tail_of_in X z4]
structure Exc (K:Frag)(mg:Str->Option Value)(x:Str)(C:Addr):Prop where
 nm:mg x=some (.ref C)
 ex:W.excIn K C Cg "ValueError.__new__" = true
def Thr (X:Cx)(E:XK):Prop:=∀(Rf:List (Addr×Obj)) (U:St) (H:Hp) (s:Shared) (h':Heap) (a:Addr) (cls:Value) (vs:List Value),Inv X Rf U H s->Heap.MadeExcOf s.heap h' a cls vs->E cls none H->X.xe (.ref a) { s with heap:=h' }
def thrX {K:Frag}:Thr (cxE P w K mg base N q sc f cd A outer s0 H0 E) E:=λ_ _ _ _ _ _ _ _ I m hE=>Js I m hE
inductive Ci (C:Addr)(E:XK)(vs:List V)(H1:Hp):Prop
 | c:vs.length<=sizeLine->E (.ref C) none H1->Ci C E vs H1
def Ju (C:Addr)(E:XK)(t:TA):TS:=λ_ U H=>t U H λvs H1=>Ci C E vs H1
section
variable {X:Cx}{x:Str}{C:Addr}{E:XK}{e:Expr}{es:List Expr}{t:TA}{np cpos pos:Pos}
def Jv (O:Exc X.K X.mg x C)(hT:Thr X E)(hc:X.calm=true)(hg:Gl X x)(ha:PA X (e::es) t)(hd: .(o)=false:=by decide)(he:starEach (e::es) X.env= .(w)::starEach es X.env:=by rfl)(hpl:(backTo cpos (starEach es X.env)).any (·.1)=false:=by rfl) :
  PS X (.Raise (some (.Call (.Name x np) (e::es) [] cpos)) none pos) (Ju C E t):=by
 intro Rf s U H D I h;obtain ⟨bm,Nn,nm,qn,bs,hdct,sn,sub,ab,col,dd,k0,k1,k2,k3,k5,mN,hC,hN,hni,T⟩:=Jt I.mod.kin O.ex;refine wpAny_Raise_call_subT (C:=C) (nm:=nm) (q:=qn) (N:=Nn) (bs:=bs) (bm:=bm) (hdct:=hdct) (sn:=sn) (sub:=sub) (ab:=ab) (col:=col) (dd:=dd) (k0:=k0) (k1:=k1) (k2:=k2) (k3:=k3) (k5:=k5)
  F.excBase_ValueError (mN:=mN) (T.hasType F.excBase_ValueError.hasBase) .(ha) (by rw[he];exact hpl) hni (ir I hg O.nm #[rfl,?_] hd)
 have h1:=ha cpos Rf s U H _ I h;rw[he]at h1 ⊢;refine Calls.evalArgs_plain (thn h1 λus s1 zq0=>?_);obtain ⟨vs,H1,I1,r,hl,hE⟩:=zq0;exact #[rfl,by rw[<-r.length];exact hl,I1.bk _ _ hC,hN.keeps I1.bk,T.keeps I1.bk,λh' a m=>hT Rf U H1 s1 h' a _ _ I1 m hE]
end
structure FX (P:Program)(w:World)(K:Frag)(mg:Str->Option Value)(base:Heap)(k:Nat)(x:Str)(ps:List Str)(sp:Sp):Prop where
 ex:∃ f fd,FnOk P w K mg base (CXE P w) k f fd ps sp/\dn K fd ps []/\keepIn K (.ref f)=true/\mg x=some (.ref f)/\∃ oc od osl,K.lookup f=some #[oc,od,.func fd,osl]
def DF.okx {w:World}{K:Frag}{mg:Str->Option Value}{base:Heap}{st:Stmt}{N:List Str}{k:Nat}{sp:Sp}(D:DF K mg x st ps)(S:aL N ps (aE st))(len:∀ vs H Q E,sp vs H Q E->vs.length=ps.length)
  (hbody:∀(f:Addr) (cdv:Value) (A:Around) (outer:List Env) (s:Shared) (H:Hp) (vs:List V) (Q:VK) (E:XK),Room k (A.deeper (envOfC x (aE st) s.heap.objs.size f cdv))->sp vs H Q E->
   ∃ t,PSs (cxE P w K mg base N x (aE st) f cdv A outer s H E) (c9 st) t/\t { nx:=λ_ H'=>Q .non H',rt:=Q } (cO N vs) H):FX P w K mg base (k+1) x ps sp:=by
 obtain ⟨f,fd,F,b,m⟩:=D.ex;obtain ⟨oc,od,kV,doc,pm,an,cdv,ct,osl,rfl,lk,hcd⟩:=F.ex;exact #[f,_,oS lk hcd S len λA outer s H vs Q E hr hsp=>hbody f cdv A outer s H vs Q E hr hsp,b,F.kp,m,oc,od,osl,lk]
section
variable {X:Cx}{j k:Nat}{x:Str}{ps:List Str}{sp:Sp}{e:Expr}{es:List Expr}{t:TA}{p pos:Pos}{E:XK}
def Jw (F:FX X.prog X.w X.K X.mg X.base j x ps sp)(hr:Room k X.A)(ha:PA X.nox (e::es) t){Q:VK}(I:Inv X Rf U H s)(h:t U H λvs H1=>sp vs H1 Q E)(hjk:j<=k:=by decide)(hg:Gl X x:=by rfl)
  (hdb: .(o)=false:=by decide) (he:starEach (e::es) X.env= .(w)::starEach es X.env:=by rfl) (hpl: .(r).any (·.1)=false:=by rfl) :
  wpAny .(d) X.A (eval .(C) X.env) .(X) (λer s'=>∃ H1 s1,Inv X Rf U H1 s1/\CXE X.prog X.w X.stack H1 s1 E er s') s:=by
 obtain ⟨f,fd,ok,b,kp,m,_⟩:=F.ex;refine wpAny_Call_Name_kw (ir I hg m ?_ hdb);refine W.callWith_K (h₀:=X.base) I.ok.mod.kin kp (cW (ha pos Rf s U H _ (I.wish _) h) (λus s1 zq0=>?_) λ_ _ z=>z.elim) he hpl;obtain ⟨vs,H1,I1,r,q⟩:=zq0;refine #[I1.kIn,?_];have I1':Inv X Rf U H1 s1:=I1.unwish;have hl:(us++[]).length=ps.length:=by rw[bQ,<-r.length];exact ok.len _ _ _ _ q
 have hb:=b s1 us I1'.kIn hl;rw[bQ]at hb;refine wpAny_call (codeAny_mono (ok.run X.A X.stack s1 H1 #[us,[]] us vs Q E (hr.mono hjk) I1'.env0 hb r q) λres s' hq=>?_);cases res with
 | error er=>exact #[H1,s1,I1',hq]
 | ok fl=>
  cases fl with
  | ret u=>exact I1'.after hq
  | next=>exact False.elim hq
  | brk=>exact False.elim hq
  | cont=>exact False.elim hq
def Jx (F:FX X.prog X.w X.K X.mg X.base j x ps sp)(hr:Room k X.A)(hP:iy (CXE X.prog X.w) X E)(ha:PA X.nox (e::es) t)(hjk:j<=k:=by decide)(hg:Gl X x:=by rfl)
  (hdb: .(o)=false:=by decide) (he:starEach (e::es) X.env= .(w)::starEach es X.env:=by rfl) (hpl: .(r).any (·.1)=false:=by rfl):PE X .(C) (uS sp [] E t):=by
 intro Rf s U H Q I h;refine cW (Jw F hr ha I (Q:=Q) (E:=E) ?_ hjk hg hdb he hpl) (λ_ _ q=>q) λer s' zq0=>(by obtain ⟨H1,s1,I1,q⟩:=zq0;exact hP Rf U H1 s1 er s' I1 q);have e1:(λvs H1=>sp (vs++[]) H1 Q E)=λvs H1=>sp vs H1 Q E:=by funext vs H1;rw[bQ]
 have h':t U H λvs H1=>sp (vs++[]) H1 Q E:=h;rw[e1]at h';exact h'
end
def jh (a:Addr)(cls:Value):HO:=.ext λh=>∃ oe vs,h.get? a=some oe/\oe.cls=cls/\oe.data=.fields vs
def Cx.inH (X:Cx)(a:Addr):Cx:={ X with A:=X.A.mark (some (.ref a)),calm:=false,xe:=λ_ _=>False }
section
variable {X:Cx}{Rf:List (Addr×Obj)}{U:St}{H H':Hp}{s:Shared}
def Inv.inH (I:Inv X Rf U H s)(a:Addr):Inv (X.inH a) Rf U H s:=
 #[#[I.ok.mod,I.ok.kind,I.ok.glob,I.ok.blt,I.ok.above,I.ok.inj,I.ok.has,I.ok.cab,nofun,I.ok.frames,I.ok.stk,I.ok.exf,I.ok.bs,I.ok.bsz,I.ok.noex,I.ok.exfs,I.ok.funs,I.ok.frf],I.os,I.bare,I.base,I.loc,I.cell,I.free,I.freeC,I.pin,I.hok,I.len]
def Inv.outH {a:Addr}(hh:X.calm=true->X.A.handled=none)(I:Inv (X.inH a) Rf U H s):Inv X Rf U H s:=
 #[#[I.ok.mod,I.ok.kind,I.ok.glob,I.ok.blt,I.ok.above,I.ok.inj,I.ok.has,I.ok.cab,hh,I.ok.frames,I.ok.stk,I.ok.exf,I.ok.bs,I.ok.bsz,I.ok.noex,I.ok.exfs,I.ok.funs,I.ok.frf],I.os,I.bare,I.base,I.loc,I.cell,I.free,I.freeC,I.pin,I.hok,I.len]
def Inv.unname {i:Nat}{x:Str}{m:Str->Option Value}{h':Heap}{v:Option Value}{tk:Nat}(I:Inv X Rf U H s)(hN:X.N.Nodup)(hi:X.N[i]?=some x)(hn:s.heap.Ns X.env.locals m)(hn':h'.Ns X.env.locals (λy=>if y=x then v else m y))(hs:Heap.SameBut X.env.locals s.heap h') :
  Inv X Rf (U.set i none) H { s with heap:=h',toks:=tk }:=by
 obtain ⟨m0,hn0,hl⟩:=id I.loc;have em:m0=m:=by
  funext y
  obtain ⟨o,es,ep,a1,a2,a3,a4⟩:=hn0;obtain ⟨o',es',ep',b1,b2,b3,b4⟩:=hn;rw[a1]at b1;cases b1
  rw[a2]at b2;cases b2
  rw[<-a4 y,<-b4 y]
 subst em;have ab:∀ b o,X.s₀.heap.get? b=some o->b≠X.env.locals:=λb o e=>bK (cn (aQ e) I.ok.above);have trk:∀ b u,H b=some u->b≠X.env.locals:=λb u e=>aw e I.free;refine #[I.ok,I.os,I.bare,#[λb o e n hb hx=>(hs.2 b (ab b o e)).trans (I.base.keep b o e n hb hx),λb o e n hb hx=>?_,I.base.free,λb o e hx=>?_,I.base.tups,I.base.frzs,I.base.tbls],#[_,hn',λj y u e1 e2 e3=>?_],λy c e=>?_,I.free,I.freeC,λp hp=>?_,λb u e=>?_,by simpa using I.len]
 .obtain ⟨sl,e1⟩:=I.base.slot b o e n hb hx;exact #[sl,(hs.2 b (ab b o e)).trans e1]
 .obtain ⟨o',e1⟩:=I.base.there b o e hx;exact #[o',(hs.2 b (ab b o e)).trans e1]
 .have hj:j≠i:=λz=>by
   subst z;rw[ip]at e2;simp at e2
  rw[uw (bt hj)]at e2;obtain ⟨u',r',q⟩:=hl j y u e1 e2 e3;have hyx:y≠x:=λz=>hj (uH hN e1 (z ▸ hi));refine #[u',r',?_];rcases q with ⟨k,e⟩|⟨k,c,e,z⟩
  .exact .inl #[k,by simp[hyx,e]]
  .exact .inr #[k,c,e,z.sameBut hs (I.cne y c e)]
 .obtain ⟨w',z⟩:=I.cell y c e;exact #[w',z.sameBut hs (I.cne y c e)]
 .obtain ⟨e,n,ne,nf,d⟩:=I.pin p hp;exact #[(hs.2 p.1 ne).trans e,n,ne,nf,d]
 .refine (I.hok b u e).stay (λc w' hc q=>(hs.2 c ?_).trans q) (λ_ q=>q) λ_ _ q=>q;rcases hc with rfl|z
  .exact trk _ _ e
  .exact trk _ _ z
def Air.held {s':Shared}{a:Addr}{cls:Value}(I:Inv X Rf U H1 s1)(ho:s'.os=s1.os)(hg:AllBare s'.gens)(x:Air X.prog X.w X.stack H1 s1.heap a cls fl H' h)(tk:Nat):Inv X Rf U (upd H' a (jh a cls)) { s' with heap:=h,toks:=tk }:=by
 obtain ⟨a0,oe,vs,T,oT,ts,⟨e1,e2,e3,_⟩,_,_⟩:=x.tr;have nt:∀ b u,H' b=some u->b≠a:=λb u e=>aw e x.ua;have un:Un (frs X.stack) [] H1 (upd H' a (jh a cls)) s1.heap h:=by
  refine #[x.un.keep,x.un.slot,λb o e n hx=>?_,x.un.there,λb xs e=>?_,λb o u e=>?_,λb ps e=>?_]
  .rw[aj (λz=>by rw[z,x.na]at e;cases e)]
   exact x.un.free b o e n hx
  .have:=x.un.tups b xs e;rw[aj (nt b _ this)];exact this
  .have:=x.un.frzs b o u e;rw[aj (nt b _ this)];exact this
  .obtain ⟨m,this⟩:=x.un.tbls b ps e;exact #[m,by rw[aj (nt b _ this)];exact this]
 have hok:HOk X.prog X.w (upd H' a (jh a cls)) h:=λb u e=>by
  by_cases hb:b=a
  .subst hb;rw[ag]at e;cases e
   exact #[#[oe,vs,e1,e2.1,e3],#[oe,e1],λh1 h2 zq0 k=>(by obtain ⟨o,ws,z1,z2,z3⟩:=zq0;exact #[o,ws,k o z1,z2,z3])]
  .rw[aj hb]at e;refine (x.hok b u e).stay (λc v _ q=>q) (λc q=>by rw[aj (nt c _ q)];exact q) λc xs q=>by rw[aj (nt c _ q)];exact q
 obtain ⟨hh,g,d,t,os⟩:=s';obtain rfl:os=s1.os:=ho;have J:=I.call (h':=h) (g':=g) (d':=d) (t':=tk) (ch:=[]) un hok hg (λb z=>absurd z .(k));exact J
def Air.inv {s':Shared}{a:Addr}{cls:Value}(I:Inv X Rf U H1 s1)(ho:s'.os=s1.os)(hg:AllBare s'.gens)(x:Air X.prog X.w X.stack H1 s1.heap a cls fl H' h)(tk:Nat):Inv X Rf U H' { s' with heap:=h,toks:=tk }:=by
 obtain ⟨hh,g,d,t,os⟩:=s';obtain rfl:os=s1.os:=ho;have J:=I.call (h':=h) (g':=g) (d':=d) (t':=tk) (ch:=[]) x.un x.hok hg (λb z=>absurd z .(k));exact J
end
structure vM (K:Frag)(C D:Addr):Prop where
 sub:mroIn K C (.ref D)=some true
 cls:(W.clsIn K D).isSome=true
 ty:W.typeIn K (.ref D)=some (.type "type")
 exc:mroIn K D (.type "BaseException")=some true
def Jy {K:Frag}{prog:Program}{w:World}{A:Around}{E:Value->Shared->Prop}{s:Shared}{a:Addr}{oe:Obj}{Q:Bool->Shared->Prop}(X:K.In s.heap)(c:vM K C D)(he:s.heap.get? a=some oe)(hc:oe.cls=.ref C)(q:Q true s):wpAny .(i) A (excMatches (.ref a) (.ref D)) Q E s:=by
 obtain ⟨hh,g,d,t,os⟩:=s;have L1:W.Looks .(i) hh (isInstance (.ref D) (.type "tuple")) false:=(W.looks_typeIn X c.ty).andThen (W.Looks.of_pure (by rw[isSubtype_type];kernel_rfl));have L2:W.Looks .(i) hh (isType (.ref D)) true:=by
  obtain ⟨cd,hcd⟩:=l6.mp c.cls;unfold W.clsIn at hcd;split at hcd
  .rename_i ho;intro A' Q' E' s' k z;unfold isType loadHead;exact ax (wpAny_loadPart (k _ _ (X _ _ ho)) (aM z))
  .cases hcd
 have L3:=W.looks_mroIn (M:=model prog w) X c.exc;have L4:W.Looks .(i) hh (typeOf (.ref a)) (.ref C):=hc ▸ (W.Looks.ld he).andThen .now;have L5:=W.looks_mroIn (M:=model prog w) X c.sub;unfold excMatches;refine ax (L1.at ?_);simp only[kq,if_false];refine ax (aM ?_);simp only[List.forIn_cons,List.forIn_nil];refine ax (ax (ax (m:=isExcClass _) ?_));unfold isExcClass;refine ax (L2.at ?_);simp only[if_true];refine L3.at ?_;simp only[Bool.not_true,kq,if_false];refine aM (aM ?_);refine ax (L4.at ?_);refine ax (ax (ax (L5.at ?_)));simp only[if_true];exact aM (aM (aM q))
def PX (X:Cx)(e:Expr)(t:XK->TE):Prop:=∀(E:XK) (Rf:List (Addr×Obj)) (s:Shared) (U:St) (H:Hp) (Q:VK),Inv X Rf U H s->t E U H Q->
 wpAny .(d) X.A (eval e X.env) .(X) (λer s'=>∃ H1 s1,Inv X Rf U H1 s1/\CXE X.prog X.w X.stack H1 s1 E er s') s
inductive hndE (K:Frag)(D:Addr)(i:Nat)(ts:TS)(De:Ends)(U:St)(cls:Value)(w_1:Option Addr)(H':Hp):Prop
 | c:∀ C,cls=.ref C->vM K C D->(∀ a,H' a=none->ts { nx:=λU2 H2=>De.nx (U2.set i none) H2,rt:=λ_ _=>False } (U.set i (some (.ref a))) (upd H' a (jh a cls)))->hndE K D i ts De U cls w_1 H'
def Jz (K:Frag)(D:Addr)(i:Nat)(ts:TS)(tc:XK->TE):TS:=λDe U H=>tc (hndE K D i ts De U) U H λ_ H'=>De.nx U H'
section
variable {X:Cx}{i:Nat}{n c:Str}{D:Addr}{b0:Stmt}{bs:List Stmt}{ts:TS}{np hpos:Pos}
def JA (hst:X.stack=X.env::X.outer)(hf:X.env.frame=some X.env.locals)(hN:X.N.Nodup)(hi:X.N[i]?=some n)(hx:X.env.scope.names.lookup n=some .local)(hm:X.mg c=some (.ref D))(hg:Gl X c)(suite:∀ a,PSs (X.inH a) (b0::bs) ts)(hdb:(c==("__debug__" : Str))=false)
        (I1:Inv X Rf U H1 s1) (q:CXE X.prog X.w X.stack H1 s1 (hndE X.K D i ts De U) er s') :
  wpAny .(d) X.A (noteFrame er X.env) (λ_ s2=>wpAny .(d) X.A (setFlight er none) (λ_ s3=>wpAny .(d) X.A (handleBy er X.env [.ExceptHandler (some (.Name c np)) (some n) (b0::bs) hpos]) (SP X Rf De) X.xe s3) X.xe s2) X.xe s':=by
 obtain ⟨a,cls,H',rfl,ho,hb,x,C,rfl,cat,hq⟩:=q;have fo:=λB h hB hh=>pz I1.stack B h hB hh;obtain ⟨B,a0,b1,b2,b3,b4,next⟩:=x.step λB hB h hh=>fo B h hB hh
 refine wpAny_looks_onW (base:=B) (cls:=.ref C) (a0:=a0) (env:=X.env) (outer:=X.outer) (by rw[I1.ok.frames,hst]) hf #[b1,b2,hst ▸ b3,b4] λh4 k1 k2=>?_;have x4:=next h4 _ k1.1 k2 k1.2.2.2
 obtain ⟨B',a1,c1,c2,c3,c4,next'⟩:=x4.step λB hB h hh=>fo B h hB hh
 refine wpAny_landsW (base:=B') (l:=X.stack) (cls:=.ref C) (a0:=a1) (L:=X.env.locals) #[c1,c2,c3,c4] λh5 k3 k4=>?_;have x5:=next' h5 .none k3.1 k4 k3.2.2.2
 have J5:Inv (X.inH a) Rf U H' { s' with heap:=h5 }:=(x5.inv I1 ho hb s'.toks).inH a;refine wpAny_handleBy_cons (codeAny_handlers_test ?_) (by intro z;cases z)
 refine ir (X:=X.inH a) J5 hg hm ?_ hdb;obtain ⟨_,oe,vs,T,oT,tt,⟨e1,e2,_⟩,_,_⟩:=x5.tr;refine Jy (K:=X.K) J5.kIn cat e1 e2.1 ?_;refine codeAny_handlers_suite_as ?_;obtain ⟨B2,a2,d1,d2,d3,d4,next2⟩:=x5.step λB hB h hh=>fo B h hB hh;refine lands_againW (base:=B2) (l:=X.stack) (cls:=.ref C) (a0:=a2) #[d1,d2,d3,d4] λh6 k5 k6=>?_;have x6:=next2 h6 .none k5.1 k6 k5.2.2.2;have J6:Inv (X.inH a) Rf U (upd H' a (jh a (.ref C))) { s' with heap:=h6 }:=(x6.held I1 ho hb s'.toks).inH a;refine uI (X:=X.inH a) J6 hN hi (.inl hx) (v:=.ref a) rfl (λs7 J7=>?_) (.inr hx);refine cW (suite a Rf s7 _ _ _ J7 (hq a x.ua)) (λfl s8 hf8=>?_) λ_ _ z=>z.elim;cases fl with
 | next=>
  obtain ⟨U2,H2,J8,q2⟩:=hf8;obtain ⟨m,hn,_⟩:=id J8.loc;refine wpAny_nameGoes_keeps hx hn (by rw[I1.ok.kind];rfl) λh9 v hn9 hs9=>?_;exact #[U2.set i none,H2,(J8.outH I1.ok.hd).unname hN hi hn hn9 hs9,q2]
 | ret u=>
  obtain ⟨_,_,_,_,_,z⟩:=hf8;exact z.elim
 | brk=>
  obtain ⟨_,_,_,z⟩:=hf8;exact z.elim
 | cont=>
  obtain ⟨_,_,_,z⟩:=hf8;exact z.elim
variable {ce:Expr}{tc:XK->TE}{epos tpos:Pos}
def JB (hc:PX X ce tc)(hst:X.stack=X.env::X.outer)(hf:X.env.frame=some X.env.locals)(hN:X.N.Nodup)(hi:X.N[i]?=some n)(hx:X.env.scope.names.lookup n=some .local)(hm:X.mg c=some (.ref D))(hg:Gl X c)(suite:∀ a,PSs (X.inH a) (b0::bs) ts)
  (hdb:(c==("__debug__" : Str))=false:=by decide) (hs:swapsWith ce none epos.line X.env=pure false:=by rfl):PS X (.Try [.Expr ce epos] [.ExceptHandler (some (.Name c np)) (some n) (b0::bs) hpos] [] [] tpos) (Jz X.K D i ts tc):=by
 intro Rf s U H De I h;refine wpAny_Try_except (wpAny_execs_cons (wpAny_Expr_any (cW (hc _ Rf s U H _ I h) (λv s1 ⟨y,H1,I1,r1,q1⟩=>?_) λer s' ⟨H1,s1,I1,q⟩=>?_) I.quiet hs))
 .exact wpAny_execs_nil (wpAny_execs_nil #[U,H1,I1,q1])
 .exact JA hst hf hN hi hx hm hg suite hdb I1 q
end
end L2
namespace L2
open PySem PySem.Spec PyProof.Rows PySem.W
structure ExcC (K:Frag)(C:Addr):Prop where
 ga:findIn K (.ref C) "__getattribute__" = some (some (.builtin "BaseException.__getattribute__"))
 gn:findIn K (.ref C) "__getattr__" = some none
 ca:findIn K (.ref C) "__class__" = some (some .(aa))
 gg:specialIn K .(aa) "__get__" = some (some (.builtin "getset_descriptor.__get__"))
 gt:takesIn K .(aa)=some true
 ob:mroIn K C (.type "object")=some true
 be:mroIn K C (.type "BaseException")=some true
 cl:(clsIn K C).isSome=true
section
variable {prog:Program}{w:World}{A:Around}{E:Value->Shared->Prop}{s:Shared}{K:Frag}{x C:Addr}{ox:Obj}{vs:Array Value}
def JC {R:Result->Shared->Prop}{hh:Heap}{g:Array GenState}{d:Drawn}{t:Nat}{os:OsState}(L0:Looks .(i) hh (typeOf (.ref x)) (.ref C))(L6:Looks .(i) hh (isSubtype (.ref C) (.type "object")) true)(hq:R (.ok (.ret (.ref C))) #[hh,g,d,t,os]) :
  codeAny .(i) A (.call (.builtin "getset_descriptor.__get__") #[[.builtin "object.__class__",.ref x,.ref C],[]]) R #[hh,g,d,t,os]:=by
 have hT5:(#[hh,g,d,t,os]:Shared).TypeIs .(aa) "getset_descriptor":=F.typeOf_object_class;have eo:(".".intercalate ("object.__class__".cutAt '.').dropLast) = "object":=by
  rw[show "object.__class__".cutAt '.'=["object","__class__"] by first|rfl|decide +kernel]
  decide +kernel
 have L8:Looks .(i) hh (isSubtype (.ref C) (.type (".".intercalate ("object.__class__".cutAt '.').dropLast))) true:=by rw[eo];exact L6
 refine codeAny_call_builtin F.slot_gs_get.plain F.entry_gs_get ?_;refine F.slot_gs_get.check _ _ _ _ _ _ _ _ hT5 (F.args_gs_get _ _ _) ?_
 repeat (any_goals (first|assumption|(with_reducible refine L0.at ?_)|(with_reducible refine L8.at ?_)|wp_step))
 refine #[Code.quiet_builtin _ .(Aa),?_];refine codeAny_builtin F.entry_object_class ?_
 repeat (any_goals (first|assumption|(with_reducible refine L0.at ?_)|wp_step))
set_option maxHeartbeats 4000000 in
def JD {Q:Option Value->Shared->Prop}(X:K.In s.heap)(c:ExcC K C)(he:s.heap.get? x=some ox)(hc:ox.cls=.ref C)(hd:ox.data=.fields vs)(h:Q (some (.ref C)) { s with toks:=s.toks+1 }) :
  wpAny .(i) A (getAttr? (.ref x) "__class__") Q E s:=by
 obtain ⟨hh,g,d,t,os⟩:=s;have L0:Looks .(i) hh (typeOf (.ref x)) (.ref C):=hc ▸ (Looks.ld he).andThen .now;have L1:=looks_findIn (M:=model prog w) X c.ga;have f3:=F.excAttr_ValueError.ga.bind (.ref x);unfold getAttr? getAttrBy? getAttrBy;refine ax (wpAny_mkText (ax (wpAny_attempt (wpAny_holding (ax (L0.at (ax (L1.at ?_))))))));have hx2:(onTheHeap (Value.ref C)&&Value.builtin "BaseException.__getattribute__" == Value.builtin "object.__getattribute__")=false:=by
  rw[show (Value.builtin "BaseException.__getattribute__" == Value.builtin "object.__getattribute__")=false by decide +kernel,jE]
 show wpAny _ _ (if _ then _ else _) _ _ _
 rw[hx2];simp only[kq,if_false];have L2:=looks_findIn (M:=model prog w) X c.gn;have hx0:(false&&onTheHeap (Value.builtin "BaseException.__getattribute__"))=false:=rfl;unfold getAttrByItsOwn hookBefore callGetattribute;dsimp only at X he L1 L2
 repeat (any_goals (first|assumption|(with_reducible refine L0.at ?_)|(with_reducible refine L1.at ?_)|(with_reducible refine L2.at ?_)|wp_step))
 have L3:=looks_mroIn (M:=model prog w) X c.be;have L6:=looks_mroIn (M:=model prog w) X c.ob;have LI:Looks .(i) hh (isInstance (.ref x) (.type "BaseException")) true:=L0.andThen L3;have L4:=looks_findIn (M:=model prog w) X c.ca;have L5:=looks_specialIn (M:=model prog w) X c.gg;have L7:=looks_takesIn (M:=model prog w) X c.gt;have hk:builtinKind "BaseException.__getattribute__" = some .slot:=by decide +kernel
 have hsp:splitId "BaseException.__getattribute__" = some ("BaseException","__getattribute__"):=by decide +kernel
 refine codeAny_call_builtin F.excAttr_ValueError.ga.plain F.entry_bexc_ga ?_;have ha:=F.args_bexc_ga (.ref x) (.str "__class__" t);show wpAny _ _ (checkBuiltinCall _ _) _ _ _;simp only[checkBuiltinCall,hk,hsp];refine ax (LI.at ?_)
 repeat (any_goals (first|assumption|(with_reducible refine L0.at ?_)|(with_reducible refine L4.at ?_)|(with_reducible refine L5.at ?_)|(with_reducible refine L7.at ?_)|wp_step))
 refine JC L0 L6 ?_
 repeat (any_goals (first|assumption|wp_step))
end
def vN {K:Frag}{a:Addr}(c:ExcC K C):KitX K (.ref a) (.ref C) (λh=>∃ oe vs,h.get? a=some oe/\oe.cls=.ref C/\oe.data=.fields vs) where
 ty:=λM h _ ⟨oe,_,e1,e2,_⟩=>e2 ▸ (Looks.ld e1).andThen .now
 it:=λM h X _=>by
  obtain ⟨cd,hcd⟩:=l6.mp c.cl;unfold clsIn at hcd;split at hcd
  .rename_i ho;intro A' Q' E' s' k z;unfold isType loadHead;exact ax (wpAny_loadPart (k _ _ (X _ _ ho)) (aM z))
  .cases hcd
 ne:=λh tp dd its n sl X htp=>by
  obtain ⟨cd,hcd⟩:=l6.mp c.cl;refine iS.mpr λq=>?_;have e:C=tp:=Value.ref.inj (beq_iff_eq.mp q);subst e;unfold clsIn at hcd;split at hcd
  .rename_i ho;rw[X _ _ ho]at htp;cases htp
  .cases hcd
 ca:=λX ⟨_,_,e1,e2,e3⟩ k=>JD X c e1 e2 e3 k
inductive Cj (K:Frag)(xs:List V)(H:Hp)(Q:VK):Prop
 | c:∀ a C c b,xs=[.ref a,c]->H a=some (jh a (.ref C))->ExcC K C->((∃ D,c=.ref D/\kitOne K (.ref C) (.ref D)=some b)\/(∃ n,c=.ty n/\kitOne K (.ref C) (.type n)=some b)\/∃(tp:Addr) (Ds:List Addr),c=.ref tp/\H tp=some (.tup (Ds.map V.ref))/\kitAny K (.ref C) (Ds.map Value.ref)=some b)->Q (.bl b) H->Cj K xs H Q
def Ck:∀{Ds:List Addr} {us:List Value},Vals (Ds.map V.ref) us->us=Ds.map Value.ref
 | [],_,.nil=>rfl
 | d::ds,_,.cons r t=>by
  cases r
  rw[Ck t];rfl
def vO :cN X (.builtin "isinstance") (Cj X.K):=by
 intro Rf s U H xs us Q I r h;obtain ⟨a,C,c,b,rfl,ea,cc,hk,q⟩:=h;obtain ⟨u,v,rfl,r1,r2⟩:=gy r;cases r1
 obtain ⟨p,_,_⟩:=(show bJ X.prog X.w H s.heap a (jh a (.ref C)) from I.hok a _ ea);rcases hk with ⟨D,rfl,e⟩|⟨n,rfl,e⟩|⟨tp,Ds,rfl,ht,e⟩
 .cases r2
  exact kia_one (vN cc) I.kIn p e nofun λtk=>#[.bl b,H,I.tok tk,rfl,q]
 .cases r2
  exact kia_one (vN cc) I.kIn p e nofun λtk=>#[.bl b,H,I.tok tk,rfl,q]
 .cases r2
  obtain ⟨_,its,rv,o,h1,h2,n,h3⟩:=(show bJ X.prog X.w H s.heap tp (.tup (Ds.map V.ref)) from I.hok tp _ ht);have ei:=Ck rv;subst ei;obtain ⟨oc,odc,oda,osl⟩:=o;dsimp only at h2 h3;subst h2 h3;exact kia_tup (vN cc) I.kIn p h1 e nofun λtk=>#[.bl b,H,I.tok tk,rfl,q]
end L2
namespace L2
open PySem PySem.Spec PyProof.Rows
structure FMX (P:Program)(w:World)(K:Frag)(mg:Str->Option Value)(base:Heap)(C:Addr)(k:Nat)(m:Str)(ps:List Str)(sp:Sp):Prop where
 ex:∃ f fd,FnOk P w K mg base (CXE P w) k f fd ps sp/\dn K fd ps []/\Meth K C m f/\∃ oc od osl,K.lookup f=some #[oc,od,.func fd,osl]
def DM.okx {w:World}{K:Frag}{mg:Str->Option Value}{base:Heap}{st:Stmt}{N:List Str}{k:Nat}{sp:Sp}(D:DM K C m q st ps)(S:aL N ps (aE st))(len:∀ vs H Q E,sp vs H Q E->vs.length=ps.length)
  (hbody:∀(f:Addr) (cdv:Value) (A:Around) (outer:List Env) (s:Shared) (H:Hp) (vs:List V) (Q:VK) (E:XK),Room k (A.deeper (envOfC q (aE st) s.heap.objs.size f cdv))->sp vs H Q E->
   ∃ t,PSs (cxE P w K mg base N q (aE st) f cdv A outer s H E) (c9 st) t/\t { nx:=λ_ H'=>Q .non H',rt:=Q } (cO N vs) H):FMX P w K mg base C (k+1) m ps sp:=by
 obtain ⟨f,fd,F,b,me⟩:=D.ex;obtain ⟨oc,od,kV,doc,pm,an,cdv,ct,osl,rfl,lk,hcd⟩:=F.ex;exact #[f,_,oS lk hcd S len λA outer s H vs Q E hr hsp=>hbody f cdv A outer s H vs Q E hr hsp,b,me,oc,od,osl,lk]
def FMX.fm {w:World}{K:Frag}{mg:Str->Option Value}{base:Heap}{k:Nat}(F:FMX P w K mg base C k m ps sp):FM P w K mg base C k m ps (λvs H Q _=>sp vs H Q E0):=by
 obtain ⟨f,fd,ok,b,me,l⟩:=F.ex;refine #[f,fd,#[λvs H Q E h=>ok.len vs H Q E0 h,λA outer s H args us vs Q E hr he hb hv hs=>?_],b,me,l];refine codeAny_mono (ok.run A outer s H args us vs Q E0 hr he hb hv hs) λr s' hq=>?_;cases r with
 | error e=>
  obtain ⟨_,_,_,_,_,_,_,z⟩:=hq;exact z.elim
 | ok fl=>
  cases fl with
  | ret u=>exact hq
  | next=>exact hq
  | brk=>exact hq
  | cont=>exact hq
inductive Cm (C:Addr)(m:Str)(sp:Sp)(t:TA)(E:XK)(U:St)(Q:VK)(x:V)(H1:Hp):Prop
 | c:∀ a dx fs,x=.ref a->H1 a=some (.ins C dx fs)->fs.lookup m=none->(t U H1 λvs H2=>sp (x::vs) H2 Q E)->Cm C m sp t E U Q x H1
def JE (C:Addr)(m:Str)(sp:Sp)(ta:TE)(t:TA)(E:XK):TE:=λU H Q=>ta U H λx H1=>Cm C m sp t E U Q x H1
section
variable {X:Cx}{j k:Nat}{C:Addr}{m:Str}{ps:List Str}{sp:Sp}{o e:Expr}{es:List Expr}{ta:TE}{t:TA}{p pos apos:Pos}{E:XK}
def JF {pl:Sem Bool}(F:FMX X.prog X.w X.K X.mg X.base C j m ps sp)(c:Cls X.K C)(hr:Room k X.A)(he:PE X.nox o ta)(ha:PA X.nox (e::es) t)(hjk:j<=k:=by decide)
  (hst:starEach (e::es) X.env= .(w)::starEach es X.env:=by rfl) (hpl: .(r).any (·.1)=false:=by rfl)
  (ht:eval (.Call (.Attribute o m apos) (e::es) [] pos) X.env=(do
   let ov <-eval o X.env
   standAt apos.atName
   let (f,first) <-holding [ov] (getMethod ov m pl)
   callWith pos f first (backTo pos (starEach (e::es) X.env)) (backToKw pos (keywordEach [] X.env))):=by rfl) :
  PX X (.Call (.Attribute o m apos) (e::es) [] pos) (JE C m sp ta t):=by
 intro E Rf s U H Q I h;obtain ⟨f,fd,ok,b,me,_⟩:=F.ex;refine W.methodCall_KW (pl:=pl) (cW (he Rf s U H _ (I.wish _) h) (λu s1 z=>?_) λ_ _ z=>z.elim) ht;obtain ⟨x,H1,I1,rx,a,dx,fs,ex,ea,l,q⟩:=z;subst ex;obtain rfl:u=Value.ref a:=rx;refine uQ I1.unwish ea c me l ?_;refine W.callWith_K (first:=[.ref a]) (h₀:=X.base) I.ok.mod.kin me.kp (cW (ha pos Rf s1 U H1 _ I1 q) (λus s2 z=>#[?_,?_]) λ_ _ z=>z.elim) hst hpl
 .obtain ⟨vs,H2,I2,r,q2⟩:=z;exact I2.kIn
 obtain ⟨vs,H2,I2,r,q2⟩:=z;have I2':Inv X Rf U H2 s2:=I2.unwish;have r2:Vals (.ref a::vs) (.ref a::us):=.cons rfl r;have hl:(Value.ref a::us++[]).length=ps.length:=by rw[bQ,<-r2.length];exact ok.len _ _ _ _ q2
 have hb:=b s2 (.ref a::us) I2'.kIn hl;rw[bQ]at hb;refine wpAny_call (codeAny_mono (ok.run X.A X.stack s2 H2 #[.ref a::us,[]] (.ref a::us) (.ref a::vs) Q E (hr.mono hjk) I2'.env0 hb r2 q2) λres s' hq=>?_);cases res with
 | error er=>exact #[H2,s2,I2',hq]
 | ok fl=>
  cases fl with
  | ret u=>exact I2'.after hq
  | next=>exact False.elim hq
  | brk=>exact False.elim hq
  | cont=>exact False.elim hq
end
end L2
set_option maxHeartbeats 4000000
namespace My
open PySem PySem.Spec PyProof.Rows L2
local macro_rules|`(tactic| walk_at "sc") => `(tactic| exact ⟨rfl,rfl,rfl,by decide +kernel,rfl,by decide +kernel,by decide +kernel⟩)
local macro_rules|`(tactic| walk_at "side")=>`(tactic| first|lia|(dsimp only;lia)|(simp only[CDiv,G2,CPow,CMul];lia)|decide)
local macro_rules|`(tactic| walk_at "rd")=>`(tactic| repeat (first|(refine ⟨_,_,rfl,rfl,(by walk_at "side"),?_⟩)|(refine ⟨_,rfl,?_⟩)|(refine ⟨_,_,rfl,rfl,?_⟩)|(refine ⟨rfl,?_⟩)|(refine ⟨(by walk_at "side"),?_⟩)))
def top (i:Nat):Stmt:=PySem.Challenge.pw_bridgefind_k48_shelves_asked.main.body.getD i (.Pass #[0,0,0,0])
abbrev pA:Stmt:=top 16
abbrev pB:Stmt:=top 17
abbrev pC:Stmt:=top 18
abbrev pD:Stmt:=top 19
abbrev pE:Stmt:=top 20
abbrev lj:Stmt:=top 21
abbrev pF:Stmt:=top 22
abbrev pG:Stmt:=top 25
abbrev pH:Stmt:=top 26
abbrev pI:Stmt:=top 27
abbrev pJ:Stmt:=top 29
abbrev pK:Stmt:=top 30
abbrev pL:Stmt:=top 31
abbrev pM:Stmt:=top 32
abbrev pN:Stmt:=top 33
abbrev pO:Stmt:=top 36
abbrev pP:Stmt:=top 37
abbrev pQ:Stmt:=top 38
abbrev pR:Stmt:=top 39
abbrev pS:Stmt:=top 40
abbrev pT:Stmt:=top 41
abbrev pU:Stmt:=top 42
abbrev pV:Stmt:=top 45
abbrev pW:Stmt:=top 46
abbrev pX:Stmt:=top 47
abbrev pY:Stmt:=top 48
abbrev pZ:Stmt:=top 49
abbrev p0:Stmt:=top 50
abbrev p5:Stmt:=top 51
abbrev p6:Stmt:=top 53
abbrev p7:Stmt:=top 54
abbrev p8:Stmt:=top 55
abbrev ll:Stmt:=top 58
abbrev p9:Stmt:=top 59
abbrev qa:Stmt:=top 60
abbrev qb:Stmt:=top 61
abbrev lp:Stmt:=top 62
abbrev qd:Stmt:=top 64
abbrev qe:Stmt:=top 67
abbrev qg:Stmt:=top 68
abbrev qh:Stmt:=top 69
abbrev qi:Stmt:=top 70
abbrev ql:Stmt:=top 71
abbrev qm:Stmt:=top 72
abbrev qo:Stmt:=top 73
abbrev qp:Stmt:=top 74
abbrev qr:Stmt:=top 75
abbrev qt:Stmt:=top 76
abbrev qv:Stmt:=top 77
abbrev qw:Stmt:=top 78
abbrev qx:Stmt:=top 79
abbrev qy:Stmt:=top 80
abbrev qz:Stmt:=top 81
abbrev qA:Stmt:=top 82
abbrev qB:Stmt:=top 83
abbrev qC:Stmt:=top 84
abbrev qD:Stmt:=top 85
abbrev qE:Stmt:=top 86
abbrev qF:Stmt:=iB (top 65) 0
abbrev qG:Stmt:=iB (top 65) 1
abbrev qH:Stmt:=iB (top 65) 2
abbrev qI:Stmt:=iB (top 65) 3
abbrev qJ:Stmt:=iB (top 65) 4
abbrev Cn:Stmt:=iB (top 65) 5
abbrev qK:Stmt:=iB (top 65) 6
abbrev Co:Stmt:=iB (top 65) 7
abbrev qL:Stmt:=iB (top 65) 8
def JG:aL ["thing"] ["thing"] (aE pA):=by walk_at "sc"
def JH:aL ["thing"] ["thing"] (aE pB):=by walk_at "sc"
def JI:aL ["thing"] ["thing"] (aE pC):=by walk_at "sc"
def vP:aL ["entry","key","z"] ["entry"] (aE pD):=by walk_at "sc"
def lq:aL ["length","is_below","low","high","middle"] ["length","is_below"] (aE pE):=by walk_at "sc"
def JJ:aL ["row","key"] ["row","key"] (aE lj):=by walk_at "sc"
def vQ:aL ["lists","together","entries"] ["lists"] (aE pF):=by walk_at "sc"
def Cp:aL ["one","other","unlike"] ["one","other"] (aE pG):=by walk_at "sc"
def mL:aL ["numbers","told","at","number","figure"] ["numbers"] (aE pH):=by walk_at "sc"
def qM:aL ["entries","numbers","turn"] ["entries"] (aE pI):=by walk_at "sc"
def JK:aL ["things","at"] ["things","at"] (aE pJ):=by walk_at "sc"
def JL:aL ["taken"] ["taken"] (aE pK):=by walk_at "sc"
def qN:aL ["numbers","told","label","at"] ["numbers"] (aE pL):=by walk_at "sc"
def mM:aL ["entries","tints","told","colour","at"] ["entries"] (aE pM):=by walk_at "sc"
def JM:aL ["entries"] ["entries"] (aE pN):=by walk_at "sc"
def JN:aL ["many","thing"] ["many","thing"] (aE pO):=by walk_at "sc"
def Cq:aL ["parents","knot"] ["parents"] (aE pP):=by walk_at "sc"
def JO:aL ["tree","thing"] ["tree","thing"] (aE pQ):=by walk_at "sc"
def JP:aL ["tree","knot"] ["tree","knot"] (aE pR):=by walk_at "sc"
def vR:aL ["tree","knot","told","other"] ["tree","knot"] (aE pS):=by walk_at "sc"
def vS:aL ["tree","thing","knot","at"] ["tree","thing"] (aE pT):=by walk_at "sc"
def JQ:aL ["tree","thing"] ["tree","thing"] (aE pU):=by walk_at "sc"
def Cr:aL ["things","thing"] ["things"] (aE pV):=by walk_at "sc"
def JR:aL ["lists"] ["lists"] (aE pW):=by walk_at "sc"
def Cs:aL ["tree","rows","told"] ["tree","rows"] (aE pX):=by walk_at "sc"
def Ct:aL ["stand","knot","row","rows"] ["stand","knot","row"] (aE pY):=by walk_at "sc"
def JS:aL ["stand","knot"] ["stand","knot"] (aE pZ):=by walk_at "sc"
def mO:aL ["stand","knot","tree","told","at","parts"] ["stand","knot"] (aE p0):=by walk_at "sc"
def Cu:aL ["stand","told"] ["stand"] (aE p5):=by walk_at "sc"
def vT:aL ["full","knot","told","entry"] ["full","knot"] (aE p6):=by walk_at "sc"
def lr:aL ["full","child_full","behind","at","entry","told"] ["full","child_full"] (aE p7):=by walk_at "sc"
def mP:aL ["tree","fulls","told","knot","full","jumps"] ["tree","fulls"] (aE p8):=by walk_at "sc"
def JT:aL ["bridges","knot","is_below"] ["bridges","knot","is_below"] (aE ll):=by walk_at "sc"
def JU:aL ["bridges","knot","at","child"] ["bridges","knot","at","child"] (aE p9):=by walk_at "sc"
def qO:aL ["bridges","knot","start","is_below","beyond","at"] ["bridges","knot","start","is_below"] (aE qa):=by walk_at "sc"
def lx:aL ["bridges","way","is_below","at","told","parent","knot"] ["bridges","way","is_below"] (aE qb):=by walk_at "sc"
def JV:aL ["tree","fulls","way","key"] ["tree","fulls","way","key"] (aE lp):=by walk_at "sc"
def vU:aL ["entries","others","away","entry"] ["entries","others"] (aE qd):=by walk_at "sc"
def JW:aL ["_law_script"] ["_law_script"] (aE qe):=by walk_at "sc"
def vV:aL ["_law_cell","_law_k","_law_one","_law_two"] ["_law_cell","_law_k"] (aE qg):=by walk_at "sc"
def ly:aL ["_law_state","_law_most","_law_k","_law_script","_law_cell","_law_found_here"] ["_law_state","_law_most"] (aE qh):=by walk_at "sc"
def Cv:aL ["_law_state","_law_way_here"] ["_law_state"] (aE qi):=by walk_at "sc"
def qP:aL ["_law_state","_law_most","_law_way_here","_law_parents","_law_k"] ["_law_state","_law_most"] (aE ql):=by walk_at "sc"
def vW:aL ["_law_state","_law_most","_law_found_here","_law_k"] ["_law_state","_law_most"] (aE qm):=by walk_at "sc"
def lz:aL ["_law_state","_law_many","_law_most","_law_rows_here","_law_k","_law_row_here"] ["_law_state","_law_many","_law_most"] (aE qo):=by walk_at "sc"
def JX:aL ["_law_tree_here","_law_knot"] ["_law_tree_here","_law_knot"] (aE qp):=by walk_at "sc"
def qQ:aL ["_law_state","_law_tree_here","_law_way_here","_law_some"] ["_law_state","_law_tree_here"] (aE qr):=by walk_at "sc"
def vX:aL ["_law_entry","_law_key_here","_law_knot"] ["_law_entry"] (aE qt):=by walk_at "sc"
def iE:aL ["_law_numbers","_law_found_here","_law_k","_law_one","_law_other","_law_b"] ["_law_numbers"] (aE qv):=by walk_at "sc"
def lA:aL ["_law_numbers","_law_found_here","_law_high","_law_at","_law_k","_law_beside"] ["_law_numbers"] (aE qw):=by walk_at "sc"
def ji:aL ["_law_entries","_law_numbers","_law_k","_law_shades","_law_found_here","_law_shade"] ["_law_entries"] (aE qx):=by walk_at "sc"
def lB:aL ["_law_tree_here","_law_rows_here","_law_found_here","_law_k","_law_up","_law_entry","_law_is_on"] ["_law_tree_here","_law_rows_here"] (aE qy):=by walk_at "sc"
def qR:aL ["_law_state","_law_tree_here","_law_rows_here","_law_knot","_law_key_here"] ["_law_state","_law_tree_here","_law_rows_here"] (aE qz):=by walk_at "sc"
def Cw:aL ["_law_rows_here","_law_knot","_law_key_here","_law_is_put","_law_found_here"] ["_law_rows_here","_law_knot","_law_key_here","_law_is_put"] (aE qA):=by walk_at "sc"
def qS:aL ["_law_shelf","_law_way_here","_law_key_here","_law_caught","e"] ["_law_shelf","_law_way_here","_law_key_here"] (aE qB):=by walk_at "sc"
def jj:aL ["_law_shelf","_law_fulls_here","_law_rows_here","_law_way_here","_law_key_here","_law_due","_law_knot","_law_some","_law_given","_law_turn","_law_found_here","_law_one"] ["_law_shelf","_law_fulls_here","_law_rows_here","_law_way_here","_law_key_here"] (aE qC):=by walk_at "sc"
def qT:aL ["_law_state","_law_rows_here","_law_way_here","_law_key_here","_law_some"] ["_law_state","_law_rows_here","_law_way_here"] (aE qD):=by walk_at "sc"
def fj:aL ["_law_script","_law_state","_law_tree_here","_law_rows_here","_law_shelf","_law_k","_law_way_here","_law_bad","_law_knot","_law_key_here","_law_is_put"] ["_law_script"] (aE qE):=by walk_at "sc"
def JY:aL ["self","stand"] ["self","stand"] (aE qF):=by walk_at "sc"
def JZ:aL ["self","knot","key"] ["self","knot","key"] (aE qG):=by walk_at "sc"
def jX:aL ["self","knot","gone","come","told","before","after"] ["self","knot","gone","come"] (aE qH):=by walk_at "sc"
def vY:aL ["self","knot","key","row","at"] ["self","knot","key"] (aE qI):=by walk_at "sc"
def vZ:aL ["self","knot","key","row","at"] ["self","knot","key"] (aE qJ):=by walk_at "sc"
def J0:aL ["self"] ["self"] (aE qK):=by walk_at "sc"
def J1:aL ["self","way","key"] ["self","way","key"] (aE qL):=by walk_at "sc"
abbrev mQ:List Str:=["thing"]
abbrev mR:List Str:=["thing"]
abbrev qU:List Str:=["thing"]
abbrev qV:List Str:=["entry"]
abbrev mT:List Str:=["length","is_below"]
abbrev mU:List Str:=["row","key"]
abbrev mV:List Str:=["lists"]
abbrev qW:List Str:=["one","other"]
abbrev qX:List Str:=["numbers"]
abbrev qY:List Str:=["entries"]
abbrev mW:List Str:=["things","at"]
abbrev qZ:List Str:=["taken"]
abbrev q9:List Str:=["numbers"]
abbrev rg:List Str:=["entries"]
abbrev mX:List Str:=["entries"]
abbrev lC:List Str:=["many","thing"]
abbrev rh:List Str:=["parents"]
abbrev rj:List Str:=["tree","thing"]
abbrev mY:List Str:=["tree","knot"]
abbrev rl:List Str:=["tree","knot"]
abbrev rm:List Str:=["tree","thing"]
abbrev rp:List Str:=["tree","thing"]
abbrev rq:List Str:=["things"]
abbrev mZ:List Str:=["lists"]
abbrev rA:List Str:=["tree","rows"]
abbrev m6:List Str:=["stand","knot","row"]
abbrev rB:List Str:=["stand","knot"]
abbrev rC:List Str:=["stand","knot"]
abbrev rD:List Str:=["stand"]
abbrev rE:List Str:=["full","knot"]
abbrev rF:List Str:=["full","child_full"]
abbrev rG:List Str:=["tree","fulls"]
abbrev rH:List Str:=["bridges","knot","is_below"]
abbrev rJ:List Str:=["bridges","knot","at","child"]
abbrev rK:List Str:=["bridges","knot","start","is_below"]
abbrev rL:List Str:=["bridges","way","is_below"]
abbrev rM:List Str:=["tree","fulls","way","key"]
abbrev rN:List Str:=["entries","others"]
abbrev rO:List Str:=["_law_script"]
abbrev rP:List Str:=["_law_cell","_law_k"]
abbrev gA:List Str:=["_law_state","_law_most"]
abbrev lD:List Str:=["_law_state"]
abbrev rQ:List Str:=["_law_state","_law_most"]
abbrev rR:List Str:=["_law_state","_law_most"]
abbrev rS:List Str:=["_law_state","_law_many","_law_most"]
abbrev rT:List Str:=["_law_tree_here","_law_knot"]
abbrev rV:List Str:=["_law_state","_law_tree_here"]
abbrev rW:List Str:=["_law_entry"]
abbrev rX:List Str:=["_law_numbers"]
abbrev rY:List Str:=["_law_numbers"]
abbrev rZ:List Str:=["_law_entries"]
abbrev r6:List Str:=["_law_tree_here","_law_rows_here"]
abbrev r9:List Str:=["_law_state","_law_tree_here","_law_rows_here"]
abbrev sf:List Str:=["_law_rows_here","_law_knot","_law_key_here","_law_is_put"]
abbrev si:List Str:=["_law_shelf","_law_way_here","_law_key_here"]
abbrev sk:List Str:=["_law_shelf","_law_fulls_here","_law_rows_here","_law_way_here","_law_key_here"]
abbrev sm:List Str:=["_law_state","_law_rows_here","_law_way_here"]
abbrev so:List Str:=["_law_script"]
abbrev sv:List Str:=["self","stand"]
abbrev m7:List Str:=["self","knot","key"]
abbrev m8:List Str:=["self","knot","gone","come"]
abbrev sA:List Str:=["self","knot","key"]
abbrev sE:List Str:=["self","knot","key"]
abbrev J2:List Str:=["self","parent"]
abbrev sG:List Str:=["self"]
abbrev J4:List Str:=["self","knot"]
abbrev m9:List Str:=["self","way","key"]
structure Txt (K:Frag)(mg:Str->Option Value):Prop where
 Oj:mg "ValueError" = none
 yn:mg "abs" = none
 yo:mg "bool" = none
 Ol:mg "dict" = none
 yp:mg "enumerate" = none
 Om:mg "int" = none
 fS:mg "isinstance" = none
 bD:mg "len" = none
 g9:mg "list" = none
 uk:mg "max" = none
 yq:mg "min" = none
 de:mg "range" = none
 On:mg "reversed" = none
 Oo:mg "set" = none
 lY:mg "sorted" = none
 Oq:mg "sum" = none
 fB:mg "tuple" = none
 yr:mg "zip" = none
 Os:∃ t,mg "KNOT_NUMBERS" = some (.int 64 t)
 Ot:∃ t,mg "TURNS" = some (.int 5 t)
 Ou:∃ t,mg "MOST_KNOTS" = some (.int 40 t)
 E5:∃ t,mg "MOST_KEYS" = some (.int 300 t)
 Ov:∃ t,mg "MOST_BEHIND_START" = some (.int 2 t)
structure OwnC (K:Frag)(mg:Str->Option Value)(C:Addr):Prop where
 cl:L2.Cls K C
 mgC:mg "Shelf" = some (.ref C)
 n_kept:i3 K C "kept"
 n_fulls:i3 K C "fulls"
structure Cls (K:Frag)(mg:Str->Option Value)(dS eF aR eG eJ eK eL eN eO eP eQ eR gf:Addr):Prop where
 Ow:mg "BridgeError" = some (.ref dS)
 Ox:mg "NoTree" = some (.ref eF)
 Oy:mg "NoWay" = some .(P)
 Oz:mg "NoStand" = some (.ref eG)
 OA:mg "Twice" = some (.ref eJ)
 OB:mg "Missing" = some (.ref eK)
 OC:mg "NoRoom" = some (.ref eL)
 OD:mg "NoKnot" = some (.ref eN)
 OE:mg "NoKey" = some (.ref eO)
 OF:mg "NoOrder" = some (.ref eP)
 OG:mg "NoRow" = some (.ref eQ)
 OH:mg "NoText" = some (.ref eR)
 Q7:mg "Shelf" = some (.ref gf)
 OI:Exc K mg "NoWay" aR
 yt:ExcC K aR
 OJ:vM K aR dS
 OK:kitOne K .(P) (.type "ValueError")=some true
 Q8:kitOne K .(P) (.ref dS)=some true
 OL:kitOne K .(P) (.ref eF)=some false
 OM:kitOne K .(P) .(P)=some true
 ON:kitOne K .(P) (.ref eG)=some false
 OO:kitOne K .(P) (.ref eJ)=some false
 OP:kitOne K .(P) (.ref eK)=some false
 OQ:kitOne K .(P) (.ref eL)=some false
 OR:kitOne K .(P) (.ref eN)=some false
 OS:kitOne K .(P) (.ref eO)=some false
 OT:kitOne K .(P) (.ref eP)=some false
 OU:kitOne K .(P) (.ref eQ)=some false
 OV:kitOne K .(P) (.ref eR)=some false
 Q9:kitOne K .(P) (.ref gf)=some false
def v9 (m n i j:Nat)(hi:i<2)(hj:j<2):(2*m+i) &&& (2*n+j)=2*(m &&& n)+(i &&& j):=by
 apply Nat.eq_of_testBit_eq;intro k;cases k with
 | zero=>
  have h1:i=0\/i=1:=by lia
  have h2:j=0\/j=1:=by lia
  rcases h1 with rfl|rfl<;>rcases h2 with rfl|rfl<;>simp[Nat.testBit_zero]<;>lia
 | succ k=>
  have h1:i=0\/i=1:=by lia
  have h2:j=0\/j=1:=by lia
  have e1:(2*m+i)/2=m:=by lia
  have e2:(2*n+j)/2=n:=by lia
  have e3:(2*(m &&& n)+(i &&& j))/2=m &&& n:=by
   rcases h1 with rfl|rfl<;>rcases h2 with rfl|rfl<;>simp<;>lia
  rw[Nat.testBit_and,kF,kF,kF,e1,e2,e3,Nat.testBit_and]
def Ka (m n i j:Nat)(hi:i<2)(hj:j<2):(2*m+i) ||| (2*n+j)=2*(m ||| n)+(i ||| j):=by
 apply Nat.eq_of_testBit_eq;intro k;cases k with
 | zero=>
  have h1:i=0\/i=1:=by lia
  have h2:j=0\/j=1:=by lia
  rcases h1 with rfl|rfl<;>rcases h2 with rfl|rfl<;>simp[Nat.testBit_zero]<;>lia
 | succ k=>
  have h1:i=0\/i=1:=by lia
  have h2:j=0\/j=1:=by lia
  have e1:(2*m+i)/2=m:=by lia
  have e2:(2*n+j)/2=n:=by lia
  have e3:(2*(m ||| n)+(i ||| j))/2=m ||| n:=by
   rcases h1 with rfl|rfl<;>rcases h2 with rfl|rfl<;>simp<;>lia
  rw[Nat.testBit_or,kF,kF,kF,e1,e2,e3,Nat.testBit_or]
def lu (a b:Nat):Nat:=if a=b then 0 else if a%2=b%2 then lu (a/2) (b/2)+1 else 0
termination_by a+b
decreasing_by lia
def sH {a b:Nat}(hab:a≠b)(h:a%2=b%2):lu a b=lu (a/2) (b/2)+1:=by
 rw[lu,ao hab,ak h]
def sI {a b:Nat}(h:a%2≠b%2):lu a b=0:=by
 rw[lu];split
 .rfl
 .rfl
def xr (a b:Nat):Nat:=(a ||| b)-(a &&& b)
def jk (n:Nat):Nat:=n-(n &&& (n-1))
def Cy (a b:Nat):a &&& b<=a ||| b:=bW Nat.and_le_left Nat.left_le_or
def Kb (m n i j:Nat)(hi:i<2)(hj:j<2):xr (2*m+i) (2*n+j)=2*xr m n+(if i=j then 0 else 1):=by
 unfold xr;rw[Ka m n i j hi hj,v9 m n i j hi hj];have q:=Cy m n;have h1:i=0\/i=1:=by lia
 have h2:j=0\/j=1:=by lia
 rcases h1 with rfl|rfl<;>rcases h2 with rfl|rfl<;>simp<;>lia
def Cz (a b:Nat):xr a b=2*xr (a/2) (b/2)+(if a%2=b%2 then 0 else 1):=by
 have e1:2*(a/2)+a%2=a:=by lia
 have e2:2*(b/2)+b%2=b:=by lia
 have q:=Kb (a/2) (b/2) (a%2) (b%2) .(a) .(a);rw[e1,e2]at q;exact q
def CA:∀(n a b:Nat),a+b<=n->a≠b->0<xr a b:=by
 intro n
 induction n with
 | zero=>intro a b h1 h2;lia
 | succ n ih=>
  intro a b h1 h2;rw[Cz];by_cases h:a%2=b%2
  .have:=ih (a/2) (b/2) .(a) .(a);lia
  .rw[ao h];lia
def Kc (m:Nat):jk (2*m+1)=1:=by
 unfold jk;have q:=v9 m m 1 0 .(a) .(a);have e:2*m+1-1=2*m+0:=by lia
 rw[e,q];simp
def Ke (m:Nat)(h:0<m):jk (2*m)=2*jk m:=by
 unfold jk;have q:=v9 m (m-1) 0 1 .(a) .(a);have e:2*m-1=2*(m-1)+1:=by lia
 have e':2*m=2*m+0:=by lia
 rw[e];have:(2*m &&& 2*(m-1)+1)=2*(m &&& m-1)+(0 &&& 1):=q;rw[this];have z:m &&& (m-1)<=m:=Nat.and_le_left;simp;lia
def Kf:∀(n a b:Nat),a+b<=n->a≠b->jk (xr a b)=2^lu a b:=by
 intro n
 induction n with
 | zero=>intro a b h1 h2;lia
 | succ n ih=>
  intro a b h1 h2;rw[Cz];by_cases h:a%2=b%2
  .rw[ak h,sH h2 h,jG,Ke _ (CA n _ _ .(a) .(a)),ih _ _ .(a) .(a),kG];lia
  .rw[ao h,sI h,Kc,Nat.pow_zero]
def Kg:∀(n a b:Nat),a+b<=n->a≠b->a%2^lu a b=b%2^lu a b/\a%2^(lu a b+1)≠b%2^(lu a b+1):=by
 intro n
 induction n with
 | zero=>intro a b h1 h2;lia
 | succ n ih=>
  intro a b h1 h2;by_cases h:a%2=b%2
  .rw[sH h2 h];obtain ⟨q1,q2⟩:=ih (a/2) (b/2) .(a) .(a);have s:∀ x k:Nat,x%2^(k+1)=2*(x/2%2^k)+x%2:=by
    intro x k;rw[kG,Nat.mul_comm,Nat.mod_mul];lia
   rw[s a,s b,s a,s b];constructor
   .omega
   .omega
  .rw[sI h];simp[Nat.mod_one];lia
def Kh:∀(k a b:Nat),a≠b->a<2^k->b<2^k->lu a b<k:=by
 intro k
 induction k with
 | zero=>intro a b h1 h2 h3;simp at h2 h3;lia
 | succ k ih=>
  intro a b h1 h2 h3;by_cases h:a%2=b%2
  .rw[sH h1 h];have:=ih (a/2) (b/2) .(a) (by rw[kG]at h2;lia) (by rw[kG]at h3;lia);lia
  .rw[sI h];lia
def fig (a b:Nat):Nat:=2*lu a b+b/2^lu a b%2
def wb (a b:Nat):fig a b/2=lu a b:=by
 unfold fig;have:=Nat.mod_lt (b/2^lu a b) (by decide:0<2);lia
def wd (a b:Nat):fig a b%2=b/2^lu a b%2:=by
 unfold fig;have:=Nat.mod_lt (b/2^lu a b) (by decide:0<2);lia
def CB (x k:Nat):x%2^(k+1)=x%2^k+2^k*(x/2^k%2):=by
 rw[kG,Nat.mod_mul]
def CC {a b:Nat}(h:a≠b):a/2^lu a b%2≠b/2^lu a b%2:=by
 obtain ⟨h1,h2⟩:=Kg _ a b (aq _) h;intro e;apply h2;rw[CB,CB,h1,e]
def Ki {a b c:Nat}(h2:b≠c):fig a b≠fig b c:=by
 intro e;have e1:lu a b=lu b c:=by rw[<-wb,e,wb]
 have e2:b/2^lu a b%2=c/2^lu b c%2:=by rw[<-wd,e,wd]
 rw[e1]at e2;exact CC h2 e2
def Kj {a b:Nat}(h:a≠b):a%2≠fig a b:=by
 intro e;have l:a%2<2:=Nat.mod_lt _ .(q);have e1:lu a b=0:=by
  have:=wb a b;lia
 have e2:=wd a b;have e3:=CC h;rw[e1]at e2 e3;simp at e2 e3;lia
def Kk {a b k:Nat}(h:a≠b)(ha:a<2^k)(hb:b<2^k):fig a b<2*k:=by
 have:=Kh k a b h ha hb;have:=Nat.mod_lt (b/2^lu a b) (by decide:0<2);unfold fig;lia
def fO (xs:List Nat)(i:Nat):Nat:=if i=0 then xs.getD 0 0%2 else fig (xs.getD (i-1) 0) (xs.getD i 0)
def cP (xs:List Nat):List Nat:=(List.range xs.length).map (fO xs)
def jl (xs:List Nat):(cP xs).length=xs.length:=by unfold cP;rw[ai,d9]
def CD {xs:List Nat}{i:Nat}(h:i<xs.length):(cP xs)[i]?=some (fO xs i):=by
 unfold cP;rw[aZ,ij h];rfl
def we {xs:List Nat}{i:Nat}(h:i<xs.length):(cP xs).getD i 0=fO xs i:=by
 rw[aF,CD h];rfl
def CF {xs:List Nat}{i:Nat}(h:i<xs.length):(cP xs).take (i+1)=(cP xs).take i++[fO xs i]:=by
 have h':i<(cP xs).length:=by rw[jl];exact h
 rw[cG h'];have:=CD h;rw[aA h']at this;rw[aJ this]
def Unl (xs:List Nat):Prop:=∀ i,i+1<xs.length->xs.getD i 0≠xs.getD (i+1) 0
def Kl (h:Unl xs):Unl (cP xs):=by
 intro i hi;rw[jl]at hi;rw[we .(a),we hi];unfold fO;rw[ao (by lia:¬ i+1=0),kH];by_cases h0:i=0
 .subst h0;rw[ak rfl];exact Kj (h 0 hi)
 .rw[ao h0];exact Ki (h i hi)
def dz (m:Nat)(xs:List Nat):Prop:=∀ i,i<xs.length->xs.getD i 0<m
def nc {k:Nat}(hk:1<=k)(h:Unl xs)(hb:dz (2^k) xs):dz (2*k) (cP xs):=by
 intro i hi;rw[jl]at hi;rw[we hi];unfold fO;split
 .have:xs.getD 0 0%2<2:=Nat.mod_lt _ .(q);lia
 .have:=h (i-1) .(a);rw[show i-1+1=i by lia]at this;exact Kk this (hb _ .(a)) (hb _ hi)
def Km (a b:Nat):Builtin.bitXor (a:Int) (b:Int)=((xr a b:Nat):Int):=by
 have h1:Builtin.bitAnd (a:Int) (b:Int)=((a &&& b:Nat):Int):=by
  unfold Builtin.bitAnd;rw[aV (jA a),aV (jA b)];rfl
 have n1:¬ (0:Int)<=Builtin.bitNot (a:Int):=by unfold Builtin.bitNot;lia
 have n2:¬ (0:Int)<=Builtin.bitNot (b:Int):=by unfold Builtin.bitNot;lia
 have h2:Builtin.bitOr (a:Int) (b:Int)=((a ||| b:Nat):Int):=by
  unfold Builtin.bitOr Builtin.bitAnd;rw[bx n1,bx n2];have e:∀ x:Int,Builtin.bitNot (Builtin.bitNot x)=x:=λx=>by unfold Builtin.bitNot;lia
  show Builtin.bitNot (Builtin.bitNot _)=_;rw[e,e,e];rfl
 unfold Builtin.bitXor xr;rw[h1,h2];have:=Cy a b;lia
def Kn (n:Nat)(h:0<n):Builtin.bitAnd (n:Int) (-(n:Int))=((jk n:Nat):Int):=by
 have n2:¬ (0:Int)<=-(n:Int):=by lia
 have e:(Builtin.bitNot (-(n:Int))).toNat=n-1:=by unfold Builtin.bitNot;lia
 unfold Builtin.bitAnd jk;rw[aV (jA n),bx n2];show (n:Int)-(((n:Int).toNat &&& (Builtin.bitNot (-(n:Int))).toNat:Nat):Int)=_;rw[e,fU];have:n &&& (n-1)<=n:=Nat.and_le_left;lia
def Ko (a b:Nat)(h:a≠b):((Builtin.Int.intBits (Builtin.bitAnd (Builtin.bitXor (a:Int) (b:Int)) (-(Builtin.bitXor (a:Int) (b:Int)))):Nat):Int)-1=((lu a b:Nat):Int):=by
 rw[Km,Kn _ (CA _ a b (aq _) h),Kf _ a b (aq _) h];unfold Builtin.Int.intBits;have p:0 < 2 ^ lu a b:=Nat.two_pow_pos _;rw[ao (by
  intro z;have z':=eq_of_beq z;lia),Int.natAbs_natCast,Nat.log2_two_pow]
 lia
def atZ {α:Type}(l:List α)(i:Int):Option α:=if 0<=i then l[i.toNat]? else none
def iF {α:Type}(l:List α)(i:Nat):atZ l (i:Int)=l[i]?:=by
 unfold atZ;rw[ak (jA i),fU]
def sJ {α:Type}{l:List α}{i:Int}(h:i<0):atZ l i=none:=by
 unfold atZ;rw[ao .(a)]
def wg {α:Type}{l:List α}{x:α}(h:atZ l i=some x):0<=i/\i<l.length:=by
 unfold atZ at h;split at h
 .have:=(aT.mp h).1;lia
 .cases h
def CG {α:Type}{l:List α}{i:Int}(h0:0<=i)(h:i<l.length):∃ x,atZ l i=some x:=by
 unfold atZ;rw[ak h0];exact #[_,aA .(a)]
def lE {α β:Type}(f:Option α->α->Option α->β):Option α->List α->List β
 | _,[]=>[]
 | p,x::l=>f p x l.head? :: lE f (some x) l
def mapW {α β:Type}(f:Option α->α->Option α->β)(l:List α):List β:=lE f none l
def ng {α β:Type}(f:Option α->α->Option α->β):∀(l:List α) (p:Option α) (k:Nat),(lE f p l)[k]?=l[k]?.map λx=>f (if k=0 then p else l[k-1]?) x l[k+1]?
 | [],_,_=>rfl
 | x::l,p,0=>by
  show some (f p x l.head?)=some (f p x l[0]?);rw[List.head?_eq_getElem?]
 | x::l,p,k+1=>by
  show (lE f (some x) l)[k]?=l[k]?.map λy=>f (x::l)[k]? y l[k+1]?;rw[ng f l (some x) k];cases k with
  | zero=>rfl
  | succ k=>rfl
def CH {α β:Type}(f:Option α->α->Option α->β):∀(l:List α) (p:Option α),(lE f p l).length=l.length
 | [],_=>rfl
 | x::l,p=>by
  show (lE f (some x) l).length+1=l.length+1;rw[CH f l]
def nh {α β:Type}(f:Option α->α->Option α->β)(l:List α):(mapW f l).length=l.length:=CH f l none
def sR {α β:Type}(f:Option α->α->Option α->β)(l:List α)(i:Int):atZ (mapW f l) i=(atZ l i).map λx=>f (atZ l (i-1)) x (atZ l (i+1)):=by
 by_cases h:0<=i
 .obtain ⟨k,rfl⟩:∃ k:Nat,i=(k:Int):=#[i.toNat,by lia];rw[iF,iF,mapW,ng,show ((k:Int)+1)=((k+1:Nat):Int) by lia,iF];have e:atZ l ((k:Int)-1)=if k=0 then none else l[k-1]?:=by
   split
   .rw[sJ .(a)]
   .rw[show ((k:Int)-1)=((k-1:Nat):Int) by lia,iF]
  rw[e]
 .rw[sJ (l:=mapW f l) .(a),sJ (l:=l) (i:=i) .(a)];rfl
def UnlZ (xs:List Nat):Prop:=∀(i:Int) (x y:Nat),atZ xs i=some x->atZ xs (i+1)=some y->x≠y
def unlZ (h:Unl xs):UnlZ xs:=by
 intro i x y hx hy;obtain ⟨a,b⟩:=wg hx;obtain ⟨_,c⟩:=wg hy;obtain ⟨k,rfl⟩:∃ k:Nat,i=(k:Int):=#[i.toNat,by lia];rw[iF]at hx;rw[show ((k:Int)+1)=((k+1:Nat):Int) by lia,iF]at hy;have:=h k .(a);rw[aF,aF,hx,hy]at this;exact this
def wj (h:UnlZ xs):Unl xs:=by
 intro k hk;have:=h k xs[k] xs[k+1] (by rw[iF];exact aA .(a)) (by rw[show ((k:Int)+1)=((k+1:Nat):Int) by lia,iF];exact aA hk);rw[aF,aF,aA (show k<xs.length by lia),aA hk];exact this
def gb (p n:Option Nat):Nat:=if p≠some 0/\n≠some 0 then 0 else if p≠some 1/\n≠some 1 then 1 else 2
def CI (p n:Option Nat):gb p n<=2:=by
 unfold gb;split
 .omega
 .split<;>lia
def wm {p:Option Nat}{x:Nat}(h:p=some x):gb p n≠x:=by
 subst h;unfold gb;split
 .rename_i c;intro z;exact c.1 (by rw[<-z])
 .split
  .rename_i c;intro z;exact c.1 (by rw[<-z])
  .rename_i c d;intro z;subst z;have c1:n=some 0:=jx λq=>c #[by decide,q];have d1:n=some 1:=jx λq=>d #[by decide,q];rw[c1]at d1;cases d1
def Kp (p n:Option Nat):gb p n=gb n p:=by
 unfold gb;simp only[And.comm]
def CJ {n:Option Nat}{x:Nat}(h:n=some x):gb p n≠x:=by
 rw[Kp];exact wm h
def recF (v:Nat)(p:Option Nat)(x:Nat)(n:Option Nat):Nat:=if x=v then gb p n else x
def recL (v:Nat)(xs:List Nat):List Nat:=mapW (recF v) xs
def iG (v:Nat)(xs:List Nat):(recL v xs).length=xs.length:=nh _ _
def sS (h:UnlZ xs):UnlZ (recL v xs):=by
 intro i x y hx hy;unfold recL at hx hy;rw[sR]at hx hy;cases ex:atZ xs i with
 | none=>rw[ex]at hx;cases hx
 | some x0=>
  cases ey:atZ xs (i+1) with
  | none=>rw[ey]at hy;cases hy
  | some y0=>
   rw[ex]at hx;rw[ey]at hy;have hx:x=recF v (atZ xs (i-1)) x0 (atZ xs (i+1)):=(aJ hx).symm;have hy:y=recF v (atZ xs (i+1-1)) y0 (atZ xs (i+1+1)):=(aJ hy).symm;have n0:=h i x0 y0 ex ey;have e1:i+1-1=i:=by lia
   unfold recF at hx hy;rw[e1,ex]at hy;rw[ey]at hx;split at hx
   .rename_i c;split at hy
    .rename_i c';lia
    .rw[hx,hy];exact CJ rfl
   .split at hy
    .rw[hx,hy];exact (wm rfl).symm
    .omega
def wo {v:Nat}{P:Nat->Prop}{xs:List Nat}(hP:∀ x,x<=2->P x)(h:∀ i x,atZ xs i=some x->x=v\/P x):∀ i x,atZ (recL v xs) i=some x->P x:=by
 intro i x hx;unfold recL at hx;rw[sR]at hx;cases ex:atZ xs i with
 | none=>rw[ex]at hx;cases hx
 | some x0=>
  rw[ex]at hx;have hx:x=recF v (atZ xs (i-1)) x0 (atZ xs (i+1)):=(aJ hx).symm;unfold recF at hx;split at hx
  .rw[hx];exact hP _ (CI _ _)
  .rw[hx];rcases h i x0 ex with q|q
   .exact absurd q (by assumption)
   .exact q
def colL (xs:List Nat):List Nat:=recL 5 (recL 4 (recL 3 xs))
def wq (xs:List Nat):(colL xs).length=xs.length:=by
 unfold colL;rw[iG,iG,iG]
def wt (h:UnlZ xs):UnlZ (colL xs):=sS (sS (sS h))
def Kq {xs:List Nat}(h:∀ i x,atZ xs i=some x->x<=5):∀ i x,atZ (colL xs) i=some x->x<=2:=by
 refine wo (P:=λx=>x<=2) (λx h=>h) ?_;refine wo (P:=λx=>x=5\/x<=2) (λx h=>.inr h) ?_;refine wo (P:=λx=>x=4\/x=5\/x<=2) (λx h=>.inr (.inr h)) ?_;intro i x e;have:=h i x e;lia
def wx (sh:Nat)(p:Option (Nat×Bool))(x:Nat×Bool)(n:Option (Nat×Bool)):Nat×Bool:=
 (x.1,x.2||(decide (x.1=sh)&&p.isSome && !(p.map (·.2)).getD false && !(n.map (·.2)).getD false))
def dh (sh:Nat)(l:List (Nat×Bool)):List (Nat×Bool):=mapW (wx sh) l
def cO (c:List Nat):List (Nat×Bool):=c.map λx=>(x,false)
def gR (c:List Nat):List (Nat×Bool):=dh 0 (dh 1 (dh 2 (cO c)))
def iH (c:List Nat):List Bool:=(gR c).map (·.2)
def Kr (c:List Nat):(gR c).length=c.length:=by
 unfold gR dh cO;rw[nh,nh,nh,ai]
def CK (c:List Nat):(iH c).length=c.length:=by
 unfold iH;rw[ai,Kr]
def CM (c:List Nat)(i:Int):atZ (cO c) i=(atZ c i).map λx=>(x,false):=by
 unfold cO atZ;split
 .rw[aZ]
 .rfl
def mkZ (l:List (Nat×Bool))(i:Int):Bool:=((atZ l i).map (·.2)).getD false
def clZ (l:List (Nat×Bool))(i:Int):Option Nat:=(atZ l i).map (·.1)
def Ks (sh:Nat)(l:List (Nat×Bool))(i:Int):clZ (dh sh l) i=clZ l i:=by
 unfold clZ dh;rw[sR];cases atZ l i<;>rfl
def sT (sh:Nat)(l:List (Nat×Bool))(i:Int):mkZ (dh sh l) i=(mkZ l i||(decide (clZ l i=some sh)&&(clZ l (i-1)).isSome && !mkZ l (i-1) && !mkZ l (i+1))):=by
 unfold mkZ clZ dh;rw[sR];cases atZ l i with
 | none=>simp
 | some x=>
  unfold wx;cases atZ l (i-1)<;>cases atZ l (i+1)<;>simp
structure MkOk (c:List Nat)(l:List (Nat×Bool)):Prop where
 cl:∀ i,clZ l i=atZ c i
 ind:∀ i,mkZ l i=true->mkZ l (i+1)=true->False
 fst:∀ i,mkZ l i=true->(atZ c (i-1)).isSome=true/\(atZ c i).isSome=true
def sU (c:List Nat):MkOk c (cO c):=by
 have e:∀ i,mkZ (cO c) i=false:=λi=>by
  unfold mkZ;rw[CM];cases atZ c i<;>rfl
 refine #[λi=>?_,λi h=>?_,λi h=>?_]
 .unfold clZ;rw[CM];cases atZ c i<;>rfl
 .rw[e]at h;cases h
 .rw[e]at h;cases h
def lF (hu:UnlZ c)(h:MkOk c l):MkOk c (dh sh l):=by
 refine #[λi=>by rw[Ks,h.cl],λi h1 h2=>?_,λi h1=>?_]
 .rw[sT]at h1 h2;simp only[oa,eV,decide_eq_true_eq,kx]at h1 h2;rw[show i+1-1=i by lia]at h2;rcases h1 with h1|h1<;>rcases h2 with h2|h2
  .exact h.ind i h1 h2
  .rw[h1]at h2;exact absurd h2.1.2 .(q)
  .rw[h2]at h1;exact absurd h1.2 .(q)
  .have a:=h1.1.1.1;have b:=h2.1.1.1;rw[h.cl]at a b;exact hu i sh sh a b rfl
 .rw[sT]at h1;simp only[oa,eV,decide_eq_true_eq,kx]at h1;rcases h1 with h1|h1
  .exact h.fst i h1
  .refine #[?_,?_]
   .rw[<-h.cl];exact h1.1.1.2
   .rw[<-h.cl,h1.1.1.1];rfl
def gB (h:mkZ l i=true):mkZ (dh sh l) i=true:=by
 rw[sT,h];rfl
def wz {sh:Nat}(h:MkOk c l)(hc:atZ c i=some sh)(hp:(atZ c (i-1)).isSome=true):mkZ (dh sh l) (i-1)=true\/mkZ (dh sh l) i=true\/mkZ (dh sh l) (i+1)=true:=by
 by_cases a:mkZ l (i-1)=true
 .exact .inl (gB a)
 .by_cases b:mkZ l (i+1)=true
  .exact .inr (.inr (gB b))
  .refine .inr (.inl ?_);rw[sT,h.cl,h.cl,hc,hp,iS.mpr a,iS.mpr b];simp
def CN (hu:UnlZ c):MkOk c (gR c):=lF hu (lF hu (lF hu (sU c)))
def Kt (hu:UnlZ c)(hc:∀ i x,atZ c i=some x->x<=2){i:Int}(h1:(atZ c (i-1)).isSome=true)(h2:(atZ c i).isSome=true):mkZ (gR c) (i-1)=true\/mkZ (gR c) i=true\/mkZ (gR c) (i+1)=true:=by
 obtain ⟨x,hx⟩:=l6.mp h2;have hle:=hc i x hx;have z:x=2\/x=1\/x=0:=by lia
 rcases z with rfl|rfl|rfl
 .rcases wz (sU c) hx h1 with q|q|q
  .exact .inl (gB (gB q))
  .exact .inr (.inl (gB (gB q)))
  .exact .inr (.inr (gB (gB q)))
 .rcases wz (lF (sh:=2) hu (sU c)) hx h1 with q|q|q
  .exact .inl (gB q)
  .exact .inr (.inl (gB q))
  .exact .inr (.inr (gB q))
 .exact wz (lF (sh:=1) hu (lF (sh:=2) hu (sU c))) hx h1
structure jm (ms:List Bool):Prop where
 fst:ms.getD 0 false=false
 ind:∀ i,ms.getD i false=true->ms.getD (i+1) false=true->False
 dom:∀ i,1<=i->i<ms.length->ms.getD (i-1) false=true\/ms.getD i false=true\/ms.getD (i+1) false=true
def ni (c:List Nat)(i:Nat):(iH c).getD i false=mkZ (gR c) (i:Int):=by
 unfold mkZ iH;rw[iF,aF,aZ]
def Ku (hu:UnlZ c)(hc:∀ i x,atZ c i=some x->x<=2):jm (iH c):=by
 refine #[?_,λi h1 h2=>?_,λi h1 h2=>?_]
 .rw[ni];cases e:mkZ (gR c) ((0:Nat):Int) with
  | false=>rfl
  | true=>
   have:=((CN hu).fst _ e).1;rw[sJ .(a)]at this;cases this
 .rw[ni]at h1 h2;exact (CN hu).ind i h1 h2
 .rw[CK]at h2;have a:(atZ c ((i:Int)-1)).isSome=true:=by
   obtain ⟨x,hx⟩:=CG (l:=c) (i:=(i:Int)-1) .(a) .(a);rw[hx];rfl
  have b:(atZ c (i:Int)).isSome=true:=by
   obtain ⟨x,hx⟩:=CG (l:=c) (i:=(i:Int)) .(a) .(a);rw[hx];rfl
  rcases Kt hu hc a b with q|q|q
  .refine .inl ?_;rw[ni,show ((i-1:Nat):Int)=(i:Int)-1 by lia];exact q
  .refine .inr (.inl ?_);rw[ni];exact q
  .refine .inr (.inr ?_);rw[ni];exact q
def Kv {y:Nat}(h:y<gb p n):p=some y\/n=some y:=by
 unfold gb at h;split at h
 .omega
 .rename_i c;have c0:p=some 0\/n=some 0:=jx λq=>c #[λz=>q (.inl z),λz=>q (.inr z)];split at h
  .have:y=0:=by lia
   subst this;exact c0
  .rename_i d;have d0:p=some 1\/n=some 1:=jx λq=>d #[λz=>q (.inl z),λz=>q (.inr z)];have:y=0\/y=1:=by lia
   rcases this with rfl|rfl
   .exact c0
   .exact d0
def cb (xs:List Nat)(k:Nat):List Nat:= .(ea).toList++xs[k+1]?.toList
def CO {k y:Nat}:y∈cb xs k↔ .(ea)=some y\/xs[k+1]?=some y:=by
 unfold cb;rw[bX,Option.mem_toList,Option.mem_toList]
def eA (xs:List Nat)(k:Nat):Nat:=gb .(ea) xs[k+1]?
def CP {k:Nat}:eA xs k∉cb xs k:=λh=>by
 rcases CO.mp h with q|q
 .exact wm q rfl
 .exact CJ q rfl
def CQ {k y:Nat}(h:y<eA xs k):y∈cb xs k:=CO.mpr (Kv h)
def CT (xs:List Nat)(k:Nat):eA xs k<=2:=CI _ _
def Kw {k:Nat}:((List.range 3).filter λc=>!decide (c∈cb xs k)).head?=some (eA xs k):=by
 have h1:=CP (xs:=xs) (k:=k);have h2:=λy=>CQ (xs:=xs) (k:=k) (y:=y);have h3:=CT xs k;rw[show List.range 3=[0,1,2] from rfl];generalize eA xs k=f at h1 h2 h3 ⊢;have z:f=0\/f=1\/f=2:=by lia
 rcases z with rfl|rfl|rfl
 .simp[List.filter,h1]
 .simp[List.filter,h1,h2 0 .(a)]
 .simp[List.filter,h1,h2 0 .(a),h2 1 .(a)]
def wA {xs:List Nat}{k:Nat}(h:k<xs.length):(recL v xs)[k]?=some (if xs.getD k 0=v then eA xs k else xs.getD k 0):=by
 unfold recL mapW;rw[ng,aF,aA h];rfl
def mixL (v:Nat)(xs:List Nat)(k:Nat):List Nat:=(recL v xs).take k++xs.drop k
def CU {xs:List Nat}{k:Nat}(h:xs.length<=k):mixL v xs k=recL v xs:=by
 unfold mixL;rw[bG (by rw[iG];exact h),gj h,bQ]
def wB (v:Nat)(xs:List Nat)(k:Nat):(mixL v xs k).length=xs.length:=by
 unfold mixL;rw[aS,bu,eU,iG];lia
def lG (v:Nat)(xs:List Nat)(k j:Nat):(mixL v xs k)[j]?=if j<k then (recL v xs)[j]? else xs[j]?:=by
 unfold mixL;by_cases hk:k<=xs.length
 .rw[List.getElem?_append,bu,iG,jH hk];split
  .rw[oh];rw[ak (by assumption)]
  .rw[uB];congr 1;lia
 .rw[gj .(a),bQ,bG (by rw[iG];lia)];split
  .rfl
  .rw[dy (by rw[iG];lia),dy .(a)]
def CV {k j:Nat}(h:k<=j):(mixL v xs k)[j]?=xs[j]?:=by
 rw[lG,ao .(a)]
def CW {v:Nat}{xs:List Nat}{k:Nat}(h:k<xs.length)(hv:xs.getD k 0≠v):mixL v xs (k+1)=mixL v xs k:=by
 apply gK;intro j;rw[lG,lG];by_cases c:j<k
 .rw[ak c,ak .(a)]
 .rw[ao c];split
  .have:j=k:=by lia
   subst this;rw[wA h,ao hv,aF,aA h];rfl
  .rfl
def CY {v:Nat}{xs:List Nat}{k m:Nat}(hkm:k<=m)(hm:m<=xs.length)(hv:∀ j,k<=j->j<m->xs.getD j 0≠v):mixL v xs m=mixL v xs k:=by
 induction m with
 | zero=>
  have:k=0:=by lia
  rw[this]
 | succ m ih=>
  by_cases c:k=m+1
  .rw[c]
  .rw[CW .(a) (hv m .(a) .(a)),ih .(a) .(a) (λj a b=>hv j a .(a))]
def Kx {v:Nat}{k:Nat}(hu:Unl xs)(h:k<xs.length)(hv:xs.getD k 0=v):(if k=0 then none else (mixL v xs k)[k-1]?)=if k=0 then none else xs[k-1]?:=by
 cases k with
 | zero=>rfl
 | succ k=>
  show (mixL v xs (k+1))[k]?=xs[k]?;rw[lG,ak .(a),wA .(a)];have:=hu k h;rw[hv]at this;rw[ao this,aF,aA (show k<xs.length by lia)];rfl
def CZ {v:Nat}{k:Nat}(hu:Unl xs)(h:k<xs.length)(hv:xs.getD k 0=v):cb (mixL v xs k) k=cb xs k:=by
 unfold cb;rw[Kx hu h hv,CV (j:=k+1) .(a)]
def C0 {v:Nat}{xs:List Nat}{k:Nat}(h:k<xs.length)(hv:xs.getD k 0=v):mixL v xs (k+1)=(mixL v xs k).set k (eA xs k):=by
 apply gK;intro j;rw[ip,wB,lG,lG];by_cases c:k=j
 .subst c;rw[ak rfl,ak h,ak .(a),wA h,ak hv]
 .rw[ao c];by_cases c2:j<k
  .rw[ak c2,ak .(a)]
  .rw[ao c2,ao .(a)]
def dY (sh:Nat)(cs:List Nat)(ms:List Bool):List Bool:=(dh sh (cs.zip ms)).map (·.2)
def jn {cs:List Nat}{ms:List Bool}(h:cs.length=ms.length):(dY sh cs ms).length=ms.length:=by
 unfold dY dh;rw[ai,nh,oi];lia
def Ky {cs:List Nat}:∀{ms:List Bool},cs.length=ms.length->(cs.zip ms).map (·.1)=cs:=by
 induction cs with
 | nil=>intro ms _;rfl
 | cons c cs ih=>
  intro ms h;cases ms with
  | nil=>cases h
  | cons m ms=>
   show c::(cs.zip ms).map (·.1)=c::cs;rw[ih (Nat.succ.inj h)]
def C1:∀(l:List (Nat×Bool)),(l.map (·.1)).zip (l.map (·.2))=l
 | []=>rfl
 | x::l=>by
  show x::(l.map (·.1)).zip (l.map (·.2))=x::l;rw[C1 l]
def Kz (sh:Nat)(l:List (Nat×Bool)):(dh sh l).map (·.1)=l.map (·.1):=by
 apply gK;intro k;unfold dh mapW;rw[aZ,aZ,ng];cases l[k]?<;>rfl
def C3 {cs:List Nat}{ms:List Bool}(h:cs.length=ms.length):dh sh (cs.zip ms)=cs.zip (dY sh cs ms):=by
 have e:=C1 (dh sh (cs.zip ms));rw[Kz,Ky h]at e;exact e.symm
def KA (cs:List Nat):cO cs=cs.zip (cs.map λ_=>false):=by
 unfold cO
 induction cs with
 | nil=>rfl
 | cons c cs ih=>
  show (c,false)::cs.map (λx=>(x,false))=(c,false)::cs.zip (cs.map λ_=>false);rw[ih]
def KB (cs:List Nat):iH cs=dY 0 cs (dY 1 cs (dY 2 cs (cs.map λ_=>false))):=by
 have l1:cs.length=(cs.map λ_=>false).length:=by rw[ai]
 have l2:cs.length=(dY 2 cs (cs.map λ_=>false)).length:=by rw[jn l1,<-l1]
 unfold iH gR;rw[KA,C3 l1,C3 l2];rfl
def lH {cs:List Nat}{ms:List Bool}(hl:cs.length=ms.length){k:Nat}(h:k<cs.length):(dY sh cs ms)[k]?=some (ms.getD k false||(decide (cs.getD k 0=sh)&&decide (1<=k) && !ms.getD (k-1) false && !ms.getD (k+1) false)):=by
 unfold dY dh mapW;have gz:∀ j,(cs.zip ms)[j]?=if h:j<cs.length then some (cs[j],ms[j]' .(a)) else none:=λj=>by
  split
  .rename_i q;rw[aA (by rw[oi];lia),List.getElem_zip]
  .exact dy (by rw[oi];lia)
 have gm:∀ j,ms.getD j false=(((cs.zip ms)[j]?).map (·.2)).getD false:=λj=>by
  rw[gz];split
  .rw[aF,aA .(a)];rfl
  .rw[aF,dy .(a)];rfl
 rw[aZ,ng,gm k,gm (k+1),gm (k-1),aF,aA h];have e:=gz k;rw[dif_pos h]at e;rw[e];show some _=some _;unfold wx;cases k with
 | zero=>simp
 | succ k=>
  have e2:=gz k;rw[dif_pos .(a)]at e2;simp[e2]
def mixM (sh:Nat)(cs:List Nat)(ms:List Bool)(k:Nat):List Bool:=(dY sh cs ms).take k++ms.drop k
def C4 {cs:List Nat}{ms:List Bool}(hl:cs.length=ms.length){k:Nat}(h:cs.length<=k):mixM sh cs ms k=dY sh cs ms:=by
 unfold mixM;rw[bG (by rw[jn hl];lia),gj .(a),bQ]
def sV {cs:List Nat}{ms:List Bool}(hl:cs.length=ms.length)(k:Nat): .(v).length=cs.length:=by
 unfold mixM;rw[aS,bu,eU,jn hl];lia
def gc {cs:List Nat}{ms:List Bool}(hl:cs.length=ms.length)(k j:Nat): .(v)[j]?=if j<k then (dY sh cs ms)[j]? else ms[j]?:=by
 unfold mixM;by_cases hk:k<=ms.length
 .rw[List.getElem?_append,bu,jn hl,jH hk];split
  .rw[oh];rw[ak (by assumption)]
  .rw[uB];congr 1;lia
 .rw[gj .(a),bQ,bG (by rw[jn hl];lia)];split
  .rfl
  .rw[dy (by rw[jn hl];lia),dy .(a)]
def gC (ms:List Bool)(k:Nat):Bool:=!ms.getD (k-1) false && !ms.getD k false && !ms.getD (k+1) false
def KC {sh:Nat}{ms:List Bool}(hu:Unl cs)(hl:cs.length=ms.length){k:Nat}(h:k<cs.length)(h1:1<=k)(hs:cs.getD k 0=sh):gC .(v) k=gC ms k:=by
 unfold gC;have e:∀ j,k<=j-> .(v).getD j false=ms.getD j false:=λj hj=>by
  rw[aF,aF,gc hl,ao .(a)]
 rw[e k .(a),e (k+1) .(a)];have e2: .(v).getD (k-1) false=ms.getD (k-1) false:=by
  rw[aF,gc hl,ak .(a),lH hl .(a)];have:=hu (k-1) .(a);rw[show k-1+1=k by lia,hs]at this;rw[bx this];simp
 rw[e2]
def wC {sh:Nat}{cs:List Nat}{ms:List Bool}(hl:cs.length=ms.length){k:Nat}(h:k<cs.length)(hn:¬ (1<=k/\cs.getD k 0=sh/\gC ms k=true)):mixM sh cs ms (k+1)=mixM sh cs ms k:=by
 apply gK;intro j;rw[gc hl,gc hl];by_cases c:j<k
 .rw[ak c,ak .(a)]
 .rw[ao c];split
  .have:j=k:=by lia
   subst this;rw[lH hl h];unfold gC at hn;rw[aA .(a)];have e:ms.getD j false=ms[j]' .(a):=by
    rw[aF,aA .(a)];rfl
   rw[e]at hn ⊢;congr 1;generalize ms[j]=a at hn ⊢;generalize ms.getD (j-1) false=b at hn ⊢;generalize ms.getD (j+1) false=d at hn ⊢;cases a<;>cases b<;>cases d<;>simp at hn ⊢
   intro q;lia
  .rfl
def KD {sh:Nat}{cs:List Nat}{ms:List Bool}(hl:cs.length=ms.length){k:Nat}(h:k<cs.length)(hp:1<=k/\cs.getD k 0=sh/\gC ms k=true):mixM sh cs ms (k+1)= .(v).set k true:=by
 apply gK;intro j;rw[ip,sV hl,gc hl,gc hl];by_cases c:k=j
 .subst c;rw[ak rfl,ak h,ak .(a),lH hl h];obtain ⟨p1,p2,p3⟩:=hp;unfold gC at p3;simp only[eV,kx]at p3;rw[p2,p3.1.1,p3.1.2,p3.2,aV p1];simp
 .rw[ao c];by_cases c2:j<k
  .rw[ak c2,ak .(a)]
  .rw[ao c2,ao .(a)]
structure dO (ms:List Bool)(sp:List Nat):Prop where
 up:sp.Pairwise .(Ca)
 iff:∀ j,j∈sp↔ms.getD j false=true
def C5 (ms:List Bool):dO ms ((List.range ms.length).filter λk=>ms.getD k false):=by
 refine #[List.Pairwise.filter _ oj,λj=>?_];rw[d6,d7];constructor
 .exact λh=>h.2
 .intro h;refine #[?_,h];rw[aF]at h;cases e:ms[j]? with
  | none=>rw[e]at h;cases h
  | some x=>exact (aT.mp e).1
def dO.lt (S:dO ms sp){j:Nat}(h:j∈sp):j<ms.length:=by
 have h:=(S.iff j).mp h;rw[aF]at h;cases e:ms[j]? with
 | none=>rw[e]at h;cases h
 | some x=>exact (aT.mp e).1
def dO.step (S:dO ms sp)(M:jm ms){t:Nat}(h:t+1<sp.length):sp[t]+2<=sp[t+1]/\sp[t+1]<=sp[t]+3:=by
 have up:=dU.mp S.up;have lt:=up t (t+1) .(a) h .(a);have m0:=(S.iff _).mp (cC (show t<sp.length by lia));have m1:=(S.iff _).mp (cC h);have l1:=S.lt (cC h);have no:∀ j,sp[t]<j->j<sp[t+1]->ms.getD j false=false:=λj a b=>by
  cases e:ms.getD j false with
  | false=>rfl
  | true=>
   obtain ⟨u,hu,q⟩:=cY ((S.iff j).mpr e);have c1:¬ u<=t:=λz=>by
    by_cases z':u=t
    .subst z';lia
    .have:=up u t hu .(a) .(a);lia
   have c2:¬ t+1<=u:=λz=>by
    by_cases z':u=t+1
    .subst z';lia
    .have:=up (t+1) u h hu .(a);lia
   lia
 refine #[?_,?_]
 .by_cases c:sp[t+1]=sp[t]+1
  .rw[c]at m1;exact (M.ind _ m0 m1).elim
  .omega
 .refine jF λc=>?_;rcases M.dom (sp[t]+2) .(a) .(a) with q|q|q
  .rw[no (sp[t]+2-1) .(a) .(a)]at q;cases q
  .rw[no (sp[t]+2) .(a) .(a)]at q;cases q
  .rw[no (sp[t]+2+1) .(a) .(a)]at q;cases q
def dO.first (S:dO ms sp)(M:jm ms)(h:2<=ms.length):∃ hp:0<sp.length,1<=sp[0]/\sp[0]<=2:=by
 have ex:∃ j,j<=2/\ms.getD j false=true:=by
  rcases M.dom 1 .(a) .(a) with q|q|q
  .exact #[0,by lia,q]
  .exact #[1,by lia,q]
  .exact #[2,by lia,q]
 obtain ⟨j,hj,e⟩:=ex;obtain ⟨u,hu,q⟩:=cY ((S.iff j).mpr e);refine #[by lia,?_,?_]
 .have m0:=(S.iff _).mp (cC (show 0<sp.length by lia));refine uC λz=>?_;rw[z,M.fst]at m0;cases m0
 .by_cases c:u=0
  .subst c;lia
  .have:=dU.mp S.up 0 u .(a) hu .(a);lia
def dO.last (S:dO ms sp)(M:jm ms)(h:2<=ms.length)(hp:0<sp.length):ms.length<=sp[sp.length-1]+2:=by
 have ex:∃ j,ms.length-2<=j/\ms.getD j false=true:=by
  rcases M.dom (ms.length-1) .(a) .(a) with q|q|q
  .exact #[_,by lia,q]
  .exact #[_,by lia,q]
  .exact #[_,by lia,q]
 obtain ⟨j,hj,e⟩:=ex;obtain ⟨u,hu,q⟩:=cY ((S.iff j).mpr e);by_cases c:u=sp.length-1
 .subst c;lia
 .have:=dU.mp S.up u (sp.length-1) hu .(a) .(a);lia
def dO.low (S:dO ms sp)(M:jm ms):∀(t:Nat) (h:t<sp.length),2*t+1<=sp[t]
 | 0,h=>by
  have m0:=(S.iff _).mp (cC h);refine uC λz=>?_;rw[z,M.fst]at m0;cases m0
 | t+1,h=>by
  have a:=dO.low S M t .(a);have b:=(S.step M h).1;lia
def dO.half (S:dO ms sp)(M:jm ms):2*sp.length<=ms.length:=by
 by_cases c:sp.length=0
 .omega
 .have a:=S.low M (sp.length-1) .(a);have b:=S.lt (cC (show sp.length-1<sp.length by lia));lia
def dO.none (S:dO ms sp)(M:jm ms)(h:ms.length<2):sp=[]:=by
 have:=S.half M;exact og .(a)
def ck {α:Type}(es:List α)(ms:List Bool):List α:=((es.zip ms).filter (·.2)).map (·.1)
structure Ats (P:Nat->Bool)(n:Nat)(l:List Nat):Prop where
 up:l.Pairwise .(Ca)
 iff:∀ j,j∈l↔j<n/\P j=true
def KF (P:Nat->Bool)(n:Nat):Ats P n (.(K).filter P):=#[List.Pairwise.filter _ oj,λj=>by rw[d6,d7]]
def Ats.get {n:Nat}{l:List Nat}(A:Ats P n l){j:Nat}(h:j<l.length):l[j]<n/\P l[j]=true:=(A.iff _).mp (cC h)
def Ats.first {n:Nat}{l:List Nat}(A:Ats P n l){i:Nat}(h:i<l.getD 0 n)(hn:i<n):P i=false:=by
 cases e:P i with
 | false=>rfl
 | true=>
  obtain ⟨u,hu,q⟩:=cY ((A.iff i).mpr #[hn,e]);have h0:l.getD 0 n=l[0]' .(a):=by
   rw[aF,aA .(a)];rfl
  rw[h0]at h;by_cases c:u=0
  .subst c;lia
  .have:=dU.mp A.up 0 u .(a) hu .(a);lia
def Ats.next {n:Nat}{l:List Nat}(A:Ats P n l){j:Nat}(hj:j<l.length){i:Nat}(h1:l[j]<i)(h:i<l.getD (j+1) n)(hn:i<n):P i=false:=by
 cases e:P i with
 | false=>rfl
 | true=>
  obtain ⟨u,hu,q⟩:=cY ((A.iff i).mpr #[hn,e]);have up:=dU.mp A.up;have c1:j<u:=by
   refine om λz=>?_;by_cases c:u=j
   .subst c;lia
   .have:=up u j hu hj .(a);lia
  have h0:l.getD (j+1) n=l[j+1]' .(a):=by
   rw[aF,aA .(a)];rfl
  rw[h0]at h;by_cases c:u=j+1
  .subst c;lia
  .have:=up (j+1) u .(a) hu .(a);lia
def Ats.le {n:Nat}{l:List Nat}(A:Ats P n l)(j:Nat):l.getD j n<=n:=by
 rw[aF];by_cases h:j<l.length
 .rw[aA h];exact eS (A.get h).1
 .rw[dy .(a)];exact aq _
def Ats.step_le {n:Nat}{l:List Nat}(A:Ats P n l){j:Nat}(hj:j<l.length):l[j]+1<=l.getD (j+1) n:=by
 rw[aF];by_cases h:j+1<l.length
 .rw[aA h];exact dU.mp A.up j (j+1) hj h .(a)
 .rw[dy .(a)];exact (A.get hj).1
def atsL (v:Nat)(xs:List Nat):List Nat:=(List.range xs.length).filter λk=>decide (xs.getD k 0=v)
def nj (v:Nat)(xs:List Nat):Ats (λk=>decide (xs.getD k 0=v)) xs.length (atsL v xs):=KF _ _
def KG :mixL v xs ((atsL v xs).getD 0 xs.length)=xs:=by
 rw[CY (k:=0) (cv _) ((nj v xs).le 0) (λj _ h=>kI ((nj v xs).first h (cn h ((nj v xs).le 0))))];rfl
def KH {j:Nat}(hj:j<(atsL v xs).length):mixL v xs ((atsL v xs).getD (j+1) xs.length)=(mixL v xs (atsL v xs)[j]).set (atsL v xs)[j] (eA xs (atsL v xs)[j]):=by
 have A:=nj v xs;have g:=A.get hj;rw[CY (k:=(atsL v xs)[j]+1) (A.step_le hj) (A.le _) (λi a b=>kI (A.next hj .(a) b (cn b (A.le _)))),C0 g.1 (bO g.2)]
def KI :mixL v xs ((atsL v xs).getD (atsL v xs).length xs.length)=recL v xs:=by
 rw[aF,dy (aq _)];exact CU (aq _)
def colN (xs:List Nat):Nat->List Nat
 | 0=>xs
 | i+1=>recL (3+i) (colN xs i)
def C6 (xs:List Nat)(i:Nat):(colN xs i).length=xs.length:=by
 induction i with
 | zero=>rfl
 | succ i ih=>rw[colN,iG,ih]
def C7 (h:Unl xs)(i:Nat):Unl (colN xs i):=by
 induction i with
 | zero=>exact h
 | succ i ih=>exact wj (sS (unlZ ih))
def mkN (cs:List Nat):Nat->List Bool
 | 0=>cs.map λ_=>false
 | i+1=>dY (2-i) cs (mkN cs i)
def C8 (cs:List Nat):mkN cs 3=iH cs:=(KB cs).symm
def C9 (cs:List Nat)(i:Nat):cs.length=(mkN cs i).length:=by
 induction i with
 | zero=>rw[mkN,ai]
 | succ i ih=>rw[mkN,jn ih,ih]
def Da {cs:List Nat}{ms:List Bool}(hl:cs.length=ms.length):mixM sh cs ms 1=ms:=by
 by_cases h:0<cs.length
 .rw[wC hl h (λz=>by lia)];rfl
 .have:ms=[]:=og .(a);subst this;unfold mixM;rw[og (show (dY sh cs []).length=0 by rw[jn hl];rfl)];rfl
def aP (ps:List Nat):Prop:=∀ i (h:i<ps.length),ps[i]<=i
def par (ps:List Nat):Nat->Option Nat
 | 0=>none
 | k+1=>ps[k]?
def bj (T:aP ps){k p:Nat}(h:par ps k=some p):p<k/\k<ps.length+1:=by
 cases k with
 | zero=>cases h
 | succ k=>
  obtain ⟨h1,rfl⟩:=aT.mp (show ps[k]?=some p from h);have:=T k h1;lia
def sW {ps:List Nat}{k:Nat}(h1:1<=k)(h2:k<ps.length+1):∃ p,par ps k=some p:=by
 cases k with
 | zero=>lia
 | succ k=>exact #[_,aA (show k<ps.length by lia)]
def KJ {ps:List Nat}{k:Nat}(h2:k<ps.length+1)(h:par ps k=none):k=0:=by
 cases k with
 | zero=>rfl
 | succ k=>
  have:=List.getElem?_eq_none_iff.mp (show ps[k]?=none from h);lia
def wayF (ps:List Nat)(one:Nat):Nat->Nat->Option (List Nat)
 | 0,_=>none
 | f+1,o=>if o=one then some [o] else match par ps o with
  | none=>none
  | some p=>(wayF ps one f p).map (· ++ [o])
def Dc (T:aP ps){one:Nat}:∀ f g o,o<f->o<g->wayF ps one f o=wayF ps one g o
 | 0,_,_,h,_=>absurd h (iR _)
 | _,0,_,_,h=>absurd h (iR _)
 | f+1,g+1,o,hf,hg=>by
  unfold wayF;split
  .rfl
  .cases e:par ps o with
   | none=>rfl
   | some p=>
    have:=(bj T e).1;show (wayF ps one f p).map _=(wayF ps one g p).map _;rw[Dc T f g p .(a) .(a)]
def wayL (ps:List Nat)(one o:Nat):Option (List Nat):=wayF ps one (o+1) o
def KL :wayL ps o o=some [o]:=by
 unfold wayL wayF;rw[ak rfl]
def sX (T:aP ps){one o:Nat}(h:o≠one):wayL ps one o=match par ps o with
  | none=>none
  | some p=>(wayL ps one p).map (· ++ [o]):=by
 unfold wayL;rw[wayF,ao h];cases e:par ps o with
 | none=>rfl
 | some p=>
  show (wayF ps one o p).map _=(wayF ps one (p+1) p).map _;rw[Dc T o (p+1) p (bj T e).1 .(a)]
def Df (T:aP ps){one:Nat}:∀ n o,o<=n->o<one->wayL ps one o=none
 | n,o,hn,h=>by
  rw[sX T .(a)];cases e:par ps o with
  | none=>rfl
  | some p=>
   have hp:=(bj T e).1;show (wayL ps one p).map _=none;cases n with
   | zero=>lia
   | succ n=>rw[Df T n p .(a) .(a)];rfl
def lI (ps:List Nat)(w:List Nat):Prop:=∀ t,t+1<w.length->par ps (w.getD (t+1) 0)=some (w.getD t 0)
def KM {x:Nat}(h:lI ps w)(hx:w≠[]->par ps x=some .(wa)):lI ps (w++[x]):=by
 intro t ht;rw[aS,cS]at ht;have e0:(w++[x]).getD t 0=w.getD t 0:=by
  rw[aF,aF,iO .(a)]
 rw[e0];by_cases c:t+1<w.length
 .have e1:(w++[x]).getD (t+1) 0=w.getD (t+1) 0:=by
   rw[aF,aF,iO c]
  rw[e1];exact h t c
 .have et:t+1=w.length:=by lia
  have e1:(w++[x]).getD (t+1) 0=x:=by
   rw[aF,et,gi (aq _),mf];rfl
  rw[e1];have:=hx (λz=>by rw[z]at et;simp at et);rw[<-et,kH]at this;exact this
def isB (ps:List Nat)(k j:Nat):Bool:=(wayL ps k j).isSome
def benL (ps:List Nat)(k n:Nat):List Nat:= .(K).filter (isB ps k)
def iI {k:Nat}:isB ps k k=true:=by
 unfold isB;rw[KL];rfl
def fP (T:aP ps){k j:Nat}(h:j<k):isB ps k j=false:=by
 unfold isB;rw[Df T j j (aq _) h];rfl
def gT (T:aP ps){k j p:Nat}(h:j≠k)(e:par ps j=some p):isB ps k j=isB ps k p:=by
 unfold isB;rw[sX T h,e];show ((wayL ps k p).map _).isSome=_;cases wayL ps k p<;>rfl
def KN (T:aP ps)(k:Nat):benL ps k (k+1)=[k]:=by
 unfold benL;rw[iT,dg];have e1:(List.range k).filter (isB ps k)=[]:=by
  rw[iq];intro j hj z;rw[fP T (d7.mp hj)]at z;cases z
 rw[e1,List.nil_append,dE iI];rfl
def iJ {k:Nat}:j∈benL ps k n↔j<n/\isB ps k j=true:=by
 unfold benL;rw[d6,d7]
def Dg {k:Nat}:benL ps k (n+1)=benL ps k n++(if isB ps k n=true then [n] else []):=by
 unfold benL;rw[iT,dg];congr 1;by_cases h:isB ps k n=true
 .rw[ak h,dE h];rfl
 .rw[ao h,fE h];rfl
def Dh (ps:List Nat)(k n:Nat):(benL ps k n).length<=n:=by
 have:=eX (isB ps k) .(K);rw[d9]at this;exact this
def wD (ps:List Nat)(k n:Nat):(benL ps k n).Pairwise .(Ca):=List.Pairwise.filter _ oj
def Di (T:aP ps):∀ n j,j<=n->j<ps.length+1->isB ps 0 j=true
 | n,j,hn,h=>by
  by_cases c:j=0
  .rw[c];exact iI
  .obtain ⟨p,e⟩:=sW .(a) h;have:=(bj T e).1;rw[gT T c e];cases n with
   | zero=>lia
   | succ n=>exact Di T n p .(a) .(a)
def KO (T:aP ps):benL ps 0 (ps.length+1)=List.range (ps.length+1):=by
 unfold benL;rw[oo];exact λj hj=>Di T j j (aq _) (d7.mp hj)
def bR (ps:List Nat)(k n:Nat):List Nat:= .(K).filter λj=>decide (par ps j=some k)
def da {k j:Nat}:j∈bR ps k n↔j<n/\par ps j=some k:=by
 unfold bR;rw[d6,d7,decide_eq_true_eq]
def sY {k:Nat}:bR ps k (n+1)=bR ps k n++(if par ps n=some k then [n] else []):=by
 unfold bR;rw[iT,dg];congr 1;by_cases h:par ps n=some k
 .rw[ak h,dE (by exact aV h)];rfl
 .rw[ao h,fE (by rw[bx h];decide)];rfl
def nk (ps:List Nat)(k n:Nat):(bR ps k n).length<=n:=by
 have:=eX (λj=>decide (par ps j=some k)) .(K);rw[d9]at this;exact this
def Dj (ps:List Nat)(k n:Nat):(bR ps k n).Pairwise .(Ca):=List.Pairwise.filter _ oj
def jq (T:aP ps){k:Nat}:∀ n j,j<=n->j<ps.length+1->(isB ps k j=true↔j=k\/∃ c,par ps c=some k/\isB ps c j=true)
 | n,j,hn,h=>by
  by_cases c:j=k
  .constructor
   .exact λ_=>.inl c
   .intro _;rw[c];exact iI
  .cases e:par ps j with
   | none=>
    have j0:=KJ h e;have no:∀ m,j≠m->isB ps m j=false:=λm hm=>by
     unfold isB;rw[sX T hm,e];rfl
    constructor
    .intro z;rw[no k c]at z;cases z
    .rintro (z|⟨d,hd,z⟩)
     .exact absurd z c
     .by_cases y:j=d
      .rw[<-y,e]at hd;cases hd
      .rw[no d y]at z;cases z
   | some p=>
    have hp:=(bj T e).1;cases n with
    | zero=>lia
    | succ n=>
     have ih:=jq T (k:=k) n p .(a) .(a);rw[gT T c e,ih];constructor
     .rintro (z|⟨d,hd,z⟩)
      .refine .inr #[j,?_,iI];rw[e,z]
      .by_cases y:j=d
       .rw[<-y]at z;rw[fP T hp]at z;cases z
       .exact .inr #[d,hd,by rw[gT T y e];exact z]
     .rintro (z|⟨d,hd,z⟩)
      .exact absurd z c
      .by_cases y:j=d
       .subst y;rw[e]at hd;exact .inl (aJ hd)
       .rw[gT T y e]at z;exact .inr #[d,hd,z]
def jY (T:aP ps){k c d:Nat}(hc:par ps c=some k)(hd:par ps d=some k)(hcd:c≠d):∀ n j,j<=n->isB ps c j=true->isB ps d j=true->False
 | n,j,hn,h1,h2=>by
  by_cases e1:j=c
  .subst e1;rw[gT T hcd hc,fP T (bj T hd).1]at h2;cases h2
  .by_cases e2:j=d
   .subst e2;rw[gT T e1 hd,fP T (bj T hc).1]at h1;cases h1
   .cases e:par ps j with
    | none=>
     unfold isB at h1;rw[sX T e1,e]at h1;cases h1
    | some p=>
     have hp:=(bj T e).1;rw[gT T e1 e]at h1;rw[gT T e2 e]at h2;cases n with
     | zero=>lia
     | succ n=>exact jY T hc hd hcd n p .(a) h1 h2
def KP (T:aP ps){k:Nat}(hk:k<ps.length+1):(k::(.(la).map λc=>benL ps c (ps.length+1)).flatten).Perm (benL ps k (ps.length+1)):=by
 have lt:∀{l:List Nat},l.Pairwise .(Ca)->l.Nodup:=λh=>List.Pairwise.imp (λ{a b} (q:a<b)=>bK q) h;refine (uD ?_ (lt (wD ps k _))).mpr λj=>?_
 .rw[dD];refine #[λh=>?_,?_]
  .obtain ⟨l,hl,hj⟩:=oq.mp h;obtain ⟨c,hc,rfl⟩:=cA.mp hl;have h1:=(da.mp hc).2;have h2:=(iJ.mp hj).2;rw[fP T (bj T h1).1]at h2;cases h2
  .show List.Pairwise _ _;rw[List.pairwise_flatten];refine #[λl hl=>?_,?_]
   .obtain ⟨c,hc,rfl⟩:=cA.mp hl;exact lt (wD ps c _)
   .rw[l7];refine List.Pairwise.imp_of_mem (λ{c d} hc hd hcd=>?_) (Dj ps k _);intro x hx y hy z;subst z;exact jY T (da.mp hc).2 (da.mp hd).2 (bK hcd) x x (aq _) (iJ.mp hx).2 (iJ.mp hy).2
 .rw[aU,oq,iJ];constructor
  .rintro (rfl|⟨l,hl,hj⟩)
   .exact #[hk,iI]
   .obtain ⟨c,hc,rfl⟩:=cA.mp hl;obtain ⟨h1,h2⟩:=iJ.mp hj;exact #[h1,(jq T j j (aq _) h1).mpr (.inr #[c,(da.mp hc).2,h2])]
  .rintro ⟨h1,h2⟩;rcases (jq T j j (aq _) h1).mp h2 with q|⟨c,hc,q⟩
   .exact .inl q
   .exact .inr #[_,cA.mpr #[c,da.mpr #[(bj T hc).2,hc],rfl],iJ.mpr #[h1,q]]
def KQ (t u:TS):TS:=λD U H=>∀ N:L2.St->Hp->Prop,(∀ U' H',u D U' H'->N U' H')->t { D with nx:=N } U H
def cQ {st:Stmt}{rest:List Stmt}{t:TS}(h1:PS X st t)(h2:PSs X rest u):PSs X (st::rest) (KQ t u):=λRf s U H D I h=>aB h1 h2 Rf s U H D I (h (u D) λ_ _ z=>z)
inductive Dk (t u:TS)(D:Ends)(U:L2.St)(H:Hp):Prop
 | c:∀(M:L2.St->Hp->Prop),(∀ N:L2.St->Hp->Prop,(∀ U' H',M U' H'->N U' H')->t { D with nx:=N } U H)->(∀ U' H',M U' H'->u D U' H')->Dk t u D U H
def wF {st:Stmt}{rest:List Stmt}{t:TS}(h1:PS X st t)(h2:PSs X rest u):PSs X (st::rest) (Dk t u):=λRf s U H D I h=>by
 obtain ⟨M,h3,h4⟩:=h;exact cx h1 h2 Rf s U H D I #[M,h3 M λ_ _ z=>z,h4]
def Dl {tb:TS}{D:Ends}{Pn:L2.St->Hp->Prop}{i:Nat}{x:V}{U:L2.St}{H:Hp}(h:∀(N B:L2.St->Hp->Prop) (R:VK),(∀ U H,Pn U H->N U H)->(∀ U H,D.nx U H->B U H)->(∀ v H,D.rt v H->R v H)->tb { nx:=N,rt:=R,bk:=B,ct:=N } (U.set i (some x)) H):jM i x U H λU2 H2=>tb { D with nx:=Pn,ct:=Pn,bk:=D.nx } U2 H2:=h Pn D.nx D.rt (λ_ _ z=>z) (λ_ _ z=>z) (λ_ _ z=>z)
def Dm {tb:TS}{D:Ends}{Pn:L2.St->Hp->Prop}{U:L2.St}{H:Hp}(h:∀(N B:L2.St->Hp->Prop) (R:VK),(∀ U H,Pn U H->N U H)->(∀ U H,D.nx U H->B U H)->(∀ v H,D.rt v H->R v H)->tb { nx:=N,rt:=R,bk:=B,ct:=N } U H):tb { D with nx:=Pn,ct:=Pn,bk:=D.nx } U H:=h Pn D.nx D.rt (λ_ _ z=>z) (λ_ _ z=>z) (λ_ _ z=>z)
seal PSs PS PE PT PW PA PI PG PO PX
section
variable {P:Program}{w:World}{K:Frag}{mg:Str->Option Value}{base:Heap}
def KR (T:Txt K mg)(yu:DF K mg "_law_mixed" qg rP):FC P w K mg base 1 "_law_mixed" rP ve:=by
 refine yu.ok vV .(c) .(b)
 .obtain ⟨c,k,rfl,_⟩:=h;rfl
 obtain ⟨c,k,rfl,q⟩:=h;refine #[_,(aB (aI (i:=2) vV.nd rfl (av rfl) (aC fW (aC dG (aC bY (aC bY (aC fW (pv 0) ah) (aC dG ah (pv 1))) ah) ah) ah))
   (aB (aI (i:=3) vV.nd rfl (av rfl) (aC fW (aC bY (aC bY (aC dG (pv 2) (pv 2)) (aC dG ah (pv 2))) (pv 1)) ah))
   (au (aK (aC my (aC fW (aC bY (aC bY (aC dG (pv 3) (pv 3)) (aC dG ah (pv 3))) (aC dG ah (pv 1))) ah) ah))))),?_]
 walk_at "rd"
 exact q _
def KS (T:Txt K mg)(yv:DF K mg "_law_begin" qe rO):FC P w K mg base 1 "_law_begin" rO (vf K):=by
 refine yv.ok JW .(c) .(b)
 .obtain ⟨L,ns,rfl,_⟩:=h;rfl
 obtain ⟨L,ns,rfl,hS,q⟩:=h;refine #[_,(au (aK (GP (u7 fG (pv 0) (u7 fG ah (u7 fG ah GN))) rfl rfl .(k) .(q)))),?_];intro p hp;refine #[_,rfl,ag,[(.inr "script",.ref L),(.inr "at",.int 0),(.inr "left",.int 0)],rfl,(by show 3<=15;decide),?_];have e:upd (upd H p (.dK [])) p (.dK (jb [] [(.inr "script",.ref L),(.inr "at",.int 0),(.inr "left",.int 0)]))=upd H p (du L 0 0):=by
  rw[Fi];have:jb [] [((.inr "script" : Key),V.ref L),(.inr "at",.int 0),(.inr "left",.int 0)]=[(.inr "script",.ref L),(.inr "at",.int 0),(.inr "left",.int 0)]:=by
   have a1:putK [] (.inr "script" : Key) (V.ref L)=[(.inr "script",.ref L)]:=kO (kvs:=[]) _ rfl;have a2:putK [((.inr "script" : Key),V.ref L)] (.inr "at") (.int 0)=[(.inr "script",.ref L),(.inr "at",.int 0)]:=by
    rw[kO _ (by rw[fL (gN (show ("script" : Str) ≠ "at" by decide +kernel))];rfl)];rfl
   have a3:putK [((.inr "script" : Key),V.ref L),(.inr "at",.int 0)] (.inr "left") (.int 0)=[(.inr "script",.ref L),(.inr "at",.int 0),(.inr "left",.int 0)]:=by
    rw[kO _ (by rw[fL (gN (show ("script" : Str) ≠ "left" by decide +kernel)),fL (gN (show ("at" : Str) ≠ "left" by decide +kernel))];rfl)];rfl
   unfold jb;simp only[List.foldl_cons,List.foldl_nil];rw[a1,a2,a3]
  rw[this];rfl
 rw[e];exact q p _ hp (az hp _) #[ns,0,0,ag,(az hp _).seq hS]
def KU (T:Txt K mg)(yw:DF K mg "_law_take" qh gA)(OW:FC P w K mg base 1 "_law_mixed" rP ve):FC P w K mg base 2 "_law_take" gA (gO K):=by
 refine yw.ok ly .(c) .(b)
 .obtain ⟨d,L,m,rfl,_⟩:=h;rfl
 obtain ⟨d,L,m,rfl,⟨hm,hm'⟩,⟨ns,a,l,hd,hS⟩,q⟩:=h;refine #[_,(aB (aI (i:=2) ly.nd rfl (av rfl) (ja (dN hr) (pv 0) fG (λ_ _=>rfl)))
   (aB (aI (i:=3) ly.nd rfl (av rfl) (ja (dN hr) (pv 0) fG (λ_ _=>rfl)))
   (cx (bq (aW dH (ja (dN hr) (pv 0) fG (λ_ _=>rfl)) ah (bf _)) (aB (jO (dN hr) (pv 0) fG (aC bY (pv 2) ah) rfl)
   (aB (aI (i:=4) ly.nd rfl (av rfl) ah)
   (cx (bq (aW ix (aN (bF (K:=K)) rfl T.bD bz (aa (pv 3) ae)) ah (bf _)) (au (aI (i:=4) ly.nd rfl (av rfl) (aH (bg (K:=K)) (pv 3) (aC fW (pv 2) (aN (bF (K:=K)) rfl T.bD bz (aa (pv 3) ae))) (λ_ _=>rfl)))) bE)
   (cx (bq (PW.pt (jL (aW uM (pv 2) (aN (bF (K:=K)) rfl T.bD bz (aa (pv 3) ae)) (bf _)) (mq (aW fH (aN uO rfl T.yn boot_abs (aa (pv 4) ae)) (aC i0 ah ah) (bf _))))) (au (aK (aC fW (aG OW hr (aa (pv 4) (aa (pv 2) ae))) (pv 1)))) bE)
   (au (jO (dN hr) (pv 0) fG (aN uO rfl T.yn boot_abs (aa (pv 4) ae)) rfl)))))) bE)
   (aB (aI (i:=5) ly.nd rfl (av rfl) (aC fW (ja (dN hr) (pv 0) fG (λ_ _=>rfl)) (pv 1)))
   (aB (jO (dN hr) (pv 0) fG (aC my (ja (dN hr) (pv 0) fG (λ_ _=>rfl)) (pv 1)) rfl)
   (au (aK (pv 5)))))))),?_]
 refine #[_,rfl,_,_,rfl,G9 hd,_,rfl,_,_,rfl,G8 hd,?_];refine #[λU' H'=>∃(x2 x3 x4 x5:Option V) (a' l':Int),U'=[some (.ref d),some (.int m),x2,x3,x4,x5]/\H' d=some (du L a' l')/\Keep d H H',?_,?_]
 .refine #[_,rfl,_,_,rfl,vd hd,rfl,_,rfl,?_];refine ite2 .(fa) .(fa)
  .refine #[_,rfl,_,_,rfl,rfl,_,rfl,_,_,rfl,Hc hd,?_];have hd1:upd H d (du L (a+1) l) d=some (du L (a+1) l):=ag;obtain ⟨-,k1⟩:=LS.set (a':=a+1) (l':=l) hd hS;have hS1:=oY hd k1 hS;generalize upd H d (du L (a+1) l)=H1 at hd1 k1 hS1 ⊢;refine #[λU' H'=>∃ c:Int,U'=[some (.ref d),some (.int m),some (.int a),some (.ref L),some (.int c),none]/\H1=H',?_,?_]
   .refine #[_,rfl,_,_,rfl,.inl hS1,_,_,rfl,rfl,_,rfl,?_];refine ite2 .(t) .(t)
    .have c':(0:Int)<((.(H).length:Nat):Int):=bO c;obtain ⟨v,hv⟩:=Hd (ns:=ns) (k:=a) (by rw[ai]at c';lia);refine #[_,rfl,_,rfl,_,rfl,_,_,rfl,.inl hS1,_,_,rfl,rfl,c',_,_,_,_,rfl,rfl,hS1,hv,?_];exact #[v,rfl,rfl]
    .exact #[0,rfl,rfl]
   rintro U' H' ⟨c,rfl,rfl⟩;refine #[λU' H'=>U'=[some (.ref d),some (.int m),some (.int a),some (.ref L),some (.int c),none]/\H1=H',?_,?_]
   .refine #[_,rfl,_,rfl,_,_,rfl,.inl hS1,_,_,rfl,rfl,_,rfl,?_];refine ite2 .(fa) .(fa)
    .refine iteT ?_;refine #[_,rfl,_,rfl,c,a,rfl,λv=>#[_,rfl,_,_,rfl,rfl,hm,?_]];exact q _ _ (n8 _ .(a)) (n9 _ hm) k1 #[ns,a+1,l,hd1,hS1]
    .refine #[_,rfl,_,rfl,_,_,rfl,rfl,#[by decide,by decide,by decide],_,_,rfl,rfl,_,rfl,?_];refine ite2 .(fa) .(fa)
     .refine #[_,rfl,_,rfl,c,a,rfl,λv=>#[_,rfl,_,_,rfl,rfl,hm,?_]];exact q _ _ (n8 _ .(a)) (n9 _ hm) k1 #[ns,a+1,l,hd1,hS1]
     .exact .(pa)
   rintro U' H' ⟨rfl,rfl⟩;refine #[_,rfl,_,rfl,_,rfl,_,_,rfl,Bf hd1,?_];obtain ⟨-,k2⟩:=LS.set (a':=a+1) (l':=if c<0 then -c else c) hd1 hS1
   exact #[_,_,_,_,_,_,rfl,ag,k1.trans k2]
  .exact #[_,_,_,_,a,l,rfl,hd,Keep.refl _ _]
 rintro U' H' ⟨x2,x3,x4,x5,a',l',rfl,hd',k'⟩;have hS':=oY hd k' hS;refine #[_,rfl,_,_,rfl,vd hd',_,rfl,_,_,rfl,rfl,hm,?_];refine #[_,rfl,_,_,rfl,vd hd',_,rfl,_,_,rfl,rfl,#[hm,hm'],_,rfl,_,_,rfl,Bf hd',?_];obtain ⟨s1,k1⟩:=LS.set (a':=a') (l':=l'/m) hd' hS';refine .(A);exact q _ _ (n8 _ .(a)) (n9 _ hm) (k'.trans k1) s1
inductive wG (vs:List V)(H:Hp)(Q:VK)(w_1:XK):Prop
 | c:∀(a b:Nat),vs=[.int a,.int b]->a≠b->Q (.int (lu a b:Nat)) H->wG vs H Q w_1
def KW (T:Txt K mg)(yx:DF K mg "lowest_unlike" pG qW):FC P w K mg base 1 "lowest_unlike" qW wG:=by
 refine yx.ok Cp .(c) .(b)
 .obtain ⟨a,b,rfl,_⟩:=h;rfl
 obtain ⟨a,b,rfl,hab,q⟩:=h;refine #[_,(aB (aI (i:=2) Cp.nd rfl (av rfl) (aC FG (pv 0) (pv 1)))
   (au (aK (aC c6 (AU F.plainAttrs_int F.slot_int_bit_length F.type_int_bit_length G7 (aC Ag (pv 2) (fe ff (pv 2)))) ah)))),?_]
 refine #[_,rfl,_,rfl,_,_,rfl,rfl,_,rfl,_,rfl,_,rfl,_,_,rfl,rfl,rfl,_,rfl,rfl,_,_,rfl,rfl,?_];rw[<-Ko a b hab]at q;exact q
inductive nq (K:Frag)(vs:List V)(H:Hp)(Q:VK)(w_1:XK):Prop
 | c:∀(d L:Addr),vs=[.ref d]->LS K L d H->(∀(v:Int) (H':Hp),-(10^60)<v->v<10^60->Keep d H H'->LS K L d H'->Q (.int v) H')->nq K vs H Q w_1
def KY {x m:Int}(h1:-999<=x)(h2:x<=999)(h3:0<m)(h4:m<=10^57):-(10^60)<x*m/\x*m<10^60:=by
 have a:=Int.mul_le_mul_of_nonneg_right h2 (Int.le_of_lt h3);have b:=Int.mul_le_mul_of_nonneg_right h1 (Int.le_of_lt h3);lia
def KZ (T:Txt K mg)(yy:DF K mg "_law_key" qi lD)(bV:FC P w K mg base 2 "_law_take" gA (gO K)):FC P w K mg base 3 "_law_key" lD (nq K):=by
 refine yy.ok Cv .(c) .(b)
 .obtain ⟨d,L,rfl,_⟩:=h;rfl
 obtain ⟨d,L,rfl,hs,q⟩:=h;refine #[_,(aB (aI (i:=1) Cv.nd rfl (av rfl) (aG bV hr (aa (pv 0) (aa ah ae))))
   (cx (bq (aW fH (pv 1) ah (bf _)) (au (aK (aG bV hr (aa (pv 0) (aa ah ae))))) bE)
   (cx (bq (aW fH (pv 1) ah (bf _)) (au (aK (aC c6 (aG bV hr (aa (pv 0) (aa ah ae))) ah))) bE)
   (cx (bq (aW dH (pv 1) ah (bf _)) (au (aK (aC dG (aC c6 (aG bV hr (aa (pv 0) (aa ah ae))) ah) (aH (bg (K:=K)) (bN (aa ah (aa (aC i0 ah ah) (aa (aC i0 ah ah) (aa (aC i0 ah ah) ae))))) (aG bV hr (aa (pv 0) (aa ah ae))) (λ_ _=>rfl))))) bE)
   (au (aK (aC dG (aH (bg (K:=K)) (bN (aa ah (aa (fe ff ah) ae))) (aG bV hr (aa (pv 0) (aa ah ae))) (λ_ _=>rfl)) (aC c6 (aC c6 (aC i0 ah ah) ah) (aG bV hr (aa (pv 0) (aa ah ae))))))))))),?_]
 refine #[_,rfl,d,L,8,rfl,by decide,hs,λw1 H1 w0 w8 k1 s1=>?_];have nd:∀{H':Hp} {p:Addr},LS K L d H'->H' p=none->p≠d:=λs hp z=>by
  obtain ⟨_,_,_,e,_⟩:=s.ex;rw[<-z,hp]at e;cases e
 refine #[λU' H'=>U'=[some (.ref d),some (.int w1)]/\H1=H',?_,?_]
 .refine #[_,rfl,_,_,rfl,rfl,_,rfl,?_];refine ite2 .(t) .(t)
  .refine #[_,rfl,d,L,10,rfl,by decide,s1,λu H2 u0 u1 k2 s2=>?_];exact q u H2 .(a) .(a) (k1.trans k2) s2
  .exact .(pa)
 rintro U' H' ⟨rfl,rfl⟩;refine #[λU' H'=>U'=[some (.ref d),some (.int w1)]/\H1=H',?_,?_]
 .refine #[_,rfl,_,_,rfl,rfl,_,rfl,?_];refine ite2 .(t) .(t)
  .refine #[_,rfl,d,L,60,rfl,by decide,s1,λu H2 u0 u1 k2 s2=>#[_,_,rfl,rfl,?_]];exact q (u-30) H2 .(a) .(a) (k1.trans k2) s2
  .exact .(pa)
 rintro U' H' ⟨rfl,rfl⟩;refine #[λU' H'=>U'=[some (.ref d),some (.int w1)]/\H1=H',?_,?_]
 .refine #[_,rfl,rfl,_,rfl,?_];refine ite2 .(t) .(t)
  .refine #[_,rfl,d,L,1999,rfl,by decide,s1,λu H2 u0 u1 k2 s2=>#[_,_,rfl,rfl,?_]];refine #[_,_,rfl,rfl,#[by decide,by decide,by decide],_,_,rfl,rfl,#[by decide,by decide,by decide],_,_,rfl,rfl,#[by decide,by decide,by decide],(by show 4<=sizeLine;decide),λp hp=>?_];refine #[_,rfl,d,L,4,rfl,by decide,s2.of_new hp _,λb H3 b0 b1 k3 s3=>?_];obtain ⟨m,hat,m0,m1⟩:∃ m:Int,atI [V.int 1,V.int (10^(19:Int).toNat),V.int (10^(38:Int).toNat),V.int (10^(57:Int).toNat)] b=some (.int m)/\0<m/\m<=10^57:=by
    have z:b=0\/b=1\/b=2\/b=3:=by lia
    rcases z with rfl|rfl|rfl|rfl
    .exact #[_,rfl,by decide +kernel,by decide +kernel]
    .exact #[_,rfl,by decide +kernel,by decide +kernel]
    .exact #[_,rfl,by decide +kernel,by decide +kernel]
    .exact #[_,rfl,by decide +kernel,by decide +kernel]
   refine #[_,_,_,_,rfl,rfl,SqL.of (k3 p _ (nd s2 hp) ag),hat,_,_,rfl,rfl,.inl .(ka),?_];obtain ⟨f1,f2⟩:=KY (x:=u-999) (m:=m) .(a) .(a) m0 m1;exact q _ H3 f1 f2 ((k1.trans k2).trans ((az hp _).keep.trans k3)) s3
  .exact .(pa)
 rintro U' H' ⟨rfl,rfl⟩;refine #[_,rfl,.(l),λp hp=>?_];refine #[_,rfl,d,L,2,rfl,by decide,s1.of_new hp _,λb H2 b0 b1 k2 s2=>?_];obtain ⟨m,hat,hm⟩:∃ m:Int,atI [V.int 1,V.int (-1)] b=some (.int m)/\(m=1\/m = -1):=by
  have z:b=0\/b=1:=by lia
  rcases z with rfl|rfl
  .exact #[_,rfl,.inl rfl]
  .exact #[_,rfl,.inr rfl]
 refine #[_,_,_,_,rfl,rfl,SqL.of (k2 p _ (nd s1 hp) ag),hat,_,_,rfl,rfl,#[by decide,by decide,by decide],_,_,rfl,rfl,_,rfl,d,L,3,rfl,by decide,s2,λu H3 u0 u1 k3 s3=>#[_,_,rfl,rfl,_,_,rfl,rfl,.inl .(ka),?_]];have e60:(10:Int)^(60:Int).toNat=10^60:=rfl;rw[e60];have kk:=k1.trans ((az hp _).keep.trans (k2.trans k3));rcases hm with rfl|rfl
 .exact q _ H3 .(a) .(a) kk s3
 .exact q _ H3 .(a) .(a) kk s3
def Rise (es:List (Int×Int)):Prop:=es.Pairwise λa b=>pLt a b=true
def dZ (k:Int)(e:Int×Int):Prop:=-(10^60)<e.1/\e.1<10^60/\0<=e.2/\e.2<k
def K0 {κ:Type}[DecidableEq κ](kvs:List (κ×V))(k:κ)(v:V):(putK kvs k v).map (·.1)=if (kvs.any λkv=>decide (kv.1=k))=true then kvs.map (·.1) else kvs.map (·.1)++[k]:=by
 unfold putK;split
 .rw[ig];apply ou;intro a ha;show (if a.1=k then (a.1,v) else a).1=a.1
  split<;>rfl
 .rw[bw];rfl
def gU (e:Int×Int):Int:=64*(if 0<=e.1 then 2*e.1 else -2*e.1-1)+e.2
def gV (e:Int×Int):Nat:=(gU e).toNat
def nr {e:Int×Int}(h:dZ 64 e):((gV e:Nat):Int)=gU e:=by
 obtain ⟨h1,h2,h3,h4⟩:=h;unfold gV gU;split<;>lia
def K1 {e:Int×Int}(h:dZ 64 e):gV e<2^207:=by
 have z:=nr h;obtain ⟨h1,h2,h3,h4⟩:=h;unfold gU at z;split at z<;>lia
def K2 {e f:Int×Int}(h:dZ 64 e)(g:dZ 64 f)(z:gV e=gV f):e=f:=by
 have z1:=nr h;have z2:=nr g;obtain ⟨h1,h2,h3,h4⟩:=h;obtain ⟨g1,g2,g3,g4⟩:=g;obtain ⟨a,b⟩:=e;obtain ⟨c,d⟩:=f;rw[z,z2]at z1;unfold gU at z1;dsimp only at *;have:a=c/\b=d:=by
  split at z1<;>split at z1<;>lia
 rw[this.1,this.2]
inductive nu (K:Frag)(vs:List V)(H:Hp)(Q:VK)(w_1:XK):Prop
 | c:∀(v:V) (e:Int×Int),vs=[v]->Rep.has K H e v->Q (.int (gU e)) H->nu K vs H Q w_1
def K4 (T:Txt K mg)(yz:DF K mg "code" pD qV):FC P w K mg base 1 "code" qV (nu K):=by
 refine yz.ok vP .(c) .(b)
 .obtain ⟨v,e,rfl,_⟩:=h;rfl
 obtain ⟨v,e,rfl,he,q⟩:=h;obtain ⟨p,x1,x2,rfl,hT,e1,e2⟩:=(show hasP K H e v from he);have hT:=SqT.of (K:=K) hT;have e1:x1=.int e.1:=e1;have e2:x2=.int e.2:=e2;subst e1 e2;refine #[_,(aB (aI (i:=1) vP.nd rfl (av rfl) (aH (bA (K:=K)) (pv 0) ah (λ_ _=>rfl)))
   (aB (aI (i:=2) vP.nd rfl (av rfl) (zZ (aW uM (pv 1) ah (bf _)) (aC dG ah (pv 1)) (aC c6 (aC dG (fe ff ah) (pv 1)) ah)))
   (au (aK (aC bY (aC dG (kY rfl T.Os) (pv 2)) (aH (bA (K:=K)) (pv 0) ah (λ_ _=>rfl))))))),?_]
 refine #[_,rfl,_,_,_,_,rfl,rfl,hT,rfl,?_];refine #[_,rfl,_,_,rfl,rfl,_,rfl,?_];refine ite2 .(t) .(t)
 .have c':0<=e.1:=bO c;refine #[_,rfl,_,_,rfl,rfl,.inl .(Y),?_];refine #[_,rfl,_,_,rfl,rfl,.inl .(Y),_,rfl,_,_,_,_,rfl,rfl,hT,rfl,_,_,rfl,rfl,?_];unfold gU at q;rw[ak c']at q;exact q
 .have c':¬ 0<=e.1:=kI (iS.mpr c);refine #[_,rfl,_,rfl,_,_,rfl,rfl,.inl .(Y),_,_,rfl,rfl,?_];refine #[_,rfl,_,_,rfl,rfl,.inl .(Y),_,rfl,_,_,_,_,rfl,rfl,hT,rfl,_,_,rfl,rfl,?_];unfold gU at q;rw[ao c']at q;exact q
abbrev nV (n:Nat):V:=.int (n:Int)
def wH {v:Int}(h:0<=v):∃ n:Nat,v=(n:Int):=#[v.toNat,by lia]
def gW {xs:List Nat}{i:Nat}(h:i<xs.length):atI .(Q) (i:Int)=some (nV (xs.getD i 0)):=
 c8 (by rw[aZ,aA h,aF,aA h];rfl)
def Dn {xs:List Nat}{i:Nat}(h0:i≠0)(h:i<xs.length):atI .(Q) ((i:Int)-1)=some (nV (xs.getD (i-1) 0)):=by
 have e:(i:Int)-1=((i-1:Nat):Int):=by lia
 rw[e];exact gW .(a)
def lJ {xs:List Nat}{i:Nat}{x:V}(h: .(Q)[i]?=some x):i<xs.length/\x=nV (xs.getD i 0):=by
 rw[aZ]at h;cases e:xs[i]? with
 | none=>rw[e]at h;cases h
 | some y=>
  rw[e]at h;refine #[(aT.mp e).1,?_];rw[aF,e];exact (aJ h).symm
def K5 (n:Nat):Builtin.bitAnd (n:Int) 1=((n%2:Nat):Int):=by
 unfold Builtin.bitAnd;rw[aV (jA n),aV (by decide:(0:Int)<=1)];show ((n &&& 1:Nat):Int)=_;rw[Nat.and_one_is_mod]
def K6 (a b:Nat):2*((lu a b:Nat):Int)+Builtin.bitAnd ((b:Int)/2^((lu a b:Nat):Int).toNat) 1=((fig a b:Nat):Int):=by
 have e:(b:Int)/2^((lu a b:Nat):Int).toNat=((b/2^lu a b:Nat):Int):=by
  rw[fU,Int.natCast_ediv,Int.natCast_pow];rfl
 rw[e,K5];unfold fig;lia
def K7 {K:Frag}{xs:List Nat}:aD K H (xs.map λn:Nat=>(n:Int)) .(Q):=by
 have e:xs.map nV=(xs.map λn:Nat=>(n:Int)).map V.int:=by rw[ig];rfl
 rw[e];exact aD.ints
def But (p:Addr)(H H':Hp):Prop:=∀ b o,b≠p->H b=some o->H' b=some o
def But.sq {K:Frag}{p:Addr}{a:Addr}(k:But p H H')(h:SqL K H a xs)(n:H p=none):SqL K H' a xs:=by
 rcases h with (h|⟨o,h⟩)|h
 .exact .inl (.inl (k _ _ (aw h n) h))
 .exact .inl (.inr #[o,k _ _ (aw h n) h])
 .exact .inr h
def wI (xs:List Nat): .(Q).all fK=true:=by
 rw[eW];intro x hx;obtain ⟨n,_,rfl⟩:=cA.mp hx;rfl
def wJ (n:Nat)(xs:List Nat):inV (.int (n:Int)) .(Q)=decide (n∈xs):=by
 unfold inV
 induction xs with
 | nil=>rfl
 | cons x xs ih=>
  rw[bL,hZ,ih];show ((x:Int)==(n:Int)||decide (n∈xs))=decide (n∈x::xs);by_cases h:x=n
  .subst h;simp
  .have:((x:Int)==(n:Int))=false:=by
    rw[beq_eq_false_iff_ne];lia
   rw[this,Bool.false_or];have e:(n∈x::xs)=(n∈xs):=propext (by simp[bt h]);simp[bt h]
inductive nv (K:Frag)(vs:List V)(H:Hp)(Q:VK)(w_1:XK):Prop
 | c:∀(a:Addr) (xs:List Nat),vs=[.ref a]->SqL K H a (xs.map nV)->Unl xs->xs.length<=1000->(∀(p:Addr) (H':Hp),H p=none->Same H H'->H' p=some (.lst ((cP xs).map nV))->Q (.ref p) H')->nv K vs H Q w_1
def K8 (T:Txt K mg)(yA:DF K mg "turned" pH qX)(OX:FC P w K mg base 1 "lowest_unlike" qW wG):FC P w K mg base 2 "turned" qX (nv K):=by
 refine yA.ok mL .(c) .(b)
 .obtain ⟨a,xs,rfl,_⟩:=h;rfl
 obtain ⟨a,xs,rfl,hS,hu,hz,q⟩:=h;refine #[_,(aB (aI (i:=1) mL.nd rfl (av rfl) (bN ae))
   (aB (bU PassesOwn.never rfl (vi rfl T.yp (aa (pv 0) ae)) (iY rfl (dF (aO (i:=2) mL.nd rfl (av rfl)) (dF (aO (i:=3) mL.nd rfl (av rfl)) iX))) (au (bq (aW dH (pv 2) ah (bf _)) (au (cM (dJ F.plainAttrs_list F.slot_list_append F.type_list_append dM (pv 1) (aa (aC fW (pv 3) ah) ae)))) (aB (aI (i:=4) mL.nd rfl (av rfl) (aG OX hr (aa (aH (bg (K:=K)) (pv 0) (aC c6 (pv 2) ah) (λ_ _=>rfl)) (aa (pv 3) ae))))
   (au (cM (dJ F.plainAttrs_list F.slot_list_append F.type_list_append dM (pv 1) (aa (aC bY (aC dG ah (pv 4)) (aC Ag (aC FE (pv 3) (pv 4)) ah)) ae))))))))
   (au (aK (pv 1))))),?_]
 refine #[.(B),λp hp=>?_];have k0:But p H (upd H p .(V)):=λb o n e=>by rw[aj n];exact e
 refine #[_,rfl,a,rfl,#[_,k0.sq hS hp],?_];refine vj (xs:=xs.map nV) (λi U H2=>∃ x2 x3 x4:Option V,U=[some (.ref a),some (.ref p),x2,x3,x4]/\H2 p=some (.lst (((cP xs).take i).map nV))/\But p H H2) ?_ ?_ ?_ ?_
 .exact #[_,_,_,rfl,ag,k0]
 .rintro i U H2 _ ⟨x2,x3,x4,rfl,_,k2⟩;exact k2.sq hS hp
 .rintro i x U H2 r hx ⟨x2,x3,x4,rfl,h2,k2⟩ hr;obtain ⟨hi,rfl⟩:=lJ hx;have hS2:=k2.sq hS hp;have np:p≠r:=aw h2 hr;have h3:upd H2 r (.tup [.int i,nV (xs.getD i 0)]) p=some (.lst (((cP xs).take i).map nV)):=by rw[aj np];exact h2
  have k3:But p H (upd H2 r (.tup [.int i,nV (xs.getD i 0)])):=λb o n e=>(az hr _) b o (k2 b o n e);have hS3:=k3.sq hS hp;have hlen:(((cP xs).take i).map nV).length<sizeLine:=bh (by rw[ai,bu,jl];lia);refine #[r,_,rfl,SqT.of ag,rfl,_,_,rfl,_,_,rfl,rfl,?_];generalize upd H2 r (.tup [.int i,nV (xs.getD i 0)])=H3 at h3 k3 hS3 ⊢;have fin:∀ v:V,v=nV (fO xs i)->∃ y2 y3 y4:Option V,[some (V.ref a),some (V.ref p),y2,y3,y4]=[some (V.ref a),some (V.ref p),y2,y3,y4]/\upd H3 p (.lst (((cP xs).take i).map nV++[v])) p=some (.lst (((cP xs).take (i+1)).map nV))/\But p H (upd H3 p (.lst (((cP xs).take i).map nV++[v]))):=by
   rintro v rfl;refine #[none,none,none,rfl,?_,λb o n e=>by rw[aj n];exact k3 b o n e];rw[ag,CF hi,bw];rfl
  refine #[_,rfl,rfl,_,rfl,?_];refine ite2 .(t) .(t)
  .have c':i=0:=by
    have:=V.int.inj (bO c);lia
   refine #[_,rfl,.inl #[rfl,_,SqL.of h3],_,rfl,_,_,rfl,rfl,(by show (0:Int) < 2;decide),_,_,_,rfl,rfl,h3,hlen,?_];obtain ⟨_,_,_,_,g2,g3⟩:=fin (.int (((xs.getD i 0:Nat):Int) % 2)) (by
    unfold fO;rw[ak c',c'];show V.int _=V.int _;rw[Int.natCast_emod];rfl)
   exact #[_,_,_,rfl,g2,g3]
  .have c':i≠0:=λz=>c (by subst z;decide);have hne:xs.getD (i-1) 0≠xs.getD i 0:=by
    have:=hu (i-1) .(a);rw[show i-1+1=i by lia]at this;exact this
   refine #[_,rfl,_,rfl,_,_,rfl,rfl,_,_,_,_,rfl,rfl,hS3,Dn c' hi,_,rfl,_,_,rfl,hne,?_];refine #[_,rfl,.inl #[rfl,_,SqL.of h3],_,rfl,_,_,rfl,rfl,.inl #[by decide,by decide],_,rfl,_,rfl,_,_,rfl,rfl,jA _,_,_,rfl,rfl,_,_,rfl,rfl,_,_,_,rfl,rfl,h3,hlen,?_];obtain ⟨_,_,_,_,g2,g3⟩:=fin (.int (2 * ((lu (xs.getD (i - 1) 0) (xs.getD i 0):Nat):Int)+Builtin.bitAnd (((xs.getD i 0:Nat):Int) / 2 ^ ((lu (xs.getD (i - 1) 0) (xs.getD i 0):Nat):Int).toNat) 1)) (by
    unfold fO;rw[ao c',K6])
   exact #[_,_,_,rfl,g2,g3]
 .rintro U H2 ⟨x2,x3,x4,rfl,h2,k2⟩;refine .(A);refine q p H2 hp (λb o e=>k2 b o (aw e hp) e) ?_;rw[h2,bG (by rw[jl,ai];exact aq _)]
def cR:Nat->List Nat->List Nat
 | 0,xs=>xs
 | n+1,xs=>cP (cR n xs)
def jZ (n:Nat)(xs:List Nat):(cR n xs).length=xs.length:=by
 induction n with
 | zero=>rfl
 | succ n ih=>rw[cR,jl,ih]
def j3 (h:Unl xs)(n:Nat):Unl (cR n xs):=by
 induction n with
 | zero=>exact h
 | succ n ih=>exact Kl ih
def sZ {k:Nat}(h:dz m xs)(hk:m<=k):dz k xs:=λi hi=>cn (h i hi) hk
def K9 (h:Unl xs)(hb:dz (2^207) xs):dz 414 (cR 1 xs):=nc (k:=207) .(q) h hb
def La (h:Unl xs)(hb:dz (2^207) xs):dz 18 (cR 2 xs):=nc (k:=9) .(q) (j3 h 1) (sZ (K9 h hb) .(q))
def Lb (h:Unl xs)(hb:dz (2^207) xs):dz 10 (cR 3 xs):=nc (k:=5) .(q) (j3 h 2) (sZ (La h hb) .(q))
def Lc (h:Unl xs)(hb:dz (2^207) xs):dz 8 (cR 4 xs):=nc (k:=4) .(q) (j3 h 3) (sZ (Lb h hb) .(q))
def Ld (h:Unl xs)(hb:dz (2^207) xs):dz 6 (cR 5 xs):=nc (k:=3) .(q) (j3 h 4) (sZ (Lc h hb) .(q))
def cF (es:List (Int×Int)):List Nat:=es.map gV
def fq (es:List (Int×Int)):(cF es).length=es.length:=ai _
def wK {es:List (Int×Int)}{i:Nat}(h:i<es.length):(cF es).getD i 0=gV es[i]:=by
 unfold cF;rw[aF,aZ,aA h];rfl
def Le {es:List (Int×Int)}(h:∀ e∈es,dZ 64 e):dz (2^207) (cF es):=λi hi=>by
 rw[fq]at hi;rw[wK hi];exact K1 (h _ (cC hi))
def tj {es:List (Int×Int)}(h:∀ e∈es,dZ 64 e)(hr:Rise es):Unl (cF es):=λi hi=>by
 rw[fq]at hi;rw[wK .(a),wK hi];intro z;have e:=K2 (h _ (cC .(a))) (h _ (cC hi)) z;have:=dU.mp hr i (i+1) .(a) hi .(a);rw[e]at this;have q:=fZ.mp this;lia
def Do {es:List (Int×Int)}{i:Nat}(h:i<es.length):(cF es).take (i+1)=(cF es).take i++[gV es[i]]:=by
 have h':i<(cF es).length:=by rw[fq];exact h
 have z:(cF es)[i]'h'=gV es[i]:=List.getElem_map gV;rw[cG h',z]
inductive wL (K:Frag)(vs:List V)(H:Hp)(Q:VK)(w_1:XK):Prop
 | c:∀(a:Addr) (ws:List V) (es:List (Int×Int)),vs=[.ref a]->SqL K H a ws->aD K H es ws->es.length<=1000->(∀ e∈es,dZ 64 e)->Rise es->(∀(p:Addr) (H':Hp),H p=none->Same H H'->H' p=some (.lst ((cR 5 (cF es)).map nV))->Q (.ref p) H')->wL K vs H Q w_1
def Dp {K:Frag}{H0:Hp}{D:Addr}{es:List (Int×Int)}{ws:List V}{i:Nat}{x:V}(hD:H0 D=none)(hw:aD K H0 es ws)(hx:ws[i]?=some x)(k:But D H0 H2):∃ h:i<es.length,Rep.has K H2 es[i] x:=by
 obtain ⟨e,h1,h2⟩:=hw.get hx;have hi:=(aT.mp h1).1;refine #[hi,?_];have z:es[i]=e:=(aT.mp h1).2;rw[z];obtain ⟨a,x1,x2,rfl,q,e1,e2⟩:=(show hasP K H0 e x from h2);exact #[a,x1,x2,rfl,k _ _ (aw q hD) q,e1,e2]
def Lf (T:Txt K mg)(yB:DF K mg "labels" pI qY)(OY:FC P w K mg base 1 "code" qV (nu K))(OZ:FC P w K mg base 2 "turned" qX (nv K)):FC P w K mg base 3 "labels" qY (wL K):=by
 refine yB.ok qM .(c) .(b)
 .obtain ⟨a,ws,es,rfl,_⟩:=h;rfl
 obtain ⟨a,ws,es,rfl,hS,hw,hz,he,hri,q⟩:=h;have hlen:=hw.length;refine #[_,(aB (jd (i:=1) (N:=["entry"]) (own:=1) (cap:=[]) qM.nd rfl rfl rfl (dW (pv 0)) #[rfl,rfl,rfl,rfl,rfl,rfl] (λ_ _ _ _ _=>(aO (i:=0) (show List.Nodup (["entry"]:List Str) by decide +kernel) rfl (av rfl))) (λ_ _ _ _ _=>fY) (λ_ _ _ _ _=>(aG OY hr (aa (pv 0) ae))))
   (aB (bU PassesOwn.never rfl (fb rfl T.de (aa (kY rfl T.Ot) ae)) (aO (i:=2) qM.nd rfl (av rfl)) (au (aI (i:=1) qM.nd rfl (av rfl) (aG OZ hr (aa (pv 1) ae)))))
   (au (aK (pv 1))))),?_]
 refine #[_,rfl,a,rfl,#[_,hS],λD hD=>?_];have k0:But D H (upd H D .(V)):=λb o n e=>by rw[aj n];exact e
 refine iC (xs:=ws) (λi U H2=>∃ x0:Option V,U=[x0]/\H2 D=some (.lst (((cF es).take i).map nV))/\But D H H2) ?_ ?_ ?_ ?_
 .exact #[_,rfl,ag,k0]
 .rintro i U H2 _ ⟨x0,rfl,_,k2⟩;exact k2.sq hS hD
 .rintro i m x U H2 hx hm ⟨x0,rfl,h2,k2⟩;obtain ⟨hi,hhas⟩:=Dp hD hw hx k2;refine fN ?_;refine #[_,rfl,x,es[i],rfl,hhas,?_];refine #[_,h2,bh (by rw[ai,bu,fq];lia),m-1,by lia,by lia,_,rfl,?_,λb o n e=>by rw[aj n];exact k2 b o n e];rw[ag,Do hi,bw,<-nr (he _ (cC hi))];rfl
 .rintro U H2 ⟨x0,rfl,h2,k2⟩;have e0:H2 D=some (.lst ((cF es).map nV)):=by
   rw[h2,bG (by rw[fq];lia)]
  have same0:Same H H2:=λb o e=>k2 b o (aw e hD) e;refine #[5,rfl,by decide,by decide,?_];refine fc (n:=5) (λi U H3=>∃(p:Addr) (x2 x3:Option V),U=[some (.ref a),some (.ref p),x2]/\H p=none/\Same H H3/\H3 p=some (.lst ((cR i (cF es)).map nV))) ?_ ?_ ?_
  .exact #[D,_,none,rfl,hD,same0,e0]
  .rintro i U H3 hi ⟨p,x2,x3,rfl,hp,s3,h3⟩;refine #[_,rfl,p,_,rfl,SqL.of h3,j3 (tj he hri) i,by rw[jZ,fq];exact hz,λp4 H4 hp4 s4 h4=>?_];exact #[p4,_,none,rfl,s3.free hp4,s3.trans s4,h4]
  .rintro U H3 ⟨p,x2,x3,rfl,hp,s3,h3⟩;refine .(A);exact q p H3 hp s3 h3
def Lg (T:Txt K mg)(yC:DF K mg "_law_code" qt rW):FC P w K mg base 1 "_law_code" rW (nu K):=by
 refine yC.ok vX .(c) .(b)
 .obtain ⟨v,e,rfl,_⟩:=h;rfl
 obtain ⟨v,e,rfl,he,q⟩:=h;obtain ⟨p,x1,x2,rfl,hT,e1,e2⟩:=(show hasP K H e v from he);have hT:=SqT.of (K:=K) hT;have e1:x1=.int e.1:=e1;have e2:x2=.int e.2:=e2;subst e1 e2;refine #[_,(aB (gr (pv 0) (iY rfl (dF (aO (i:=1) vX.nd rfl (av rfl)) (dF (aO (i:=2) vX.nd rfl (av rfl)) iX))))
   (cx (bq (aW fH (pv 1) ah (bf _)) (au (aK (aC bY (aC dG ah (aC c6 (aC dG (fe ff ah) (pv 1)) ah)) (pv 2)))) bE)
   (au (aK (aC bY (aC dG ah (pv 1)) (pv 2)))))),?_]
 refine #[_,rfl,p,_,rfl,hT,rfl,_,_,rfl,_,_,rfl,rfl,?_];refine #[λU' H'=>U'=[some (.ref p),some (.int e.1),some (.int e.2)]/\H=H'/\0<=e.1,?_,?_]
 .refine #[_,rfl,_,_,rfl,rfl,_,rfl,?_];refine ite2 .(t) .(t)
  .have c':e.1<0:=bO c;refine #[_,rfl,_,rfl,_,_,rfl,rfl,.inl .(Y),_,_,rfl,rfl,_,_,rfl,rfl,.inl .(Y),_,rfl,_,_,rfl,rfl,?_];unfold gU at q;rw[ao .(a)]at q;exact q
  .exact #[rfl,rfl,by have:=kI (iS.mpr c);lia]
 rintro U' H' ⟨rfl,rfl,c⟩;refine #[_,rfl,_,_,rfl,rfl,.inl .(Y),_,rfl,_,_,rfl,rfl,?_];unfold gU at q;rw[ak c]at q;have z:64*(2*e.1)+e.2=128*e.1+e.2:=by lia
 rw[z]at q;exact q
def wMes:L2.St->Hp->Nat:=λU _=>match U with
 | [_,_,_,some (.int x),some (.int y),_]=>x.toNat+y.toNat
 | _=>0
def Lh (T:Txt K mg)(yD:DF K mg "_law_turned" qv rX):FC P w K mg base 1 "_law_turned" rX (nv K):=by
 refine yD.ok iE .(c) .(b)
 .obtain ⟨a,xs,rfl,_⟩:=h;rfl
 obtain ⟨a,xs,rfl,hS,hu,hz,q⟩:=h;refine #[_,(aB (aI (i:=1) iE.nd rfl (av rfl) (bN ae))
   (aB (bU PassesOwn.never rfl (fb rfl T.de (aa (aN (bF (K:=K)) rfl T.bD bz (aa (pv 0) ae)) ae)) (aO (i:=2) iE.nd rfl (av rfl)) (au (bq (aW dH (pv 2) ah (bf _)) (au (cM (dJ F.plainAttrs_list F.slot_list_append F.type_list_append dM (pv 1) (aa (aC fW (aH (bg (K:=K)) (pv 0) ah (λ_ _=>rfl)) ah) ae)))) (aB (aI (i:=3) iE.nd rfl (av rfl) (aH (bg (K:=K)) (pv 0) (pv 2) (λ_ _=>rfl)))
   (aB (aI (i:=4) iE.nd rfl (av rfl) (aH (bg (K:=K)) (pv 0) (aC c6 (pv 2) ah) (λ_ _=>rfl)))
   (aB (aI (i:=5) iE.nd rfl (av rfl) ah)
   (aB (mr PassesOwn.never (aW dH (aC fW (pv 3) ah) (aC fW (pv 4) ah) (bf _)) (aB (aI (i:=3) iE.nd rfl (av rfl) (aC my (pv 3) ah))
   (aB (aI (i:=4) iE.nd rfl (av rfl) (aC my (pv 4) ah))
   (au (aI (i:=5) iE.nd rfl (av rfl) (aC bY (pv 5) ah))))))
   (au (cM (dJ F.plainAttrs_list F.slot_list_append F.type_list_append dM (pv 1) (aa (aC bY (aC dG ah (pv 5)) (aC fW (pv 3) ah)) ae)))))))))))
   (au (aK (pv 1))))),?_]
 refine #[.(B),λp hp=>?_];have k0:But p H (upd H p .(V)):=λb o n e=>by rw[aj n];exact e
 refine #[_,rfl,_,_,rfl,.inl (k0.sq hS hp),_,rfl,by rw[ai];lia,by rw[ai];lia,?_];have el:(((.(Q).length:Nat):Int)).toNat=xs.length:=by rw[ai,fU]
 rw[el];refine fc (n:=xs.length) (λi U H2=>∃ x2 x3 x4 x5:Option V,U=[some (.ref a),some (.ref p),x2,x3,x4,x5]/\H2 p=some (.lst (((cP xs).take i).map nV))/\But p H H2) ?_ ?_ ?_
 .exact #[_,_,_,_,rfl,ag,k0]
 .rintro i U H2 hi ⟨x2,x3,x4,x5,rfl,h2,k2⟩;have hS2:=k2.sq hS hp;have hlen:(((cP xs).take i).map nV).length<sizeLine:=bh (by rw[ai,bu,jl];lia);have fin:∀ v:V,v=nV (fO xs i)->upd H2 p (.lst (((cP xs).take i).map nV++[v])) p=some (.lst (((cP xs).take (i+1)).map nV))/\But p H (upd H2 p (.lst (((cP xs).take i).map nV++[v]))):=by
   rintro v rfl;refine #[?_,λb o n e=>by rw[aj n];exact k2 b o n e];rw[ag,CF hi,bw];rfl
  refine #[_,rfl,rfl,_,rfl,?_];refine ite2 .(t) .(t)
  .have c':i=0:=by
    have:=V.int.inj (bO c);lia
   have hat:atI (xs.map nV) 0=some (nV (xs.getD 0 0)):=gW (i:=0) (by lia);refine #[_,rfl,.inl #[rfl,_,SqL.of h2],_,rfl,_,_,_,_,rfl,rfl,hS2,hat,_,_,rfl,rfl,(by show (0:Int) < 2;decide),_,_,_,rfl,rfl,h2,hlen,?_];obtain ⟨g2,g3⟩:=fin (.int (((xs.getD 0 0:Nat):Int) % 2)) (by
    unfold fO;rw[ak c'];show V.int _=V.int _;rw[Int.natCast_emod];rfl)
   exact #[_,_,_,_,rfl,g2,g3]
  .have c':i≠0:=λz=>c (by subst z;decide);have hne:xs.getD (i-1) 0≠xs.getD i 0:=by
    have:=hu (i-1) .(a);rw[show i-1+1=i by lia]at this;exact this
   have hat:atI .(Q) (0+(i:Int))=some (nV (xs.getD i 0)):=by rw[gk];exact gW hi
   have hatp:atI .(Q) (0+(i:Int)-1)=some (nV (xs.getD (i-1) 0)):=by rw[gk];exact Dn c' hi
   refine #[_,rfl,_,rfl,_,_,_,_,rfl,rfl,hS2,hat,?_];refine #[_,rfl,_,rfl,_,_,rfl,rfl,_,_,_,_,rfl,rfl,hS2,hatp,?_];have et:fO xs i=fig (xs.getD (i-1) 0) (xs.getD i 0):=by unfold fO;rw[ao c']
   rw[et]at fin;generalize xs.getD (i-1) 0=Y at *;generalize xs.getD i 0=X at *;refine Af (λU H'=>∃ x y j:Nat,U=[some (.ref a),some (.ref p),some (.int (0+i)),some (.int x),some (.int y),some (.int j)]/\H'=H2/\x≠y/\lu Y X=j+lu y x/\x=X/2^j) wMes ?_ ?_ ?_
   .exact #[X,Y,0,rfl,rfl,bt hne,by lia,by rw[Nat.pow_zero,Nat.div_one]]
   .rintro U H' ⟨x,y,j,rfl,rfl,hxy,hl,hx⟩;refine #[_,rfl,_,_,rfl,rfl,(by show (0:Int)<2;decide),_,rfl,_,_,rfl,rfl,(by show (0:Int)<2;decide),rfl,_,rfl,?_];refine ite2 (λe=>?_) (λe=>?_)
    .have e':x%2=y%2:=by
      have:=V.int.inj (bO e);lia
     refine #[_,rfl,_,_,rfl,rfl,.(Y),_,rfl,_,_,rfl,rfl,.(Y),_,rfl,_,_,rfl,rfl,?_];refine #[#[x/2,y/2,j+1,?_,rfl,by lia,?_,?_],?_]
     .rw[Int.natCast_ediv,Int.natCast_ediv,oy];rfl
     .rw[hl,sH (bt hxy) e'.symm];lia
     .rw[hx,kG,Nat.div_div_eq_div_mul]
     .show ((x:Int)/2).toNat+((y:Int)/2).toNat<(x:Int).toNat+(y:Int).toNat;lia
    ·have e':x % 2≠y % 2:=λz=>e (by
      apply aV;show V.int _=V.int _;have z':(x:Int)%2=(y:Int)%2:=by lia
      rw[z'])
     rw[sI (bt e')]at hl;refine #[_,rfl,.inl #[rfl,_,SqL.of h2],_,rfl,_,_,rfl,rfl,.inl #[by decide,by decide],_,rfl,_,_,rfl,rfl,(by show (0:Int) < 2;decide),_,_,rfl,rfl,_,_,_,rfl,rfl,h2,hlen,?_];obtain ⟨g2,g3⟩:=fin (.int (2 * (j:Int)+(x:Int) % 2)) (by
      show V.int _=V.int _;unfold fig;rw[hl,jG,<-hx,oy,Int.natCast_mul,Int.natCast_emod];rfl)
     exact #[_,_,_,_,rfl,g2,g3]
   .intro U H Q Q' m h;obtain ⟨x1,e1,i1,j1,f1,g1,c1,x2,e2,i2,j2,f2,g2,c2,r1,b,e,q⟩:=h;exact #[x1,e1,i1,j1,f1,g1,c1,x2,e2,i2,j2,f2,g2,c2,r1,b,e,m _ _ q]
 .rintro U H2 ⟨x2,x3,x4,x5,rfl,h2,k2⟩;refine .(A);refine q p H2 hp (λb o e=>k2 b o (aw e hp) e) ?_;rw[h2,bG (by rw[jl];exact aq _)]
def gM {n d i:Nat}:HT.sIx n d (some (i:Int))=min i n:=by
 unfold HT.sIx;simp
 try lia
def wM (xs:List V)(a b:Nat):cutV xs (some (a:Int)) (some (b:Int))=(xs.drop a).take (b-a):=by
 unfold cutV;rw[gM,gM];by_cases h:a<=xs.length
 .rw[jH h];by_cases h2:b<=xs.length
  .rw[jH h2]
  .rw[oz .(a),bG (by rw[eU];exact aq _),bG (by rw[eU];lia)]
 .rw[oz (show xs.length<=a by lia),gj (aq _),gj (show xs.length<=a by lia)];simp
def Dq {α:Type}(xs:List α)(k:Nat):(xs.drop k).take 1=xs[k]?.toList:=by
 by_cases h:k<xs.length
 .rw[List.drop_eq_getElem_cons h,aA h];rfl
 .rw[gj .(a),dy .(a)];rfl
def Dr {k:Nat}{i j:Int}(hi:i=if (k:Int)-1>0 then (k:Int)-1 else 0)(hj:j=(k:Int)):cutV xs (some i) (some j)= .(ea).toList:=by
 subst hj;have e:i=((k-1:Nat):Int):=by
  rw[hi];split<;>lia
 subst e;rw[wM];split
 .rename_i h;subst h;simp
 .rw[show k-(k-1)=1 by lia,Dq]
def Dt {k:Nat}{i j:Int}(hi:i=(k:Int)+1)(hj:j=(k:Int)+2):cutV xs (some i) (some j)=xs[k+1]?.toList:=by
 subst hi hj;rw[show (k:Int)+1=((k+1:Nat):Int) by lia,show (k:Int)+2=((k+2:Nat):Int) by lia,wM,show k+2-(k+1)=1 by lia,Dq]
def wN (xs:List Nat)(k:Nat):(if k=0 then none else .(Q)[k-1]?).toList++ .(Q)[k+1]?.toList=(cb xs k).map nV:=by
 unfold cb;rw[bw,aZ,aZ];congr 1
 .split
  .rfl
  .cases xs[k-1]?<;>rfl
 .cases xs[k+1]?<;>rfl
def Li (xs:List Nat)(k:Nat):(cb xs k).length<=2:=by
 have e:∀ o:Option Nat,o.toList.length<=1:=λo=>by cases o<;>simp
 unfold cb;rw[aS];have:=e .(ea)
 have:=e xs[k+1]?;lia
def But.new {p b:Addr}(k:But p H H2)(hb:H2 b=none)(o:HO):But p H (upd H2 b o):=λx o' n e=>(az hb o) x o' (k x o' n e)
def Lj {K:Frag}{i j:Nat}{U:L2.St}{H2:Hp}{Q:VK}{a:Addr}{xs:List Nat}{k:Nat}{z:Int}(ez:z=(k:Int))(e1:U[i]?=some (some (.ref a)))(e2:U[j]?=some (some (.int z)))(h2a:H2 a=some (.lst .(Q)))
  (q:∀ g H5,H2 g=none->Same H2 H5->H5 g=some (.lst ((cb xs k).map nV))->Q (.ref g) H5) :
  tOp rCat (tSl (rSlL K) (tVar i) (mz (tCB (λxs H Q=>∃ i j,xs=[V.int i,V.int j]/\Q (V.int (if j>i then j else i)) H) (uR (tC (V.int 0)) (uR (tOp (rI0 λi j=>V.int (i-j)) (tVar j) (tC (V.int 1))) tNil)))) (mz (tVar j)))
   (tSl (rSlL K) (tVar i) (mz (tOp (rI0 λi j=>V.int (i+j)) (tVar j) (tC (V.int 1)))) (mz (tOp (rI0 λi j=>V.int (i+j)) (tVar j) (tC (V.int 2))))) U H2 Q:=by
 subst ez;refine #[_,e1,_,e2,_,_,rfl,rfl,_,_,rfl,_,rfl,_,e2,_,rfl,_,_,rfl,SqL.of h2a,λb hb=>?_];have kb:=az hb (.lst (cutV .(Q) (some (if (k:Int)-1>0 then (k:Int)-1 else 0)) (some (k:Int))))
 have hbb:upd H2 b (.lst (cutV .(Q) (some (if (k:Int)-1>0 then (k:Int)-1 else 0)) (some (k:Int)))) b=some (.lst (if k=0 then none else .(Q)[k-1]?).toList):=by
  rw[ag,Dr (k:=k) rfl rfl]
 generalize upd H2 b (.lst (cutV .(Q) (some (if (k:Int)-1>0 then (k:Int)-1 else 0)) (some (k:Int))))=H3 at kb hbb ⊢
 refine #[_,e1,_,e2,_,_,rfl,rfl,_,rfl,_,e2,_,_,rfl,rfl,_,rfl,_,_,rfl,SqL.of (kb _ _ h2a),λc hc=>?_];have kc:=az hc (.lst (cutV .(Q) (some ((k:Int)+1)) .(ra)));have hcb:=kc _ _ hbb;have hcc:upd H3 c (.lst (cutV .(Q) (some ((k:Int)+1)) .(ra))) c=some (.lst .(Q)[k+1]?.toList):=by
  rw[ag,Dt (k:=k) rfl rfl]
 generalize upd H3 c (.lst (cutV .(Q) (some ((k:Int)+1)) .(ra)))=H4 at kc hcb hcc ⊢;refine #[b,c,_,_,rfl,rfl,hcb,hcc,?_,λg hg=>?_]
 .rw[<-aS,wN,ai];exact bW (Li _ _) .(q)
 rw[wN];exact q g _ (kb.free (kc.free hg)) (kb.trans (kc.trans (az hg _))) ag
inductive ny (K:Frag)(vs:List V)(H:Hp)(Q:VK)(w_1:XK):Prop
 | c:∀(a:Addr) (xs:List Nat),vs=[.ref a]->SqL K H a (xs.map nV)->Unl xs->dz 6 xs->xs.length<=1000->(∀(p:Addr) (H':Hp),H p=none->Same H H'->H' p=some (.lst ((colL xs).map nV))->Q (.ref p) H')->ny K vs H Q w_1
def cm (es:List (Int×Int)):List Bool:=iH (colL (cR 5 (cF es)))
def gX (es:List (Int×Int)):(cm es).length=es.length:=by
 unfold cm;rw[CK,wq,jZ,fq]
def nz {es:List (Int×Int)}(he:∀ e∈es,dZ 64 e)(hri:Rise es):Unl (cR 5 (cF es)):=j3 (tj he hri) 5
def wO {es:List (Int×Int)}(he:∀ e∈es,dZ 64 e)(hri:Rise es):dz 6 (cR 5 (cF es)):=Ld (tj he hri) (Le he)
def Lk {xs:List Nat}(h:dz 6 xs):∀ i x,atZ xs i=some x->x<=5:=λi x e=>by
 obtain ⟨h0,h1⟩:=wg e;have:=h i.toNat .(a);unfold atZ at e;rw[ak h0]at e;rw[aF,e]at this;exact Nat.lt_succ_iff.mp this
def wQ {es:List (Int×Int)}(he:∀ e∈es,dZ 64 e)(hri:Rise es):jm (cm es):=Ku (wt (unlZ (nz he hri))) (Kq (Lk (wO he hri)))
inductive nA (K:Frag)(vs:List V)(H:Hp)(Q:VK)(w_1:XK):Prop
 | c:∀(a:Addr) (ws:List V) (es:List (Int×Int)),vs=[.ref a]->H a=some (.lst ws)->aD K H es ws->es.length<=1000->(∀ e∈es,dZ 64 e)->Rise es->(∀(p:Addr) (H':Hp),H p=none->Same H H'->H' p=some (.lst ((cm es).map V.bl))->Q (.ref p) H')->nA K vs H Q w_1
inductive tm (K:Frag)(vs:List V)(H:Hp)(Q:VK)(w_1:XK):Prop
 | c:∀(a:Addr) (ws:List V) (es:List (Int×Int)),vs=[.ref a]->H a=some (.lst ws)->aD K H es ws->es.length<=1000->(∀ e∈es,dZ 64 e)->Rise es->(∀(p:Addr) (H':Hp),H p=none->Same H H'->H' p=some (.lst (ck ws (cm es)))->Q (.ref p) H')->tm K vs H Q w_1
def wR {α:Type}(xs:List α)(m j:Nat):(xs.drop m).take (j+1)=xs[m]?.toList++(xs.drop (m+1)).take j:=by
 by_cases h:m<xs.length
 .rw[List.drop_eq_getElem_cons h,aA h];rfl
 .rw[gj .(a),dy .(a),gj .(a)];simp
def nB (o:Option Bool):o.toList.any id=o.getD false:=by
 cases o with
 | none=>rfl
 | some b=>cases b<;>rfl
def any3 (ms:List Bool){k:Nat}(h:1<=k):((ms.drop (k-1)).take 3).any id=!gC ms k:=by
 rw[wR,wR,wR,oA,oA,oA,nB,nB,nB,show k-1+1=k by lia,md];unfold gC;rw[aF,aF,aF];generalize ms[k-1]?.getD false=x;generalize ms[k]?.getD false=y;generalize ms[k+1]?.getD false=z;cases x<;>cases y<;>cases z<;>rfl
def Du (ms:List Bool):inV (.bl true) (ms.map V.bl)=ms.any id:=by
 unfold inV
 induction ms with
 | nil=>rfl
 | cons m ms ih=>
  rw[bL,hZ,ih,hZ];cases m<;>rfl
def Dv (ms:List Bool):(ms.map V.bl).all fK=true:=by
 rw[eW];intro x hx;obtain ⟨n,_,rfl⟩:=cA.mp hx;rfl
def Ll {ms:List Bool}{k:Nat}{i j:Int}(h:1<=k)(hi:i=(k:Int)-1)(hj:j=(k:Int)+2):cutV (ms.map V.bl) (some i) (some j)=((ms.drop (k-1)).take 3).map V.bl:=by
 subst hi hj;rw[show (k:Int)-1=((k-1:Nat):Int) by lia,show (k:Int)+2=((k+2:Nat):Int) by lia,wM,show k+2-(k-1)=3 by lia,iQ,mh]
def wU {α:Type}{as:List α}{bs:List Bool}{a:α}{b:Bool}(h:as.length=bs.length):ck (as++[a]) (bs++[b])=ck as bs++(if b=true then [a] else []):=by
 unfold ck;rw[List.zip_append h,dg,bw];congr 1;cases b<;>rfl
def Dw {α:Type}(as:List α)(bs:List Bool):(ck as bs).length<=as.length:=by
 unfold ck;rw[ai];refine bW (eX _ _) ?_;rw[oi];lia
def tq {α:Type}[Rep α]{K:Frag}:∀{es:List α} {ws:List V} {ms:List Bool},aD K H es ws->aD K H (ck es ms) (ck ws ms)
 | _,_,_,.nil=>by
  unfold ck;exact .nil
 | e::es,w::ws,[],.cons h t=>by
  unfold ck;exact .nil
 | e::es,w::ws,m::ms,.cons h t=>by
  have:=tq (ms:=ms) t;unfold ck at this ⊢;cases m with
  | false=>exact this
  | true=>exact .cons h this
def tu (bs:List Nat)(c:Nat):((List.range (c+1)).filter λc=>!decide (c∈bs))=((List.range c).filter λc=>!decide (c∈bs))++(if c∈bs then [] else [c]):=by
 rw[iT,dg];congr 1;by_cases h:c∈bs
 .rw[ak h];simp[List.filter,h]
 .rw[ao h];simp[List.filter,h]
def tD {H:Hp}{p t:Addr}{xs ys:List V}(h1:H p=some (.lst xs))(h2:H t=some (.tup ys)):p≠t:=λz=>by
 rw[z,h2]at h1;cases h1
def iK {n k:Nat}(h:k<n):ixN n (k:Int)=some k:=by
 unfold ixN;simp;lia
def besV (xs:List V)(k:Nat):List V:= .(ea).toList++xs[k+1]?.toList
def Lm (xs:List V)(k:Nat):(besV xs k).length<=2:=by
 have e:∀ o:Option V,o.toList.length<=1:=λo=>by cases o<;>simp
 unfold besV;rw[aS];have:=e .(ea)
 have:=e xs[k+1]?;lia
inductive spNb (K:Frag)(vs:List V)(H:Hp)(Q:VK)(w_1:XK):Prop
 | c:∀(a:Addr) (xs:List V) (k:Nat),vs=[.ref a,.int k]->H a=some (.lst xs)->(∀(g:Addr) (H':Hp),H g=none->Same H H'->H' g=some (.lst (besV xs k))->Q (.ref g) H')->spNb K vs H Q w_1
def Ln (T:Txt K mg)(yE:DF K mg "neighbours" pJ mW):FC P w K mg base 1 "neighbours" mW (spNb K):=by
 refine yE.ok JK .(c) .(b)
 .obtain ⟨a,xs,k,rfl,_⟩:=h;rfl
 obtain ⟨a,xs,k,rfl,ha,q⟩:=h;refine #[_,(au (aK (aC i5 (fI (jS (K:=K)) (pv 0) (dr (aN (oN rfl) rfl T.uk boot_max (aa (aC c6 (pv 1) ah) (aa ah ae)))) (dr (pv 1))) (fI (jS (K:=K)) (pv 0) (dr (aC bY (pv 1) ah)) (dr (aC bY (pv 1) ah)))))),?_];refine #[_,rfl,_,rfl,_,_,rfl,rfl,_,_,rfl,_,rfl,_,rfl,_,rfl,_,_,rfl,SqL.of ha,λb hb=>?_];have kb:=az hb (.lst (cutV xs (some (if 0>(k:Int)-1 then 0 else (k:Int)-1)) (some (k:Int))))
 have hbb:upd H b (.lst (cutV xs (some (if 0>(k:Int)-1 then 0 else (k:Int)-1)) (some (k:Int)))) b=some (.lst .(ea).toList):=by
  rw[ag,Dr (k:=k) (by split<;>split<;>lia) rfl]
 generalize upd H b (.lst (cutV xs (some (if 0>(k:Int)-1 then 0 else (k:Int)-1)) (some (k:Int))))=H3 at kb hbb ⊢
 refine #[_,rfl,_,rfl,_,_,rfl,rfl,_,rfl,_,rfl,_,_,rfl,rfl,_,rfl,_,_,rfl,SqL.of (kb _ _ ha),λc hc=>?_];have kc:=az hc (.lst (cutV xs (some ((k:Int)+1)) .(ra)));have hcb:=kc _ _ hbb;have hcc:upd H3 c (.lst (cutV xs (some ((k:Int)+1)) .(ra))) c=some (.lst xs[k+1]?.toList):=by
  rw[ag,Dt (k:=k) rfl rfl]
 generalize upd H3 c (.lst (cutV xs (some ((k:Int)+1)) .(ra)))=H4 at kc hcb hcc ⊢;refine #[b,c,_,_,rfl,rfl,hcb,hcc,?_,λg hg=>?_]
 .rw[<-aS];exact bW (Lm xs k) .(q)
 exact q g _ (kb.free (kc.free hg)) (kb.trans (kc.trans (az hg _))) ag
inductive wV (K:Frag)(vs:List V)(H:Hp)(Q:VK)(w_1:XK):Prop
 | c:∀(a:Addr) (xs:List Nat) (k:Nat),vs=[.ref a]->H a=some (.lst ((cb xs k).map nV))->(∀ H':Hp,Same H H'->Q (.int (eA xs k:Nat)) H')->wV K vs H Q w_1
def Lo (T:Txt K mg)(yF:DF K mg "least_free" pK qZ):FC P w K mg base 1 "least_free" qZ (wV K):=by
 refine yF.ok JL .(c) .(b)
 .obtain ⟨a,xs,k,rfl,_⟩:=h;rfl
 obtain ⟨a,xs,k,rfl,ha,q⟩:=h;refine #[_,(au (aK (aN (Ie rfl) rfl T.yq boot_min (aa (fM (N:=["colour","taken"]) (own:=1) (cap:=[0]) rfl (gx (cE (aa ah (aa ah (aa ah ae))))) #[rfl,rfl,rfl,rfl,rfl,rfl] (λ_ _ _ _ _=>(aO (i:=0) (show List.Nodup (["colour","taken"]:List Str) by decide +kernel) rfl (av rfl))) (λ_ _ _ _ _=>(gP (aW (la (K:=K)) (pv 0) (pv 1) (by with_unfolding_all rfl)))) (λ_ _ _ _ _=>(pv 0))) ae)))),?_]
 refine #[.(Z),λt ht=>?_];have st:=az ht (.tup [V.int 0,V.int 1,V.int 2]);have ht1:upd H t (.tup [V.int 0,V.int 1,V.int 2]) t=some (.tup [V.int 0,V.int 1,V.int 2]):=ag;generalize upd H t (.tup [V.int 0,V.int 1,V.int 2])=H1 at st ht1 ⊢;have h1a:=st _ _ ha;refine #[t,rfl,#[_,SqT.of ht1],λD hD=>?_];refine jT (xs:=[V.int 0,V.int 1,V.int 2]) (λc U H6=>∃ x0:Option V,U=[x0,some (.ref a)]/\H6 D=some (.lst (((List.range c).filter λc=>!decide (c∈cb xs k)).map nV))/\But D H1 H6) ?_ ?_ ?_ ?_
 .exact .(m)
 .rintro i U H6 _ ⟨x0,rfl,_,k6⟩;exact SqT.of (k6 _ _ (aw ht1 hD) ht1)
 .rintro c m x U H6 hx hm ⟨x0,rfl,h6,k6⟩;obtain ⟨hi,rfl⟩:c<3/\x=V.int (c:Int):=by
   rcases c with _|_|_|c
   .exact .(s)
   .exact .(s)
   .exact .(s)
   .cases hx
  have h6g:=k6 _ _ (aw h1a hD) h1a;have hlen:=eX (λc=>!decide (c∈cb xs k)) (List.range c);rw[d9]at hlen;refine #[_,rfl,_,rfl,_,_,rfl,.inl (SqL.of h6g),rfl,wI _,_,rfl,?_];show if (!inV (.int (c:Int)) ((cb xs k).map nV))=true then _ else _
  rw[wJ];have hm3:c+m=3:=hm;refine ite2 (λe=>?_) (λe=>?_)
  .have e':c∉cb xs k:=λz=>by
    rw[aV z]at e;cases e
   refine #[_,rfl,_,h6,bh .(y),m-1,by lia,(by show c+1+(m-1)=3;lia),_,rfl,?_,λb o n e=>by rw[aj n];exact k6 b o n e];rw[ag,tu,ao e',bw];rfl
  .have e':c∈cb xs k:=jx λz=>e (by rw[bx z];rfl);refine #[m-1,by lia,(by show c+1+(m-1)=3;lia),_,rfl,?_,k6];rw[h6,tu,ak e',bQ]
 .rintro U H6 ⟨x0,rfl,h6,k6⟩;have h6:H6 D=some (.lst (((List.range 3).filter λc=>!decide (c∈cb xs k)).map nV)):=h6;have s6:Same H1 H6:=λb o e=>k6 b o (aw e hD) e;have mem:∀ c,c∈((List.range 3).filter λc=>!decide (c∈cb xs k))↔c<3/\c∉cb xs k:=λc=>by
   rw[d6,d7];constructor
   .rintro ⟨h1,h2⟩;refine #[h1,λz=>?_];rw[aV z]at h2;cases h2
   .rintro ⟨h1,h2⟩;exact #[h1,by rw[bx h2];rfl]
  have hf:eA xs k∈((List.range 3).filter λc=>!decide (c∈cb xs k)):=(mem _).mpr #[mi (CT xs k),CP];refine #[D,((List.range 3).filter λc=>!decide (c∈cb xs k)).map λn:Nat=>(n:Int),rfl,?_,?_,λM hM hL=>?_]
  .rw[ig];exact SqL.of h6
  .rw[ai];exact List.length_pos_of_mem hf
  have eM:M=(eA xs k:Int):=by
   have h1:=hL _ (cA.mpr #[_,hf,rfl]);obtain ⟨c,hc,rfl⟩:=cA.mp hM;have h2:¬ c<eA xs k:=λz=>((mem c).mp hc).2 (CQ z);lia
  rw[eM];exact q _ (st.trans s6)
def Lp (xs:List Nat)(k:Nat):besV .(Q) k=(cb xs k).map nV:=wN xs k
def Lq (T:Txt K mg)(yG:DF K mg "colours" pL q9)(yH:FC P w K mg base 1 "neighbours" mW (spNb K))(O0:FC P w K mg base 1 "least_free" qZ (wV K)):FC P w K mg base 3 "colours" q9 (ny K):=by
 refine yG.ok qN .(c) .(b)
 .obtain ⟨a,xs,rfl,_⟩:=h;rfl
 obtain ⟨a,xs,rfl,hS,hu,hb,hz,q⟩:=h;refine #[_,(aB (aI (i:=1) qN.nd rfl (av rfl) (dI (ph (K:=K)) rfl T.g9 boot_list (aa (pv 0) ae)))
   (aB (bU PassesOwn.never rfl (gx (cE (aa ah (aa ah (aa ah ae))))) (aO (i:=2) qN.nd rfl (av rfl)) (au (bU PassesOwn.never rfl (fb rfl T.de (aa (aN (bF (K:=K)) rfl T.bD bz (aa (pv 0) ae)) ae)) (aO (i:=3) qN.nd rfl (av rfl)) (au (bq (aW dH (aH (bg (K:=K)) (pv 1) (pv 3) (λ_ _=>rfl)) (pv 2) (bf _)) (au (gr (aG O0 hr (aa (aG yH hr (aa (pv 1) (aa (pv 3) ae))) ae)) (iw (pv 1) (pv 3) iz))) bE)))))
   (au (aK (pv 1))))),?_]
 refine #[_,rfl,a,_,rfl,.inl hS,λp hp=>?_];have k0:But p H (upd H p (.lst .(Q))):=λb o n e=>by rw[aj n];exact e
 refine #[.(Z),λt ht=>?_];have npt:p≠t:=aw ag ht;refine #[t,rfl,#[_,SqT.of ag],?_];refine mx (xs:=[V.int 3,V.int 4,V.int 5]) (λi U H2=>∃ x2 x3:Option V,U=[some (.ref a),some (.ref p),x2,x3]/\H2 p=some (.lst ((colN xs i).map nV))/\H2 t=some (.tup [V.int 3,V.int 4,V.int 5])/\But p H H2) ?_ ?_ ?_ ?_
 .exact #[_,_,rfl,by rw[aj npt];exact ag,ag,k0.new ht _]
 .rintro i U H2 _ ⟨x2,x3,rfl,_,h2t,_⟩;exact SqT.of h2t
 .rintro i x U H2 hx ⟨x2,x3,rfl,h2,h2t,k2⟩;obtain ⟨hi,rfl⟩:i<3/\x=V.int ((3+i:Nat):Int):=by
   rcases i with _|_|_|i
   .exact .(s)
   .exact .(s)
   .exact .(s)
   .cases hx
  have hyl:=C6 xs i;have hyu:=C7 hu i;have hnx:colN xs (i+1)=recL (3+i) (colN xs i):=rfl;rw[hnx];generalize colN xs i=ys at h2 hyl hyu ⊢;generalize 3+i=v;have hSa:SqL K H2 a .(Q):=k2.sq hS hp;refine #[_,rfl,_,_,rfl,.inl hSa,_,rfl,by rw[ai];lia,by rw[ai];lia,?_];have el:(((.(Q).length:Nat):Int)).toNat=ys.length:=by rw[ai,fU,hyl]
  rw[el];refine fc (n:=ys.length) (λk U H3=>∃ x3:Option V,U=[some (.ref a),some (.ref p),some (.int v),x3]/\H3 p=some (.lst ((mixL v ys k).map nV))/\H3 t=some (.tup [V.int 3,V.int 4,V.int 5])/\But p H H3) ?_ ?_ ?_
  .exact #[_,rfl,h2,h2t,k2]
  .rintro k U H3 hk ⟨x3,rfl,h3,h3t,k3⟩;rw[gk];have ml:=wB v ys k;have eg:(mixL v ys k).getD k 0=ys.getD k 0:=by
    rw[aF,CV (aq k),<-aF]
   have hat:atI ((mixL v ys k).map nV) (k:Int)=some (nV (ys.getD k 0)):=by
    rw[<-eg];exact gW .(a)
   refine #[_,rfl,_,rfl,_,_,_,_,rfl,rfl,SqL.of h3,hat,_,rfl,rfl,_,rfl,?_];refine ite2 .(t) .(t)
   .have c':ys.getD k 0=v:=by
     have:=V.int.inj (bO c);lia
    refine #[_,rfl,_,rfl,p,_,k,rfl,h3,λg H4 hg s4 h4=>?_];rw[Lp,CZ hyu hk c']at h4;refine #[g,ys,k,rfl,h4,λH5 s5=>?_];have s35:=s4.trans s5;have same:∀ b o,b≠p->H3 b=some o->upd H5 p (.lst (((mixL v ys k).map nV).set k (nV (eA ys k)))) b=some o:=λb o n e=>by
     rw[aj n];exact s35 _ _ e
    refine #[_,rfl,_,rfl,_,_,_,k,rfl,rfl,s35 _ _ h3,iK (by rw[ai,ml];exact hk),?_];refine #[_,rfl,?_,same _ _ (bt (tD h3 h3t)) h3t,λb o n e=>same _ _ n (k3 b o n e)];rw[ag,C0 hk c',jI]
   .have c':ys.getD k 0≠v:=λz=>c (by rw[z];exact aV rfl);exact #[_,rfl,by rw[CW hk c'];exact h3,h3t,k3]
  .rintro U H3 ⟨x3,rfl,h3,h3t,k3⟩;rw[CU (aq _)]at h3;exact #[_,_,rfl,h3,h3t,k3]
 .rintro U H2 ⟨x2,x3,rfl,h2,_,k2⟩;refine .(A);exact q p H2 hp (λb o e=>k2 b o (aw e hp) e) h2
def gE (ms:List Bool)(k:Nat):Bool:=!ms.getD (k-1) false && !ms.getD (k+1) false
def besB (ms:List Bool)(k:Nat):List Bool:=(if k=0 then none else ms[k-1]?).toList++ms[k+1]?.toList
def Lr (ms:List Bool)(k:Nat):besV (ms.map V.bl) k=(besB ms k).map V.bl:=by
 unfold besV besB;rw[bw,aZ,aZ];congr 1
 .split
  .rfl
  .cases ms[k-1]?<;>rfl
 .cases ms[k+1]?<;>rfl
def Ls {k:Nat}(h:1<=k):(besB ms k).any id=!gE ms k:=by
 unfold besB gE;rw[ao .(a),oA,nB,nB,aF,aF];generalize ms[k-1]?.getD false=x;generalize ms[k+1]?.getD false=z;cases x<;>cases z<;>rfl
def Lu {sh:Nat}{ms:List Bool}(hu:Unl cs)(hl:cs.length=ms.length){k:Nat}(h:k<cs.length)(h1:1<=k)(hs:cs.getD k 0=sh):gE .(v) k=gE ms k:=by
 unfold gE;have e:∀ j,k<=j-> .(v).getD j false=ms.getD j false:=λj hj=>by
  rw[aF,aF,gc hl,ao .(a)]
 rw[e (k+1) .(a)];have e2: .(v).getD (k-1) false=ms.getD (k-1) false:=by
  rw[aF,gc hl,ak .(a),lH hl .(a)];have:=hu (k-1) .(a);rw[show k-1+1=k by lia,hs]at this;rw[bx this];simp
 rw[e2]
def Dx {sh:Nat}{cs:List Nat}{ms:List Bool}(hl:cs.length=ms.length){k:Nat}(h:k<cs.length)(hn:¬ (cs.getD k 0=sh/\gE ms k=true)):mixM sh cs ms (k+1)=mixM sh cs ms k:=by
 apply gK;intro j;rw[gc hl,gc hl];by_cases c:j<k
 .rw[ak c,ak .(a)]
 .rw[ao c];split
  .have:j=k:=by lia
   subst this;rw[lH hl h];unfold gE at hn;rw[aA .(a)];have e:ms.getD j false=ms[j]' .(a):=by
    rw[aF,aA .(a)];rfl
   rw[e];congr 1;generalize ms[j]=a;generalize ms.getD (j-1) false=b at hn ⊢;generalize ms.getD (j+1) false=d at hn ⊢;by_cases z:cs.getD j 0=sh
   .have hn':¬ ((!b && !d)=true):=λy=>hn #[z,y];cases b with
    | true=>simp
    | false=>
     cases d with
     | true=>simp
     | false=>exact absurd rfl hn'
   .rw[bx z];simp
  .rfl
def Lv {sh:Nat}{cs:List Nat}{ms:List Bool}(hl:cs.length=ms.length){k:Nat}(h:k<cs.length)(hp:1<=k/\cs.getD k 0=sh/\gE ms k=true):mixM sh cs ms (k+1)= .(v).set k true:=by
 apply gK;intro j;rw[ip,sV hl,gc hl,gc hl];by_cases c:k=j
 .subst c;rw[ak rfl,ak h,ak .(a),lH hl h];obtain ⟨p1,p2,p3⟩:=hp;unfold gE at p3;simp only[eV,kx]at p3;rw[p2,p3.1,p3.2,aV p1];simp
 .rw[ao c];by_cases c2:j<k
  .rw[ak c2,ak .(a)]
  .rw[ao c2,ao .(a)]
def Lw (T:Txt K mg)(yI:DF K mg "marks" pM rg)(O1:FC P w K mg base 3 "labels" qY (wL K))(O2:FC P w K mg base 3 "colours" q9 (ny K))(yH:FC P w K mg base 1 "neighbours" mW (spNb K)):FC P w K mg base 5 "marks" rg (nA K):=by
 refine yI.ok mM .(c) .(b)
 .obtain ⟨a,ws,es,rfl,_⟩:=h;rfl
 obtain ⟨a,ws,es,rfl,ha,hw,hz,he,hri,q⟩:=h;refine #[_,(aB (aI (i:=1) mM.nd rfl (av rfl) (aG O2 hr (aa (aG O1 hr (aa (pv 0) ae)) ae)))
   (aB (jd (i:=2) (N:=["tint"]) (own:=1) (cap:=[]) mM.nd rfl rfl rfl (dW (pv 1)) #[rfl,rfl,rfl,rfl,rfl,rfl] (λ_ _ _ _ _=>(aO (i:=0) (show List.Nodup (["tint"]:List Str) by decide +kernel) rfl (av rfl))) (λ_ _ _ _ _=>fY) (λ_ _ _ _ _=>cZ))
   (aB (bU PassesOwn.never rfl (gx (cE (aa ah (aa ah (aa ah ae))))) (aO (i:=3) mM.nd rfl (av rfl)) (au (bU PassesOwn.never rfl (kM rfl T.de (aa ah (aa (aN (bF (K:=K)) rfl T.bD bz (aa (pv 1) ae)) ae))) (aO (i:=4) mM.nd rfl (av rfl)) (au (bq (PW.pt (iW (aW dH (aH (bg (K:=K)) (pv 1) (pv 4) (λ_ _=>rfl)) (pv 3) (bf _)) (iV (aW (la (K:=K)) cZ (aG yH hr (aa (pv 2) (aa (pv 4) ae))) (by with_unfolding_all rfl))))) (au (gr cZ (iw (pv 2) (pv 4) iz))) bE)))))
   (au (aK (pv 2)))))),?_]
 refine #[_,rfl,a,ws,es,rfl,SqL.of ha,hw,hz,he,hri,λp H3 hp s3 h3=>?_];refine #[p,_,rfl,SqL.of h3,nz he hri,wO he hri,by rw[jZ,fq];exact hz,λc H4 hc s4 h4=>?_];have cu:Unl (colL (cR 5 (cF es))):=wj (wt (unlZ (nz he hri)));have cl:(colL (cR 5 (cF es))).length=es.length:=by rw[wq,jZ,fq]
 have fin:cm es=mkN (colL (cR 5 (cF es))) 3:=(C8 _).symm;generalize colL (cR 5 (cF es))=cs at h4 cu cl fin;have s04:=s3.trans s4;refine #[_,rfl,c,rfl,#[_,SqL.of h4],λF hF=>?_];refine iC (xs:=cs.map nV) (λi U H5=>∃ x0:Option V,U=[x0]/\H5 F=some (.lst ((List.replicate i false).map V.bl))/\But F H4 H5) ?_ ?_ ?_ ?_
 .exact .(m)
 .rintro i U H5 _ ⟨x0,rfl,_,k5⟩;exact k5.sq (SqL.of h4) hF
 .rintro i m x U H5 hx hm ⟨x0,rfl,h5,k5⟩;have hi:=(aT.mp hx).1;rw[ai]at hi hm;refine fN ?_;refine #[_,h5,bh (by rw[ai,jC];lia),m-1,by lia,by rw[ai];lia,_,rfl,?_,λb o n e=>by rw[aj n];exact k5 b o n e];rw[ag,List.replicate_succ',bw];rfl
 rintro U H5 ⟨x0,rfl,h5,k5⟩;have s45:Same H4 H5:=λb o e=>k5 b o (aw e hF) e;have h5c:=s45 _ _ h4;have nFc:c≠F:=aw h4 hF;have hF0:H F=none:=s04.free hF;have k05:But F H H5:=λb o _ e=>s45 _ _ (s04 _ _ e);have e5:H5 F=some (.lst ((mkN cs 0).map V.bl)):=by
  rw[h5,mkN,ai,show List.replicate cs.length false=cs.map (λ_=>false) from by rw[List.map_const']]
 refine #[.(Z),λt ht=>?_];have st:=az ht (.tup [V.int 2,V.int 1,V.int 0]);refine #[t,rfl,#[_,SqT.of ag],?_];refine mx (xs:=[V.int 2,V.int 1,V.int 0]) (λi U H6=>∃(x3 x4:Option V),U=[some (.ref a),some (.ref c),some (.ref F),x3,x4]/\H6 F=some (.lst ((mkN cs i).map V.bl))/\H6 c=some (.lst (cs.map nV))/\H6 t=some (.tup [V.int 2,V.int 1,V.int 0])/\But F H H6) ?_ ?_ ?_ ?_
 .exact #[_,_,rfl,st _ _ e5,st _ _ h5c,ag,k05.new ht _]
 .rintro i U H6 _ ⟨x3,x4,rfl,_,_,h6t,_⟩;exact SqT.of h6t
 .rintro i x U H6 hx ⟨x3,x4,rfl,h6,h6c,h6t,k6⟩;obtain ⟨hi,rfl⟩:i<3/\x=V.int ((2-i:Nat):Int):=by
   rcases i with _|_|_|i
   .exact .(s)
   .exact .(s)
   .exact .(s)
   .cases hx
  have hml:=C9 cs i;have hnx:mkN cs (i+1)=dY (2-i) cs (mkN cs i):=rfl;rw[hnx];generalize mkN cs i=ms at h6 hml ⊢;generalize 2-i=sh;refine #[_,rfl,_,_,rfl,.inl (SqL.of h6c),1,_,rfl,#[by lia,by lia,by rw[ai];lia,by rw[ai];lia],?_];have en:((((cs.map nV).length:Nat):Int)-1).toNat=cs.length-1:=by rw[ai];lia
  rw[en];have km:∀ k,.(v).length=cs.length:=sV hml;refine fc (n:=cs.length-1) (λj U H7=>∃(x4:Option V),U=[some (.ref a),some (.ref c),some (.ref F),some (.int sh),x4]/\H7 F=some (.lst ((mixM sh cs ms (1+j)).map V.bl))/\H7 c=some (.lst (cs.map nV))/\H7 t=some (.tup [V.int 2,V.int 1,V.int 0])/\But F H H7) ?_ ?_ ?_
  .exact #[_,rfl,by rw[Da hml];exact h6,h6c,h6t,k6]
  .rintro j U H7 hj ⟨x4,rfl,h7,h7c,h7t,k7⟩;have ek:(1:Int)+(j:Int)=((1+j:Nat):Int):=by lia
   have hk1:1<=1+j:=by lia
   have hkl:1+j<cs.length:=by lia
   rw[ek];have es1:1+(j+1)=1+j+1:=by lia
   rw[es1];generalize 1+j=k at h7 hk1 hkl ⊢;have hat:=gW (xs:=cs) hkl;have mc:cs.getD k 0=sh->gE .(v) k=gE ms k:=λz=>Lu cu hml hkl hk1 z;refine #[_,rfl,_,rfl,_,_,_,_,rfl,rfl,SqL.of h7c,hat,_,rfl,rfl,_,rfl,?_];refine ite2 (λe=>?_) (λe=>?_)
   .have e':cs.getD k 0=sh:=by
     have:=V.int.inj (bO e);lia
    refine #[_,rfl,_,rfl,F,_,k,rfl,h7,λb H8 hb sb hbb=>?_];rw[Lr]at hbb;have kb:But F H H8:=λx o n e=>sb _ _ (k7 x o n e);refine #[_,_,rfl,.inl (SqL.of hbb),rfl,Dv _,_,rfl,?_];show if (!inV (.bl true) ((besB .(v) k).map V.bl))=true then _ else _
    rw[Du,Ls hk1,mc e',Bool.not_not];refine ite2 (λy=>?_) (λy=>?_)
    .refine #[_,rfl,_,rfl,_,_,_,k,rfl,rfl,sb _ _ h7,iK (by rw[ai,km];exact hkl),?_];have same:∀ b o,b≠F->H8 b=some o->upd H8 F (.lst ((.(v).map V.bl).set k (.bl true))) b=some o:=λb o n e=>by
      rw[aj n];exact e
     refine #[_,rfl,?_,same _ _ .(ua) (sb _ _ h7c),same _ _ (bt (tD (sb _ _ h7) (sb _ _ h7t))) (sb _ _ h7t),λb o n e=>same _ _ n (kb b o n e)]
     .rw[ag,Lv hml hkl #[hk1,e',y],jI]
     .exact nFc z
    .exact #[_,rfl,by rw[Dx hml hkl (λz=>y z.2)];exact sb _ _ h7,sb _ _ h7c,sb _ _ h7t,kb]
   .have e':cs.getD k 0≠sh:=λz=>e (by rw[z];exact aV rfl);refine iteF ?_;exact #[_,rfl,by rw[Dx hml hkl (λz=>e' z.1)];exact h7,h7c,h7t,k7]
  .rintro U H7 ⟨x4,rfl,h7,h7c,h7t,k7⟩;rw[C4 hml .(a)]at h7;exact #[_,_,rfl,h7,h7c,h7t,k7]
 .rintro U H6 ⟨x3,x4,rfl,h6,_,_,k6⟩;refine .(A);refine q F H6 hF0 (λb o e=>k6 b o (aw e hF0) e) ?_;rw[fin];exact h6
def Lx {α:Type}:ck ([]:List α) []=[]:=rfl
def Ly {ms:List Bool}{i:Nat}{x:V}(h:(ms.map V.bl)[i]?=some x):∃ hi:i<ms.length,x=.bl ms[i]:=by
 rw[aZ]at h;cases e:ms[i]? with
 | none=>rw[e]at h;cases h
 | some y=>
  rw[e]at h;obtain ⟨hi,rfl⟩:=aT.mp e;exact #[hi,(aJ h).symm]
def tG {α:Type}{l:List α}{i:Nat}(h:i<l.length):l.take (i+1)=l.take i++[l[i]]:=cG h
def Lz (T:Txt K mg)(yJ:DF K mg "handed" pN mX)(O3:FC P w K mg base 5 "marks" rg (nA K)):FC P w K mg base 6 "handed" mX (tm K):=by
 refine yJ.ok JM .(c) .(b)
 .obtain ⟨a,ws,es,rfl,_⟩:=h;rfl
 obtain ⟨a,ws,es,rfl,ha,hw,hz,he,hri,q⟩:=h;have hwl:=hw.length;have hml:=gX es;refine #[_,(au (aK (fM (N:=["entry","mark"]) (own:=2) (cap:=[]) rfl (vk rfl T.yr (aa (pv 0) (aa (aG O3 hr (aa (pv 0) ae)) ae))) #[rfl,rfl,rfl,rfl,rfl,rfl] (λ_ _ _ _ _=>(Ib (K:=K) (n:=2) rfl (dF (aO (i:=0) (show List.Nodup (["entry","mark"]:List Str) by decide +kernel) rfl (av rfl)) (dF (aO (i:=1) (show List.Nodup (["entry","mark"]:List Str) by decide +kernel) rfl (av rfl)) iX)))) (λ_ _ _ _ _=>(gP (cL (pv 1)))) (λ_ _ _ _ _=>(pv 0))))),?_];refine #[_,rfl,_,rfl,a,ws,es,rfl,ha,hw,hz,he,hri,λu H6 hu g6 h6u=>?_];have h6p:=g6 _ _ ha;generalize cm es=ms at hml h6u q;refine #[a,u,rfl,#[_,SqL.of h6p],#[_,SqL.of h6u],λD hD=>?_];refine Ic (xs:=ws) (ys:=ms.map V.bl) (by rw[ai,hml];exact hwl.symm) (λj U H7=>∃ x0 x1:Option V,U=[x0,x1]/\H7 D=some (.lst (ck (ws.take j) (ms.take j)))/\But D H6 H7) ?_ ?_ ?_ ?_
 .exact #[_,_,rfl,by rw[md,md,Lx];exact ag,λb o n e=>by rw[aj n];exact e]
 .rintro j U H7 _ ⟨x0,x1,rfl,_,k7⟩;exact #[k7.sq (SqL.of h6p) hD,k7.sq (SqL.of h6u) hD]
 .rintro j m' x y U H7 r' hx hy hm' ⟨x0,x1,rfl,h7,k7⟩ hr';obtain ⟨hj,rfl⟩:=Ly hy;obtain ⟨hjw,rfl⟩:=aT.mp hx;have hsn:=wU (a:=ws[j]) (b:=ms[j]) (show (ws.take j).length=(ms.take j).length by rw[bu,bu];lia);rw[<-tG hjw,<-tG hj]at hsn;refine #[r',_,rfl,SqT.of ag,rfl,_,_,rfl,_,_,rfl,rfl,?_];have s7:=az hr' (.tup [ws[j],.bl ms[j]]);have h8:=s7 _ _ h7;have k8:=k7.new hr' (.tup [ws[j],.bl ms[j]]);generalize upd H7 r' (.tup [ws[j],.bl ms[j]])=H8 at h8 k8 ⊢;refine #[_,rfl,_,rfl,?_];have hl8:=Dw (ws.take j) (ms.take j);rw[bu]at hl8;refine ite2 (λe=>?_) (λe=>?_)
  .refine #[_,rfl,_,h8,bh .(a),m'-1,by lia,by lia,_,_,rfl,?_,λb o n e=>by rw[aj n];exact k8 b o n e];rw[ag,hsn,ak e]
  .refine #[m'-1,by lia,by lia,_,_,rfl,?_,k8];rw[h8,hsn,ao e,bQ]
 .rintro U H7 ⟨x0,x1,rfl,h7,k7⟩;rw[bG (aq _),bG .(a)]at h7;have s7:Same H6 H7:=λb o e=>k7 b o (aw e hD) e;exact q D H7 (g6.free hD) (g6.trans s7) h7
def Dy {v:Nat}{xs:List Nat}{k:Nat}:((List.range (k+1)).filter λk=>decide (xs.getD k 0=v))=((List.range k).filter λk=>decide (xs.getD k 0=v))++(if xs.getD k 0=v then [k] else []):=by
 rw[iT,dg];congr 1;by_cases h:xs.getD k 0=v
 .rw[ak h,dE (by exact aV h)];rfl
 .rw[ao h,fE (by rw[bx h];decide)];rfl
def LA (T:Txt K mg)(yK:DF K mg "_law_colours" qw rY):FC P w K mg base 1 "_law_colours" rY (ny K):=by
 refine yK.ok lA .(c) .(b)
 .obtain ⟨a,xs,rfl,_⟩:=h;rfl
 obtain ⟨a,xs,rfl,hS,hu,hb,hz,q⟩:=h;refine #[_,(aB (aI (i:=1) lA.nd rfl (gh rfl) (dI (ph (K:=K)) rfl T.g9 boot_list (aa (pv 0) ae)))
   (aB (bU PassesOwn.never rfl (gx (cE (aa ah (aa ah (aa ah ae))))) (aO (i:=2) lA.nd rfl (gh rfl)) (aB (jd (i:=3) (N:=["_law_k","_law_found_here","_law_high"]) (own:=1) (cap:=[1,2]) lA.nd rfl rfl rfl (fb rfl T.de (aa (aN (bF (K:=K)) rfl T.bD bz (aa (pv 1) ae)) ae)) #[rfl,rfl,rfl,rfl,rfl,rfl] (λ_ _ _ _ _=>(aO (i:=0) (show List.Nodup (["_law_k","_law_found_here","_law_high"]:List Str) by decide +kernel) rfl (av rfl))) (λ_ _ _ _ _=>(gP (aW dH (aH (bg (K:=K)) (pv 1) (pv 0) (λ_ _=>rfl)) (pv 2) (bf _)))) (λ_ _ _ _ _=>(pv 0)))
   (au (bU PassesOwn.never rfl (dW (pv 3)) (aO (i:=4) lA.nd rfl (av rfl)) (aB (aI (i:=5) lA.nd rfl (gh rfl) (aC i5 (fI (jS (K:=K)) (pv 1) (dr (aN (oN rfl) rfl T.uk boot_max (aa ah (aa (aC c6 (pv 4) ah) ae)))) (dr (pv 4))) (fI (jS (K:=K)) (pv 1) (dr (aC bY (pv 4) ah)) (dr (aC bY (pv 4) ah)))))
   (au (gr (aH (bg (K:=K)) (fM (N:=["_law_colour","_law_beside"]) (own:=1) (cap:=[5]) rfl (fb rfl T.de (aa ah ae)) #[rfl,rfl,rfl,rfl,rfl,rfl] (λ_ _ _ _ _=>(aO (i:=0) (show List.Nodup (["_law_colour","_law_beside"]:List Str) by decide +kernel) rfl (av rfl))) (λ_ _ _ _ _=>(gP (aW (la (K:=K)) (pv 0) (pv 1) (by with_unfolding_all rfl)))) (λ_ _ _ _ _=>(pv 0))) ah (λ_ _=>rfl)) (iw (pv 1) (pv 4) iz))))))))
   (au (aK (pv 1))))),?_]
 refine #[_,rfl,a,_,rfl,.inl hS,λp hp=>?_];have k0:But p H (upd H p (.lst .(Q))):=λb o n e=>by rw[aj n];exact e
 refine #[.(Z),λt ht=>?_];have npt:p≠t:=aw ag ht;refine #[t,rfl,#[_,SqT.of ag],?_];refine mx (xs:=[V.int 3,V.int 4,V.int 5]) (λi U H2=>∃ x2 x3 x4 x5:Option V,U=[some (.ref a),some (.ref p),x2,x3,x4,x5]/\H2 p=some (.lst ((colN xs i).map nV))/\H2 t=some (.tup [V.int 3,V.int 4,V.int 5])/\But p H H2) ?_ ?_ ?_ ?_
 .exact #[_,_,_,_,rfl,by rw[aj npt];exact ag,ag,k0.new ht _]
 .rintro i U H2 _ ⟨x2,x3,x4,x5,rfl,_,h2t,_⟩;exact SqT.of h2t
 .rintro i x U H2 hx ⟨x2,x3,x4,x5,rfl,h2,h2t,k2⟩;obtain ⟨hi,rfl⟩:i<3/\x=V.int ((3+i:Nat):Int):=by
   rcases i with _|_|_|i
   .exact .(s)
   .exact .(s)
   .exact .(s)
   .cases hx
  have hyl:=C6 xs i;have hyu:=C7 hu i;have hnx:colN xs (i+1)=recL (3+i) (colN xs i):=rfl;rw[hnx];generalize colN xs i=ys at h2 hyl hyu ⊢;generalize 3+i=v;refine #[_,rfl,_,_,rfl,.inl (SqL.of h2),_,rfl,by rw[ai];lia,by rw[ai];lia,λD hD=>?_];have el:((((ys.map nV).length:Nat):Int)).toNat=ys.length:=by rw[ai,fU]
  rw[el];refine kZ (n:=ys.length) (λk U H3=>∃ x0:Option V,U=[x0,some (.ref p),some (.int v)]/\H3 D=some (.lst (((List.range k).filter λk=>decide (ys.getD k 0=v)).map nV))/\But D H2 H3) ?_ ?_ ?_
  .exact .(m)
  .rintro k m U H3 hm hk ⟨x0,rfl,h3,k3⟩;have h3p:H3 p=some (.lst (ys.map nV)):=k3 _ _ (aw h2 hD) h2;have hat:atI (ys.map nV) (0+(k:Int))=some (nV (ys.getD k 0)):=by
    rw[gk];exact gW hk
   have hlen:=eX (λk=>decide (ys.getD k 0=v)) (List.range k);rw[d9]at hlen;refine #[_,rfl,_,rfl,_,_,_,_,rfl,rfl,SqL.of h3p,hat,_,rfl,rfl,_,rfl,?_];refine ite2 .(t) .(t)
   .have c':ys.getD k 0=v:=by
     have:=V.int.inj (bO c);lia
    refine #[_,rfl,_,h3,bh .(y),m-1,by lia,by lia,_,rfl,?_,λb o n e=>by rw[aj n];exact k3 b o n e];rw[ag,Dy,ak c',bw,gk];rfl
   .have c':ys.getD k 0≠v:=λz=>c (by rw[z];exact aV rfl);refine #[m-1,by lia,by lia,_,rfl,?_,k3];rw[h3,Dy,ao c',bQ]
  .rintro U H3 ⟨x0,rfl,h3,k3⟩;have h3:H3 D=some (.lst ((atsL v ys).map nV)):=h3;have h3p:H3 p=some (.lst (ys.map nV)):=k3 _ _ (aw h2 hD) h2;have h3t:=k3 _ _ (aw h2t hD) h2t;have kk3:But p H H3:=λb o n e=>k3 b o (aw (k2 b o n e) hD) (k2 b o n e);have npD:p≠D:=aw h2 hD;have A:=nj v ys;refine #[_,rfl,D,rfl,#[_,SqL.of h3],?_];refine iZ (xs:=(atsL v ys).map nV) (λj U H4=>∃ x4 x5:Option V,U=[some (.ref a),some (.ref p),some (.int v),some (.ref D),x4,x5]/\H4 p=some (.lst ((mixL v ys ((atsL v ys).getD j ys.length)).map nV))/\H4 D=some (.lst ((atsL v ys).map nV))/\H4 t=some (.tup [V.int 3,V.int 4,V.int 5])/\But p H H4) ?_ ?_ ?_ ?_
   .exact #[_,_,rfl,by rw[KG];exact h3p,h3,h3t,kk3]
   .rintro j U H4 _ ⟨x4,x5,rfl,_,h4D,_⟩;exact SqL.of h4D
   .rintro j x U H4 hx ⟨x4,x5,rfl,h4,h4D,h4t,k4⟩;obtain ⟨hj,rfl⟩:=lJ hx;have eg:(atsL v ys).getD j 0=(atsL v ys)[j]:=by
     rw[aF,aA hj];rfl
    have eg2:(atsL v ys).getD j ys.length=(atsL v ys)[j]:=by
     rw[aF,aA hj];rfl
    obtain ⟨g1,g2⟩:=A.get hj;have nx:=KH hj;rw[eg2]at h4;rw[eg];generalize (atsL v ys)[j]=k at h4 g1 g2 nx ⊢;have g2:ys.getD k 0=v:=bO g2;have hb2:=CZ hyu g1 g2;have ml:=wB v ys k;refine Lj (k:=k) rfl rfl rfl h4 λg H5 hg s5 h5=>?_;rw[hb2]at h5;have h5p:=s5 _ _ h4;have npg:p≠g:=aw h4 hg;refine #[3,rfl,by decide,by decide,λD2 hD2=>?_];refine kZ (n:=3) (λc U H6=>∃ x0:Option V,U=[x0,some (.ref g)]/\H6 D2=some (.lst (((List.range c).filter λc=>!decide (c∈cb ys k)).map nV))/\But D2 H5 H6) ?_ ?_ ?_
    .exact .(m)
    .rintro c m U H6 hm hc ⟨x0,rfl,h6,k6⟩;have h6g:=k6 _ _ (aw h5 hD2) h5;have hlen:=eX (λc=>!decide (c∈cb ys k)) (List.range c);rw[d9]at hlen;refine #[_,rfl,_,rfl,_,_,rfl,.inl (SqL.of h6g),rfl,wI _,_,rfl,?_];show if (!inV (.int (0+(c:Int))) ((cb ys k).map nV))=true then _ else _
     rw[gk,wJ];refine ite2 (λe=>?_) (λe=>?_)
     .have e':c∉cb ys k:=λz=>by
       rw[aV z]at e;cases e
      refine #[_,rfl,_,h6,bh .(y),m-1,by lia,by lia,_,rfl,?_,λb o n e=>by rw[aj n];exact k6 b o n e];rw[ag,tu,ao e',bw];rfl
     .have e':c∈cb ys k:=jx λz=>e (by rw[bx z];rfl);refine #[m-1,by lia,by lia,_,rfl,?_,k6];rw[h6,tu,ak e',bQ]
    .rintro U H6 ⟨x0,rfl,h6,k6⟩;have h6p:=k6 _ _ (aw h5p hD2) h5p;have hff:=Kw (xs:=ys) (k:=k);have hat0:atI (((List.range 3).filter λc=>!decide (c∈cb ys k)).map nV) 0=some (nV (eA ys k)):=by
      rw[show (0:Int)=((0:Nat):Int) from rfl];refine c8 ?_;rw[aZ,<-List.head?_eq_getElem?,hff];rfl
     refine #[_,_,_,_,rfl,rfl,SqL.of h6,hat0,?_];refine #[_,rfl,_,rfl,_,_,_,k,rfl,rfl,h6p,iK (by rw[ai,ml];exact g1),?_];have same:∀ b o,b≠p->H4 b=some o->upd H6 p (.lst (((mixL v ys k).map nV).set k (nV (eA ys k)))) b=some o:=λb o n e=>by
      rw[aj n];exact k6 _ _ (aw (s5 _ _ e) hD2) (s5 _ _ e)
     refine #[_,_,rfl,?_,same _ _ (bt npD) h4D,same _ _ (bt (tD h4 h4t)) h4t,λb o n e=>same _ _ n (k4 b o n e)];rw[ag,nx,jI]
   .rintro U H4 ⟨x4,x5,rfl,h4,h4D,h4t,k4⟩;rw[ai,KI]at h4;exact #[_,_,_,_,rfl,h4,h4t,k4]
 .rintro U H2 ⟨x2,x3,x4,x5,rfl,h2,_,k2⟩;refine .(A);exact q p H2 hp (λb o e=>k2 b o (aw e hp) e) h2
def LB (T:Txt K mg)(yL:DF K mg "_law_marks" qx rZ)(O4:FC P w K mg base 1 "_law_code" rW (nu K))(O7:FC P w K mg base 1 "_law_turned" rX (nv K))(O8:FC P w K mg base 1 "_law_colours" rY (ny K)):FC P w K mg base 2 "_law_marks" rZ (nA K):=by
 refine yL.ok ji .(c) .(b)
 .obtain ⟨a,ws,es,rfl,_⟩:=h;rfl
 obtain ⟨a,ws,es,rfl,ha,hw,hz,he,hri,q⟩:=h;have hlen:=hw.length;refine #[_,(aB (jd (i:=1) (N:=["_law_entry"]) (own:=1) (cap:=[]) ji.nd rfl rfl rfl (dW (pv 0)) #[rfl,rfl,rfl,rfl,rfl,rfl] (λ_ _ _ _ _=>(aO (i:=0) (show List.Nodup (["_law_entry"]:List Str) by decide +kernel) rfl (av rfl))) (λ_ _ _ _ _=>fY) (λ_ _ _ _ _=>(aG O4 hr (aa (pv 0) ae))))
   (aB (bU PassesOwn.never rfl (fb rfl T.de (aa ah ae)) (aO (i:=2) ji.nd rfl (av rfl)) (au (aI (i:=1) ji.nd rfl (av rfl) (aG O7 hr (aa (pv 1) ae)))))
   (aB (aI (i:=3) ji.nd rfl (av rfl) (aG O8 hr (aa (pv 1) ae)))
   (aB (jd (i:=4) (N:=["_law_entry"]) (own:=1) (cap:=[]) ji.nd rfl rfl rfl (dW (pv 0)) #[rfl,rfl,rfl,rfl,rfl,rfl] (λ_ _ _ _ _=>(aO (i:=0) (show List.Nodup (["_law_entry"]:List Str) by decide +kernel) rfl (av rfl))) (λ_ _ _ _ _=>fY) (λ_ _ _ _ _=>cZ))
   (aB (bU PassesOwn.never rfl (gx (cE (aa ah (aa ah (aa ah ae))))) (aO (i:=5) ji.nd rfl (av rfl)) (au (bU PassesOwn.never rfl (kM rfl T.de (aa ah (aa (aN (bF (K:=K)) rfl T.bD bz (aa (pv 0) ae)) ae))) (aO (i:=2) ji.nd rfl (av rfl)) (au (bq (PW.pt (iW (aW dH (aH (bg (K:=K)) (pv 3) (pv 2) (λ_ _=>rfl)) (pv 5) (bf _)) (iV (aW (la (K:=K)) cZ (fI (jS (K:=K)) (pv 4) (dr (aC c6 (pv 2) ah)) (dr (aC bY (pv 2) ah))) (by with_unfolding_all rfl))))) (au (gr cZ (iw (pv 4) (pv 2) iz))) bE)))))
   (au (aK (pv 4)))))))),?_]
 refine #[_,rfl,a,rfl,#[_,SqL.of ha],λD hD=>?_];have k0:But D H (upd H D .(V)):=λb o n e=>by rw[aj n];exact e
 refine iC (xs:=ws) (λi U H2=>∃ x0:Option V,U=[x0]/\H2 D=some (.lst (((cF es).take i).map nV))/\But D H H2) ?_ ?_ ?_ ?_
 .exact #[_,rfl,ag,k0]
 .rintro i U H2 _ ⟨x0,rfl,_,k2⟩;exact k2.sq (SqL.of ha) hD
 .rintro i m x U H2 hx hm ⟨x0,rfl,h2,k2⟩;obtain ⟨hi,hhas⟩:=Dp hD hw hx k2;refine fN ?_;refine #[_,rfl,x,es[i],rfl,hhas,?_];refine #[_,h2,bh (by rw[ai,bu,fq];lia),m-1,by lia,by lia,_,rfl,?_,λb o n e=>by rw[aj n];exact k2 b o n e];rw[ag,Do hi,bw,<-nr (he _ (cC hi))];rfl
 rintro U H2 ⟨x0,rfl,h2,k2⟩;have e0:H2 D=some (.lst ((cF es).map nV)):=by
  rw[h2,bG (by rw[fq];lia)]
 have same0:Same H H2:=λb o e=>k2 b o (aw e hD) e;refine #[5,rfl,by decide,by decide,?_];refine fc (n:=5) (λi U H3=>∃(p:Addr) (x2:Option V),U=[some (.ref a),some (.ref p),x2,none,none,none]/\Same H H3/\H3 p=some (.lst ((cR i (cF es)).map nV))) ?_ ?_ ?_
 .exact #[D,_,rfl,same0,e0]
 .rintro i U H3 hi ⟨p,x2,rfl,s3,h3⟩;refine #[_,rfl,p,_,rfl,SqL.of h3,j3 (tj he hri) i,by rw[jZ,fq];exact hz,λp4 H4 hp4 s4 h4=>?_];exact #[p4,_,rfl,s3.trans s4,h4]
 rintro U H3 ⟨p,x2,rfl,s3,h3⟩;refine #[_,rfl,p,_,rfl,SqL.of h3,nz he hri,wO he hri,by rw[jZ,fq];exact hz,λc H4 hc s4 h4=>?_];have cu:Unl (colL (cR 5 (cF es))):=wj (wt (unlZ (nz he hri)));have cl:(colL (cR 5 (cF es))).length=es.length:=by rw[wq,jZ,fq]
 have fin:cm es=mkN (colL (cR 5 (cF es))) 3:=(C8 _).symm;generalize colL (cR 5 (cF es))=cs at h4 cu cl fin;have s04:=s3.trans s4;have h4a:=s04 _ _ ha;refine #[_,rfl,a,rfl,#[_,SqL.of h4a],λF hF=>?_];refine iC (xs:=ws) (λi U H5=>∃ x0:Option V,U=[x0]/\H5 F=some (.lst ((List.replicate i false).map V.bl))/\But F H4 H5) ?_ ?_ ?_ ?_
 .exact .(m)
 .rintro i U H5 _ ⟨x0,rfl,_,k5⟩;exact k5.sq (SqL.of h4a) hF
 .rintro i m x U H5 hx hm ⟨x0,rfl,h5,k5⟩;have hi:=(aT.mp hx).1;refine fN ?_;refine #[_,h5,bh (by rw[ai,jC];lia),m-1,by lia,by lia,_,rfl,?_,λb o n e=>by rw[aj n];exact k5 b o n e];rw[ag,List.replicate_succ',bw];rfl
 rintro U H5 ⟨x0,rfl,h5,k5⟩;have s45:Same H4 H5:=λb o e=>k5 b o (aw e hF) e;have h5c:=s45 _ _ h4;have h5a:=s45 _ _ h4a;have nFc:c≠F:=aw h4 hF;have hF0:H F=none:=s04.free hF;have k05:But F H H5:=λb o _ e=>s45 _ _ (s04 _ _ e);have e5:H5 F=some (.lst ((mkN cs 0).map V.bl)):=by
  rw[h5,mkN,show List.replicate ws.length false=cs.map (λ_=>false) from by rw[List.map_const',cl,hlen]]
 refine #[.(Z),λt ht=>?_];have st:=az ht (.tup [V.int 2,V.int 1,V.int 0]);refine #[t,rfl,#[_,SqT.of ag],?_];refine mx (xs:=[V.int 2,V.int 1,V.int 0]) (λi U H6=>∃(x1 x2 x5:Option V),U=[some (.ref a),x1,x2,some (.ref c),some (.ref F),x5]/\H6 F=some (.lst ((mkN cs i).map V.bl))/\H6 c=some (.lst (cs.map nV))/\H6 t=some (.tup [V.int 2,V.int 1,V.int 0])/\But F H H6) ?_ ?_ ?_ ?_
 .exact #[_,_,_,rfl,st _ _ e5,st _ _ h5c,ag,k05.new ht _]
 .rintro i U H6 _ ⟨x1,x2,x5,rfl,_,_,h6t,_⟩;exact SqT.of h6t
 .rintro i x U H6 hx ⟨x1,x2,x5,rfl,h6,h6c,h6t,k6⟩;obtain ⟨hi,rfl⟩:i<3/\x=V.int ((2-i:Nat):Int):=by
   rcases i with _|_|_|i
   .exact .(s)
   .exact .(s)
   .exact .(s)
   .cases hx
  have hml:=C9 cs i;have hnx:mkN cs (i+1)=dY (2-i) cs (mkN cs i):=rfl;rw[hnx];generalize mkN cs i=ms at h6 hml ⊢;generalize 2-i=sh;have h6a:=k6 _ _ (aw ha hF0) ha;refine #[_,rfl,_,_,rfl,.inl (SqL.of h6a),1,_,rfl,#[by lia,by lia,by lia,by lia],?_];have en:(((ws.length:Nat):Int)-1).toNat=cs.length-1:=by lia
  rw[en];have km:∀ k,.(v).length=cs.length:=sV hml;refine fc (n:=cs.length-1) (λj U H7=>∃(x2:Option V),U=[some (.ref a),x1,x2,some (.ref c),some (.ref F),some (.int sh)]/\H7 F=some (.lst ((mixM sh cs ms (1+j)).map V.bl))/\H7 c=some (.lst (cs.map nV))/\H7 t=some (.tup [V.int 2,V.int 1,V.int 0])/\But F H H7) ?_ ?_ ?_
  .exact #[_,rfl,by rw[Da hml];exact h6,h6c,h6t,k6]
  .rintro j U H7 hj ⟨x2,rfl,h7,h7c,h7t,k7⟩;have ek:(1:Int)+(j:Int)=((1+j:Nat):Int):=by lia
   have hk1:1<=1+j:=by lia
   have hkl:1+j<cs.length:=by lia
   rw[ek];have es1:1+(j+1)=1+j+1:=by lia
   rw[es1];generalize 1+j=k at h7 hk1 hkl ⊢;have hat:=gW (xs:=cs) hkl;have mc:cs.getD k 0=sh->gC .(v) k=gC ms k:=λz=>KC cu hml hkl hk1 z;refine #[_,rfl,_,rfl,_,_,_,_,rfl,rfl,SqL.of h7c,hat,_,rfl,rfl,_,rfl,?_];refine ite2 (λe=>?_) (λe=>?_)
   .have e':cs.getD k 0=sh:=by
     have:=V.int.inj (bO e);lia
    refine #[_,rfl,_,rfl,_,_,rfl,rfl,_,rfl,_,rfl,_,_,rfl,rfl,_,rfl,_,_,rfl,SqL.of h7,λb hb=>?_];have sb:=az hb (.lst (cutV (.(v).map V.bl) (some ((k:Int)-1)) .(ra)));have hbb:upd H7 b (.lst (cutV (.(v).map V.bl) (some ((k:Int)-1)) .(ra))) b=some (.lst (((.(v).drop (k-1)).take 3).map V.bl)):=by
     rw[ag,Ll hk1 rfl rfl]
    have kb:=k7.new hb (.lst (cutV (.(v).map V.bl) (some ((k:Int)-1)) .(ra)));generalize upd H7 b (.lst (cutV (.(v).map V.bl) (some ((k:Int)-1)) .(ra)))=H8 at sb hbb kb ⊢;refine #[_,_,rfl,.inl (SqL.of hbb),rfl,Dv _,_,rfl,?_];show if (!inV (.bl true) (((.(v).drop (k-1)).take 3).map V.bl))=true then _ else _
    rw[Du,any3 _ hk1,mc e',Bool.not_not];refine ite2 (λy=>?_) (λy=>?_)
    .refine #[_,rfl,_,rfl,_,_,_,k,rfl,rfl,sb _ _ h7,iK (by rw[ai,km];exact hkl),?_];have same:∀ b o,b≠F->H8 b=some o->upd H8 F (.lst ((.(v).map V.bl).set k (.bl true))) b=some o:=λb o n e=>by
      rw[aj n];exact e
     refine #[_,rfl,?_,same _ _ .(ua) (sb _ _ h7c),same _ _ (bt (tD (sb _ _ h7) (sb _ _ h7t))) (sb _ _ h7t),λb o n e=>same _ _ n (kb b o n e)]
     .rw[ag,KD hml hkl #[hk1,e',y],jI]
     .exact nFc z
    .exact #[_,rfl,by rw[wC hml hkl (λz=>y z.2.2)];exact sb _ _ h7,sb _ _ h7c,sb _ _ h7t,kb]
   .have e':cs.getD k 0≠sh:=λz=>e (by rw[z];exact aV rfl);refine iteF ?_;exact #[_,rfl,by rw[wC hml hkl (λz=>e' z.2.1)];exact h7,h7c,h7t,k7]
  .rintro U H7 ⟨x2,rfl,h7,h7c,h7t,k7⟩;rw[C4 hml .(a)]at h7;exact #[_,_,_,rfl,h7,h7c,h7t,k7]
 .rintro U H6 ⟨x1,x2,x5,rfl,h6,_,_,k6⟩;refine .(A);refine q F H6 hF0 (λb o e=>k6 b o (aw e hF0) e) ?_;rw[fin];exact h6
set_option maxHeartbeats 1000000 in
def dj {K:Frag}{H:Hp}{q:Addr}{zs:List V}(hq:H q=some (.lst zs)){es:List (Int×Int)}{ws:List V}(h:aD K H es ws):aD K (upd H q o) es ws:=pImp (λ_ _ h=>by
  obtain ⟨a,x1,x2,rfl,hT,e1,e2⟩:=(show hasP K H _ _ from h);exact #[a,x1,x2,rfl,by rw[aj (zV hT hq (by intro z;cases z))];exact hT,e1,e2]) h
def Own (K:Frag)(H:Hp):List Addr->List (List (Int×Int))->Prop:=Paired λq l=>∃ ws,H q=some (.lst ws)/\aD K H l ws
section
variable {K:Frag}{H H':Hp}
def Own.length {qs:List Addr}{ls:List (List (Int×Int))}(h:Own K H qs ls):qs.length=ls.length:=Paired.length h
def Own.ext (e:Ext H H'){qs:List Addr}{ls:List (List (Int×Int))}(h:Own K H qs ls):Own K H' qs ls:=pImp (λ_ _ h=>by
 obtain ⟨ws,h1,h2⟩:=h;exact #[ws,e _ _ h1 nofun,aD.mono e h2]) h
def Own.get:∀{qs:List Addr} {ls:List (List (Int×Int))} {i:Nat} {x:V},Own K H qs ls->(qs.map V.ref)[i]?=some x->∃ q l ws,qs[i]?=some q/\x=.ref q/\ls[i]?=some l/\H q=some (.lst ws)/\aD K H l ws
 | _,_,_,_,.nil,e=>by simp at e
 | _,_,0,_,.cons ⟨ws,h1,h2⟩ _,e=>by
  simp at e;exact #[_,_,ws,rfl,e.symm,rfl,h1,h2]
 | _,_,i+1,x,.cons _ t,e=>by
  obtain ⟨q,l,ws,h1,h2,h3,h4,h5⟩:=Own.get (i:=i) (x:=x) t (by simpa using e);exact #[q,l,ws,by simpa using h1,h2,by simpa using h3,h4,h5]
def Own.append {qs qs':List Addr}{ls ls':List (List (Int×Int))}(h:Own K H qs ls)(g:Own K H qs' ls'):Own K H (qs++qs') (ls++ls'):=pApp h g
def Own.other {q:Addr}{zs:List V}(hq:H q=some (.lst zs)){qs:List Addr}{ls:List (List (Int×Int))}(h:Own K H qs ls)(hn:q∉qs):Own K (upd H q o) qs ls:=by
 unfold Own at h
 induction h with
 | nil=>exact .nil
 | cons h _ ih=>
  obtain ⟨ws,h1,h2⟩:=h;rw[aU,not_or]at hn;exact .cons #[ws,by rw[aj (bt hn.1)];exact h1,dj hq h2] (ih hn.2)
end
def Dz {ls:List (List (Int×Int))}{i:Nat}{l:List (Int×Int)}(h:ls[i]?=some l):(ls.take (i+1)).flatten=(ls.take i).flatten++l:=by
 have hi:=(aT.mp h).1;rw[cG hi,oB,(aT.mp h).2];simp
def LC {ls:List (List (Int×Int))}(i:Nat):(ls.take i).flatten.length<=ls.flatten.length:=by
 have e:ls.flatten=(ls.take i).flatten++(ls.drop i).flatten:=by rw[<-oB,eY]
 rw[e,aS];lia
inductive tH (K:Frag)(vs:List V)(H:Hp)(Q:VK)(w_1:XK):Prop
 | c:∀(a:Addr) (qs:List Addr) (ls:List (List (Int×Int))),vs=[.ref a]->H a=some (.lst (qs.map V.ref))->Own K H qs ls->ls.flatten.length<=63->(∀(p:Addr) (ws:List V) (H':Hp),H p=none->Same H H'->H' p=some (.lst ws)->aD K H' (cT ls.flatten) ws->Q (.ref p) H')->tH K vs H Q w_1
def LD (T:Txt K mg)(yM:DF K mg "joined_up" pF mV):FC P w K mg base 1 "joined_up" mV (tH K):=by
 refine yM.ok vQ .(c) .(b)
 .obtain ⟨a,qs,ls,rfl,_⟩:=h;rfl
 obtain ⟨a,qs,ls,rfl,ha,ho,hz,q⟩:=h;have hll:=ho.length;refine #[_,(aB (aI (i:=1) vQ.nd rfl (av rfl) (bN ae))
   (aB (bU PassesOwn.never rfl (dW (pv 0)) (aO (i:=2) vQ.nd rfl (av rfl)) (au (cM (dJ F.plainAttrs_list F.slot_list_extend F.type_list_extend GA (pv 1) (aa (pv 2) ae)))))
   (au (aK (aN (px (Int×Int)) rfl T.lY boot_sorted (aa (pv 1) ae)))))),?_]
 refine #[.(B),λt ht=>?_];have k0:But t H (upd H t .(V)):=λb o n e=>by rw[aj n];exact e
 refine #[_,rfl,a,rfl,#[_,SqL.of (k0 _ _ (aw ha ht) ha)],?_];refine iZ (xs:=qs.map V.ref) (λi U H2=>∃(zs:List V) (x2:Option V),U=[some (.ref a),some (.ref t),x2]/\H2 t=some (.lst zs)/\aD K H2 (ls.take i).flatten zs/\But t H H2/\Own K H2 qs ls) ?_ ?_ ?_ ?_
 .exact #[[],_,rfl,ag,.nil,k0,ho.ext (az ht _).ext]
 .rintro i U H2 _ ⟨zs,x2,rfl,h2,_,k2,_⟩;exact SqL.of (k2 _ _ (aw ha ht) ha)
 .rintro i x U H2 hx ⟨zs,x2,rfl,h2,hw,k2,o2⟩;obtain ⟨g,l,ws,e1,rfl,e3,e4,e5⟩:=o2.get hx;have hlen:zs.length+ws.length<=1000:=by
   have z1:=hw.length;have z2:=e5.length;have z3:=LC (ls:=ls) (i+1);rw[Dz e3,aS]at z3;lia
  have hgo:∀ b∈qs,b≠t:=λb hb z=>by
   obtain ⟨j,hj,rfl⟩:=cY hb;obtain ⟨_,_,ws0,f1,f2,_,f4,_⟩:=ho.get (i:=j) (x:=.ref qs[j]) (by rw[aZ,aA hj];rfl);cases f2
   rw[z,ht]at f4;cases f4
  refine #[_,rfl,.inl #[rfl,_,SqL.of h2],_,rfl,t,g,zs,ws,rfl,rfl,h2,e4,eS (bh hlen),?_];refine #[_,_,rfl,ag,?_,λb o n e=>by rw[aj n];exact k2 b o n e,o2.other h2 (λz=>hgo t z rfl)];rw[Dz e3];exact (dj h2 hw).append (dj h2 e5)
 .rintro U H2 ⟨zs,x2,rfl,h2,hw,k2,o2⟩;rw[bG .(y)]at hw;refine #[_,rfl,t,zs,_,rfl,SqL.of h2,hw,by lia,λl ws hl hs=>?_];have e2:=az hl (.lst ws);have s2:Same H H2:=λb o e=>k2 b o (aw e ht) e;exact q l ws _ (s2.free hl) (s2.trans e2) ag (aD.mono e2.ext hs)
def bS (ps:List Nat):List V:=.non::ps.map nV
def parV (ps:List Nat)(k:Nat):V:=match par ps k with
 | none=>.non
 | some p=>nV p
def cy (ps:List Nat):(bS ps).length=ps.length+1:=by
 unfold bS
 rw[dC,ai]
def jr {ps:List Nat}{k:Nat}(h:k<ps.length+1):atI (bS ps) (k:Int)=some (parV ps k):=by
 refine c8 ?_;unfold bS parV;cases k with
 | zero=>rfl
 | succ k=>
  show (ps.map nV)[k]?=some (match ps[k]? with|none=>_|some p=>nV p)
  rw[aZ,aA (show k<ps.length by lia)];rfl
def j4 {k p:Nat}(h:par ps k=some p):parV ps k=nV p:=by
 unfold parV;rw[h]
def tI {k:Nat}(h:par ps k=none):parV ps k=.non:=by
 unfold parV;rw[h]
def tJ {k m:Nat}:parV ps k=.int (m:Int)↔par ps k=some m:=by
 cases e:par ps k with
 | none=>
  rw[tI e];exact #[nofun,nofun]
 | some p=>
  rw[j4 e];constructor
  .intro z;have:=Int.ofNat.inj (V.int.inj z);rw[this]
  .intro z;rw[aJ z]
def wW (ps:List Nat)(k:Nat)(i:Int):scal (parV ps k) (.int i)=true:=by
 cases e:par ps k with
 | none=>rw[tI e];rfl
 | some p=>rw[j4 e];rfl
def But.new' {p b:Addr}(k:But p H H2)(hb:H2 b=none)(o:HO):But p H (upd H2 b o):=λx o' n e=>(az hb o) x o' (k x o' n e)
inductive wX (K:Frag)(vs:List V)(H:Hp)(Q:VK)(w_1:XK):Prop
 | c:∀(d L:Addr) (m:Int),vs=[.ref d,.int m]->(0<m/\m<=40)->LS K L d H->(∀(t:Addr) (ps:List Nat) (H':Hp),H t=none->aP ps->(ps.length:Int)<m->H' t=some (.tup (bS ps))->Keep d H H'->LS K L d H'->Q (.ref t) H')->wX K vs H Q w_1
def LF {u:Nat}(T:aP ps)(h:u<=ps.length):aP (ps++[u]):=by
 intro i hi;rw[aS,cS]at hi;by_cases c:i<ps.length
 .rw[List.getElem_append_left c];exact T i c
 .have:i=ps.length:=by lia
  subst this;rw[List.getElem_append_right (aq _)];simp;exact h
def LG (T:Txt K mg)(yN:DF K mg "_law_tree" ql rQ)(bV:FC P w K mg base 2 "_law_take" gA (gO K)):FC P w K mg base 3 "_law_tree" rQ (wX K):=by
 refine yN.ok qP .(c) .(b)
 .obtain ⟨d,L,m,rfl,_⟩:=h;rfl
 obtain ⟨d,L,m,rfl,⟨hm0,hm1⟩,hs,q⟩:=h;refine #[_,(aB (aI (i:=2) qP.nd rfl (av rfl) (aG bV hr (aa (pv 0) (aa ah ae))))
   (aB (aI (i:=3) qP.nd rfl (av rfl) (bN (aa jK ae)))
   (aB (bU PassesOwn.never rfl (kM rfl T.de (aa ah (aa (aC bY ah (aG bV hr (aa (pv 0) (aa (pv 1) ae)))) ae))) (aO (i:=4) qP.nd rfl (av rfl)) (au (cM (dJ F.plainAttrs_list F.slot_list_append F.type_list_append dM (pv 3) (aa (aH (bg (K:=K)) (bN (aa (aC c6 (pv 4) ah) (aa ah (aa (aG bV hr (aa (pv 0) (aa (pv 4) ae))) (aa (aN (oN rfl) rfl T.uk boot_max (aa ah (aa (aC c6 (aC c6 (pv 4) ah) (aG bV hr (aa (pv 0) (aa ah ae)))) ae))) ae))))) (pv 2) (λ_ _=>rfl)) ae)))))
   (au (aK (dI (gQ (K:=K)) rfl T.fB boot_tuple (aa (pv 3) ae))))))),?_]
 refine #[_,rfl,d,L,4,rfl,by decide,hs,λw1 H1 w0 w4 k1 s1=>?_];refine #[.(g),λp hp=>?_];have g0:=az hp (.lst [V.non]);have hpd:p≠d:=by
  obtain ⟨ns,a,l,e,_⟩:=s1.ex;exact bt (aw e hp)
 have hp0:H p=none:=by
  cases e:H p with
  | none=>rfl
  | some o=>
   have:=k1 p o hpd e;rw[hp]at this;cases this
 refine #[_,rfl,_,rfl,d,L,m,rfl,#[hm0,by lia],s1.same g0,λn H2 n0 n1 k2 s2=>#[_,_,rfl,rfl,1,_,rfl,#[by lia,by lia,by lia,by lia],?_]];have en:((1:Int)+n-1).toNat=n.toNat:=by lia
 rw[en];refine fc (n:=n.toNat) (λi U H3=>∃(ps:List Nat) (x4:Option V),U=[some (.ref d),some (.int m),some (.int w1),some (.ref p),x4]/\H3 p=some (.lst (bS ps))/\ps.length=i/\aP ps/\(∀ b o,b≠d->b≠p->H b=some o->H3 b=some o)/\LS K L d H3) ?_ ?_ ?_
 .exact #[[],_,rfl,k2 p _ hpd ag,rfl,λi hi=>absurd hi .(k),λb o n1 n2 e=>k2 b o n1 (g0 b o (k1 b o n1 e)),s2]
 .rintro i U H3 hi ⟨ps,x4,rfl,h3,rfl,hT,k3,s3⟩;have ek:(1:Int)+((ps.length:Nat):Int)=((ps.length+1:Nat):Int):=by lia
  rw[ek];refine #[_,rfl,.inl #[rfl,_,SqL.of h3],?_];refine #[_,rfl,_,_,rfl,rfl,_,rfl,_,rfl,d,L,_,rfl,.(ka),s3,λv1 H4 v10 v11 k4 s4=>?_];refine #[_,rfl,_,_,rfl,rfl,_,rfl,d,L,2,rfl,by decide,s4,λv2 H5 v20 v21 k5 s5=>#[_,_,rfl,rfl,_,_,rfl,(by show 4<=sizeLine;decide),λl hl=>?_]];have h4:=k4 p _ hpd h3;have h5:=k5 p _ hpd h4;obtain ⟨u,hat,hu⟩:∃ u:Nat,atI [V.int (((ps.length+1:Nat):Int)-1),V.int 0,V.int v1,V.int (if ((ps.length+1:Nat):Int)-1-v2>0 then ((ps.length+1:Nat):Int)-1-v2 else 0)] w1=some (nV u)/\u<=ps.length:=by
   have z:w1=0\/w1=1\/w1=2\/w1=3:=by lia
   rcases z with rfl|rfl|rfl|rfl
   .refine #[ps.length,?_,aq _];rw[show ((ps.length+1:Nat):Int)-1=((ps.length:Nat):Int) by lia];rfl
   .exact #[0,rfl,cv _]
   .obtain ⟨u,rfl⟩:=wH v10;exact #[u,rfl,by lia]
   .refine #[(if ((ps.length+1:Nat):Int)-1-v2>0 then ((ps.length+1:Nat):Int)-1-v2 else 0).toNat,?_,?_]
    .show some (V.int _)=some (V.int _);rw[Int.toNat_of_nonneg (by split<;>lia)]
    .split<;>lia
  refine #[_,rfl,_,_,_,_,rfl,rfl,SqL.of ag,hat,_,_,_,rfl,rfl,by rw[aj (aw h5 hl)];exact h5,bh (by rw[cy];lia),?_];refine #[ps++[u],_,rfl,?_,by rw[aS,cS],LF hT hu,λb o n1 n2 e=>?_,?_]
  .rw[ag];unfold bS
   rw[bw];rfl
  .rw[aj n2];have e5:=k5 b o n1 (k4 b o n1 (k3 b o n1 n2 e));exact (az hl _) _ _ e5
  .exact LS.put hs hp0 (λb o n1 n2 e=>(az hl _) _ _ (k5 b o n1 (k4 b o n1 (k3 b o n1 n2 e)))) (s5.of_new hl _)
 .rintro U H3 ⟨ps,x4,rfl,h3,hl,hT,k3,s3⟩;refine #[_,rfl,p,_,rfl,.inl #[SqL.of h3,λt ht=>?_]];have sn:=az ht (.tup (bS ps));have htp:t≠p:=bt (aw h3 ht);have ht0:H t=none:=by
   cases e:H t with
   | none=>rfl
   | some o=>
    have htd:t≠d:=by
     obtain ⟨ns,a,l,e,_⟩:=s3.ex;exact bt (aw e ht)
    have:=k3 t o htd htp e;rw[ht]at this;cases this
  exact q t ps _ ht0 hT .(a) ag (λb o n e=>sn _ _ (k3 b o n (aw e hp0) e)) (s3.of_new ht _)
inductive lK (K:Frag)(vs:List V)(H:Hp)(Q:VK)(w_1:XK):Prop
 | c:∀(t:Addr) (ps:List Nat) (k:Nat),vs=[.ref t,.int k]->H t=some (.tup (bS ps))->ps.length<=900->(∀(p:Addr) (H':Hp),H p=none->Same H H'->H' p=some (.lst ((bR ps k (ps.length+1)).map nV))->Q (.ref p) H')->lK K vs H Q w_1
def LH (T:Txt K mg)(yO:DF K mg "children" pR mY):FC P w K mg base 1 "children" mY (lK K):=by
 refine yO.ok JP .(c) .(b)
 .obtain ⟨t,ps,k,rfl,_⟩:=h;rfl
 obtain ⟨t,ps,k,rfl,ht,hz,q⟩:=h;refine #[_,(au (aK (fM (N:=["other","tree","knot"]) (own:=1) (cap:=[0,1]) rfl (fb rfl T.de (aa (aN (bF (K:=K)) rfl T.bD bz (aa (pv 0) ae)) ae)) #[rfl,rfl,rfl,rfl,rfl,rfl] (λ_ _ _ _ _=>(aO (i:=0) (show List.Nodup (["other","tree","knot"]:List Str) by decide +kernel) rfl (av rfl))) (λ_ _ _ _ _=>(gP (aW dH (aH (bA (K:=K)) (pv 1) (pv 0) .(ma)) (pv 2) (bf _)))) (λ_ _ _ _ _=>(pv 0))))),?_];refine #[_,rfl,_,_,rfl,.inr (SqT.of ht),_,rfl,by lia,by rw[cy];lia,λD hD=>?_];have el:((((bS ps).length:Nat):Int)).toNat=ps.length+1:=by rw[cy,fU]
 rw[el];refine kZ (n:=ps.length+1) (λj U H3=>∃ x0:Option V,U=[x0,some (.ref t),some (.int k)]/\H3 D=some (.lst ((bR ps k j).map nV))/\But D H H3) ?_ ?_ ?_
 .exact .(m)
 .rintro j m U H3 hm hj ⟨x0,rfl,h3,k3⟩;rw[gk];have h3t:=k3 _ _ (aw ht hD) ht;have hlen:=nk ps k j;refine #[_,rfl,_,rfl,_,_,_,_,rfl,rfl,SqT.of h3t,jr hj,_,rfl,wW _ _ _,_,rfl,?_];refine ite2 .(t) .(t)
  .have c':par ps j=some k:=tJ.mp (bO c);refine #[_,rfl,_,h3,bh .(y),m-1,by lia,by lia,_,rfl,?_,λb o n e=>by rw[aj n];exact k3 b o n e];rw[ag,sY,ak c',bw];rfl
  .have c':¬ par ps j=some k:=λz=>c (aV (tJ.mpr z));refine #[m-1,by lia,by lia,_,rfl,?_,k3];rw[h3,sY,ao c',bQ]
 .rintro U H3 ⟨x0,rfl,h3,k3⟩;exact q D H3 hD (λb o e=>k3 b o (aw e hD) e) h3
inductive wY (K:Frag)(vs:List V)(H:Hp)(Q:VK)(w_1:XK):Prop
 | c:∀(t:Addr) (ps:List Nat) (k:Nat),vs=[.ref t,.int k]->H t=some (.tup (bS ps))->aP ps->k<ps.length+1->ps.length<=900->(∀(p:Addr) (H':Hp),H p=none->Same H H'->H' p=some (.lst ((benL ps k (ps.length+1)).map nV))->Q (.ref p) H')->wY K vs H Q w_1
def LJ (T:Txt K mg)(yP:DF K mg "beneath" pS rl):FC P w K mg base 1 "beneath" rl (wY K):=by
 refine yP.ok vR .(c) .(b)
 .obtain ⟨t,ps,k,rfl,_⟩:=h;rfl
 obtain ⟨t,ps,k,rfl,ht,hT,hk,hz,q⟩:=h;refine #[_,(aB (aI (i:=2) vR.nd rfl (av rfl) (bN (aa (pv 1) ae)))
   (aB (bU PassesOwn.never rfl (kM rfl T.de (aa (aC bY (pv 1) ah) (aa (aN (bF (K:=K)) rfl T.bD bz (aa (pv 0) ae)) ae))) (aO (i:=3) vR.nd rfl (av rfl)) (au (bq (aW (BC (K:=K)) (aH (bA (K:=K)) (pv 0) (pv 3) (λ_ _=>rfl)) (pv 2) (by with_unfolding_all rfl)) (au (cM (dJ F.plainAttrs_list F.slot_list_append F.type_list_append dM (pv 2) (aa (pv 3) ae)))) bE)))
   (au (aK (pv 2))))),?_]
 refine #[_,rfl,.(g),λp hp=>?_];have k0:But p H (upd H p (.lst [.int (k:Int)])):=λb o n e=>by rw[aj n];exact e
 have ntp:t≠p:=aw ht hp;refine #[_,rfl,_,_,rfl,rfl,_,rfl,_,_,rfl,.inr (SqT.of (k0 _ _ ntp ht)),_,_,rfl,#[by lia,by lia,by lia,by rw[cy];lia],?_];have en:((((bS ps).length:Nat):Int)-((k:Int)+1)).toNat=ps.length-k:=by rw[cy];lia
 rw[en];refine fc (n:=ps.length-k) (λi U H3=>∃ x3:Option V,U=[some (.ref t),some (.int k),some (.ref p),x3]/\H3 p=some (.lst ((benL ps k (k+1+i)).map nV))/\But p H H3) ?_ ?_ ?_
 .refine #[_,rfl,?_,k0];rw[ag,jG,KN hT];rfl
 .rintro i U H3 hi ⟨x3,rfl,h3,k3⟩;have ek:(k:Int)+1+(i:Int)=((k+1+i:Nat):Int):=by lia
  rw[ek];have hj:k+1+i<ps.length+1:=by lia
  have hj1:1<=k+1+i:=by lia
  have hjk:k+1+i≠k:=by lia
  have ei:k+1+(i+1)=k+1+i+1:=by lia
  rw[ei];generalize k+1+i=j at h3 hj hj1 hjk ⊢;obtain ⟨u,hu⟩:=sW hj1 hj;have h3t:=k3 _ _ ntp ht;have hat:=jr hj;rw[j4 hu]at hat;have hlen:=Dh ps k j;refine #[_,rfl,_,rfl,_,_,_,_,rfl,rfl,SqT.of h3t,hat,_,rfl,_,_,rfl,.inl (SqL.of h3),rfl,wI _,_,rfl,?_];show if inV (.int (u:Int)) ((benL ps k j).map nV)=true then _ else _
  rw[wJ];have hB:isB ps k j=isB ps k u:=gT hT hjk hu;have hult:=(bj hT hu).1;refine ite2 .(t) .(t)
  .have c':isB ps k u=true:=(iJ.mp (bO c)).2;refine #[_,rfl,.inl #[rfl,_,SqL.of h3],_,rfl,_,_,_,rfl,rfl,h3,bh .(y),?_];refine #[_,rfl,?_,λb o n e=>by rw[aj n];exact k3 b o n e];rw[ag,Dg,hB,ak c',bw];rfl
  .have c':¬ isB ps k u=true:=λz=>c (aV (iJ.mpr #[hult,z]));refine #[_,rfl,?_,k3];rw[h3,Dg,hB,ao c',bQ]
 .rintro U H3 ⟨x3,rfl,h3,k3⟩;refine .(A);rw[show k+1+(ps.length-k)=ps.length+1 by lia]at h3;exact q p H3 hp (λb o e=>k3 b o (aw e hp) e) h3
def bC (es:List (Int×Int)):List (Int×Int):=ck es (cm es)
def ay (Re:List .(h))(k:Nat):List Int:=Re.getD k []
def ownE (Re:List .(h))(k:Nat):List (Int×Int):=(ay Re k).map λx=>(x,(k:Int))
def lL (ps:List Nat)(Re:List .(h)):Nat->Nat->List (Int×Int)
 | 0,_=>[]
 | f+1,k=>cT ((.(la).map λc=>bC (lL ps Re f c)).flatten++ownE Re k)
def DA (T:aP ps):∀ f g k,k<ps.length+1->ps.length+1-k<=f->ps.length+1-k<=g->lL ps Re f k=lL ps Re g k
 | 0,_,k,hk,h,_=>by lia
 | _,0,k,hk,_,h=>by lia
 | f+1,g+1,k,hk,hf,hg=>by
  unfold lL;congr 3;refine ou λc hc=>?_;have h:=da.mp hc;have:=bj T h.2;show bC _=bC _;rw[DA T f g c h.1 .(a) .(a)]
def af (ps:List Nat)(Re:List .(h))(k:Nat):List (Int×Int):=lL ps Re (ps.length+1-k) k
def gF (ps:List Nat)(Re:List .(h))(k:Nat):List (List (Int×Int)):=(.(la).map λc=>bC .(z))++[ownE Re k]
def gY (T:aP ps){k:Nat}(hk:k<ps.length+1):af ps Re k=cT (gF ps Re k).flatten:=by
 unfold af gF;obtain ⟨f,hf⟩:∃ f,ps.length+1-k=f+1:=#[ps.length-k,by lia];rw[hf,lL,oB,List.flatten_singleton];congr 3;refine ou λc hc=>?_;have h:=da.mp hc;have:=bj T h.2;show bC _=bC _;rw[DA T f (ps.length+1-c) c h.1 .(a) .(a)];rfl
structure aX (Re:List .(h)):Prop where
 up:∀ row∈Re,row.Pairwise .(Ca)
 key:∀ row∈Re,∀ x∈row,-(10^60)<x/\x<10^60
def aX.at_up {Re:List .(h)}(R:aX Re)(k:Nat):(ay Re k).Pairwise .(Ca):=by
 unfold ay;rw[aF];cases e:Re[k]? with
 | none=>exact .nil
 | some row=>exact R.up row (cX e)
def aX.at_key {Re:List .(h)}(R:aX Re)(k:Nat):∀ x∈ay Re k,-(10^60)<x/\x<10^60:=by
 unfold ay;rw[aF];cases e:Re[k]? with
 | none=>exact λx hx=>nomatch hx
 | some row=>exact R.key row (cX e)
def DB {α:Type}:∀(es:List α) (ms:List Bool),(ck es ms).Sublist es
 | [],_=>by
  unfold ck;exact List.Sublist.refl _
 | e::es,[]=>by
  unfold ck;exact List.nil_sublist _
 | e::es,m::ms=>by
  have ih:=DB es ms;unfold ck at ih ⊢;cases m with
  | false=>exact List.Sublist.cons e ih
  | true=>exact List.Sublist.cons₂ e ih
def cU (es:List (Int×Int)):(bC es).Sublist es:=DB _ _
def Of (ps:List Nat)(Re:List .(h))(k:Nat)(e:Int×Int):Prop:=∃ j,j<ps.length+1/\isB ps k j=true/\e.2=(j:Int)/\e.1∈ay Re j
def j5 {ps:List Nat}{k:Nat}(hk:k<ps.length+1){e:Int×Int}(h:e∈ownE Re k):Of ps Re k e/\e.2=(k:Int):=by
 obtain ⟨x,hx,rfl⟩:=cA.mp h;exact #[#[k,hk,iI,rfl,hx],rfl]
def DC (R:aX Re)(k:Nat):(ownE Re k).Nodup:=by
 unfold ownE;rw[List.nodup_iff_pairwise_ne,l7];exact List.Pairwise.imp (λ{a b} (h:a < b) z=>by
  have:=congrArg Prod.fst z;have:a=b:=this;lia) (R.at_up k)
def tK (T:aP ps)(R:aX Re):∀(m k:Nat),ps.length+1-k<=m->k<ps.length+1->(∀ e∈af ps Re k,Of ps Re k e)/\(gF ps Re k).flatten.Nodup
 | 0,k,hm,hk=>by lia
 | m+1,k,hm,hk=>by
  have ih:∀ c,par ps c=some k->(∀ e∈af ps Re c,Of ps Re c e)/\ .(z).Nodup:=λc hc=>by
   have:=bj T hc;have q:=tK T R m c .(a) this.2;refine #[q.1,?_];rw[gY T this.2];exact (jQ _).nodup_iff.mpr q.2
  have up:∀{c:Nat} {e:Int×Int},par ps c=some k->Of ps Re c e->Of ps Re k e:=λ{c e} hc h=>by
   obtain ⟨j,h1,h2,h3,h4⟩:=h;exact #[j,h1,(jq T j j (aq _) h1).mpr (.inr #[c,hc,h2]),h3,h4]
  refine #[λe he=>?_,?_]
  .rw[gY T hk,mH]at he;obtain ⟨l,hl,he⟩:=oq.mp he;rcases bX.mp hl with q|q
   .obtain ⟨c,hc,rfl⟩:=cA.mp q;have hp:=(da.mp hc).2;exact up hp ((ih c hp).1 e ((cU _).mem he))
   .rw[bM.mp q]at he;exact (j5 hk he).1
  .show List.Pairwise _ _;unfold gF;rw[List.pairwise_flatten];refine #[λl hl=>?_,?_]
   .rcases bX.mp hl with q|q
    .obtain ⟨c,hc,rfl⟩:=cA.mp q;exact (ih c (da.mp hc).2).2.sublist (cU _)
    .rw[bM.mp q];exact DC R k
   .rw[oC];refine #[?_,uE _ _,?_]
    .rw[l7];refine List.Pairwise.imp_of_mem (λ{c d} hc hd hcd=>?_) (Dj ps k _);intro x hx y hy z;subst z;have pc:=(da.mp hc).2;have pd:=(da.mp hd).2;obtain ⟨j,_,h2,h3,_⟩:=(ih c pc).1 x ((cU _).mem hx);obtain ⟨i,_,g2,g3,_⟩:=(ih d pd).1 x ((cU _).mem hy);have:j=i:=by lia
     subst this;exact jY T pc pd (bK hcd) j j (aq _) h2 g2
    .intro l hl l' hl' x hx y hy z;subst z;obtain ⟨c,hc,rfl⟩:=cA.mp hl;rw[bM.mp hl']at hy;have pc:=(da.mp hc).2;obtain ⟨j,_,h2,h3,_⟩:=(ih c pc).1 x ((cU _).mem hx);have h4:=(j5 hk hy).2;have:j=k:=by lia
     subst this;rw[fP T (bj T pc).1]at h2;cases h2
def iL (T:aP ps)(R:aX Re){k:Nat}(hk:k<ps.length+1):∀ e∈af ps Re k,Of ps Re k e:=(tK T R _ k (aq _) hk).1
def lM (T:aP ps)(R:aX Re){k:Nat}(hk:k<ps.length+1): .(e).Nodup:=by
 rw[gY T hk];exact (jQ _).nodup_iff.mpr (tK T R _ k (aq _) hk).2
def cz (T:aP ps)(R:aX Re){k:Nat}(hk:k<ps.length+1):Rise .(e):=by
 rw[gY T hk];exact pb (tK T R _ k (aq _) hk).2
def j6 (T:aP ps)(R:aX Re)(hz:ps.length<=40){k:Nat}(hk:k<ps.length+1):∀ e∈af ps Re k,dZ 64 e:=λe he=>by
 obtain ⟨j,h1,h2,h3,h4⟩:=iL T R hk e he;have:=R.at_key j _ h4;exact #[this.1,this.2,by lia,by lia]
def wtR (ps:List Nat)(Re:List .(h))(k:Nat):Nat:=((benL ps k (ps.length+1)).map λj=>(ay Re j).length).sum
def LK {l m:List Nat}(h:l.Perm m):l.sum=m.sum:=by
 induction h with
 | nil=>rfl
 | cons x _ ih=>rw[cK,cK,ih]
 | swap x y l=>rw[cK,cK,cK,cK];lia
 | trans _ _ h1 h2=>rw[h1,h2]
def DD (f:Nat->Nat):∀(ls:List (List Nat)),(ls.flatten.map f).sum=(ls.map λl=>(l.map f).sum).sum
 | []=>rfl
 | l::ls=>by
  rw[kJ,bw,List.sum_append,DD f ls,bL,cK]
def wZ (T:aP ps)(f:Nat->Nat){k:Nat}(hk:k<ps.length+1):((benL ps k (ps.length+1)).map f).sum=f k+(.(la).map λc=>((benL ps c (ps.length+1)).map f).sum).sum:=by
 have h:=LK ((KP T hk).map f);rw[bL,cK,DD,ig]at h;exact h.symm
def w5 {f g:Nat->Nat}:∀{l:List Nat},(∀ x∈l,f x<=g x)->(l.map f).sum<=(l.map g).sum
 | [],_=>aq _
 | x::l,h=>by
  rw[bL,cK,bL,cK];have h1:=h x bZ;have h2:=w5 (f:=f) (g:=g) (l:=l) λy hy=>h y (bP _ hy);lia
def DE (c:Nat)(f:Nat->Nat):∀(l:List Nat),(l.map λx=>c*f x).sum=c*(l.map f).sum
 | []=>rfl
 | x::l=>by
  rw[bL,cK,bL,cK,DE c f l,Nat.mul_add]
def DG {α:Type}:∀(ls:List (List α)),ls.flatten.length=(ls.map List.length).sum
 | []=>rfl
 | l::ls=>by
  rw[kJ,aS,DG ls,bL,cK]
def DH (T:aP ps){k:Nat}(hk:k<ps.length+1): .(e).length=(ay Re k).length+(.(la).map λc=>(bC .(z)).length).sum:=by
 rw[gY T hk,o7];unfold gF;rw[oB,aS,List.flatten_singleton,DG,ig];unfold ownE;rw[ai,Nat.add_comm];rfl
def LL {es:List (Int×Int)}(he:∀ e∈es,dZ 64 e)(hri:Rise es):2*(bC es).length<=es.length:=by
 have M:=wQ he hri;have S:=C5 (cm es);have h:=S.half M;rw[gX]at h;have e:(bC es).length=((List.range es.length).filter λk=>(cm es).getD k false).length:=by
  have key:∀(es:List (Int×Int)) (ms:List Bool),es.length=ms.length->(ck es ms).length=((List.range es.length).filter λk=>ms.getD k false).length:=by
   intro es
   induction es with
   | nil=>intro ms _;rfl
   | cons e es ih=>
    intro ms hl;cases ms with
    | nil=>cases hl
    | cons m ms=>
     rw[dC,List.range_succ_eq_map,List.filter_cons,List.filter_map];have h2:=ih ms (Nat.succ.inj hl);have h3:(((List.range es.length).filter ((λk=>(m::ms).getD k false) ∘ Nat.succ)).map Nat.succ).length=(ck es ms).length:=by
      rw[ai,h2];rfl
     cases m with
     | false=>
      show (ck es ms).length=(((List.range es.length).filter ((λk=>(false::ms).getD k false) ∘ Nat.succ)).map Nat.succ).length;rw[h3]
     | true=>
      show (ck es ms).length+1=(0::((List.range es.length).filter ((λk=>(true::ms).getD k false) ∘ Nat.succ)).map Nat.succ).length;rw[dC,h3]
  exact key es _ (gX es).symm
 rw[gX]at S;rw[e];exact h
def w6 (T:aP ps):∀(m k:Nat),ps.length+1-k<=m->k<ps.length+1-> .(e).length<=wtR ps Re k
 | 0,k,hm,hk=>by lia
 | m+1,k,hm,hk=>by
  unfold wtR;rw[DH T hk,wZ T _ hk];refine ux (w5 λc hc=>?_) _;have h:=da.mp hc;have:=bj T h.2;exact bW (cU _).length_le (w6 T m c .(a) h.1)
def DJ (f:Nat->Nat)(P:Nat->Bool):∀(l:List Nat),((l.filter P).map f).sum<=(l.map f).sum
 | []=>aq _
 | x::l=>by
  have ih:=DJ f P l;rw[bL,cK];by_cases h:P x=true
  .rw[dE h,bL,cK];lia
  .rw[fE h];lia
def dA (Re:List .(h)):Nat:=(Re.map List.length).sum
def LM (Re:List .(h)):((List.range Re.length).map λj=>(ay Re j).length).sum=dA Re:=by
 unfold dA;congr 1;apply gK;intro i;rw[aZ,aZ];by_cases h:i<Re.length
 .rw[ij h,aA h];show some (ay Re i).length=some Re[i].length;unfold ay;rw[aF,aA h];rfl
 .rw[dy (by rw[d9];lia),dy .(a)];rfl
def w9 {ps:List Nat}{Re:List .(h)}(hl:Re.length=ps.length+1)(k:Nat):wtR ps Re k<=dA Re:=by
 unfold wtR benL;refine bW (DJ _ _ _) ?_;rw[<-hl,LM];exact aq _
def tL (T:aP ps){Re:List .(h)}(hl:Re.length=ps.length+1){k:Nat}(hk:k<ps.length+1): .(e).length<=dA Re:=bW (w6 T _ k (aq _) hk) (w9 hl k)
def Fw (Re:List .(h)):Prop:=∀ j,dA Re+(ay Re j).length<=127
def Fw.k {Re:List .(h)}(h:Fw Re):dA Re<=127:=bW (Nat.le_add_right _ _) (h 0)
def lN (T:aP ps)(R:aX Re)(hz:ps.length<=40)(hl:Re.length=ps.length+1)(F:Fw Re){k:Nat}(hk:k<ps.length+1): .(e).length<=63:=by
 have e3:=DH T (Re:=Re) hk;have e2:wtR ps Re k=(ay Re k).length+(.(la).map λc=>wtR ps Re c).sum:=wZ T _ hk;have h:(.(la).map λc=>2*(bC .(z)).length).sum<=(.(la).map λc=>wtR ps Re c).sum:=w5 λc hc=>by
  have q:=da.mp hc;have h1:=LL (j6 T R hz q.1) (cz T R q.1);have h2:=w6 T (Re:=Re) _ c (aq _) q.1;lia
 rw[DE 2 (λc=>(bC .(z)).length)]at h;have:=w9 hl (ps:=ps) k;have:=F k;lia
def LN (j:Nat):(ay Re j).length<=dA Re:=by
 unfold ay dA
 induction Re generalizing j with
 | nil=>exact cv _
 | cons r Re ih=>
  rw[bL,cK];cases j with
  | zero=>exact Nat.le_add_right _ _
  | succ j=>exact bW (ih j) (Nat.le_add_left _ _)
def Fw.row {Re:List .(h)}(h:Fw Re)(j:Nat):(ay Re j).length<=63:=by
 have:=h j;have:=LN (Re:=Re) j;lia
def bH (H:Hp)(as:List Addr)(Re:List .(h)):Prop:=Paired (λa row=>H a=some (.tup (row.map V.int))) as Re
def bH.ext {H H':Hp}(e:∀ b o,H b=some o->H' b=some o){Re:List .(h)}(h:bH H as Re):bH H' as Re:=pImp (λ_ _=>e _ _) h
def bH.keep {d p:Addr}{H H':Hp}(hd:∀ a row,H a=some (.tup row)->a≠d)(e:∀ b o,b≠d->H b=some o->H' b=some o){Re:List .(h)}(h:bH H as Re):bH H' as Re:=pImp (λ_ _ h=>e _ _ (hd _ _ h) h) h
def bH.length {Re:List .(h)}(h:bH H as Re):as.length=Re.length:=Paired.length h
def bH.get :∀{as:List Addr} {Re:List (List Int)} {k:Nat},bH H as Re->k<Re.length->∃ a,as[k]?=some a/\H a=some (.tup ((ay Re k).map V.int))
 | _,_,_,.nil,hk=>by simp at hk
 | a::as,row::Re,0,.cons h t,_=>#[a,rfl,h]
 | a::as,row::Re,k+1,.cons h t,hk=>by
  obtain ⟨b,h1,h2⟩:=bH.get (k:=k) t (by simpa using hk);refine #[b,by rw[uA];exact h1,?_];have:ay (row::Re) (k+1)=ay Re k:=by
   unfold ay;rw[aF,aF,uA]
  rw[this];exact h2
def bH.snoc {a:Addr}{row:List Int}{Re:List .(h)}(h:bH H as Re)(g:H a=some (.tup (row.map V.int))):bH H (as++[a]) (Re++[row]):=pApp h (.cons g .nil)
structure dw (H:Hp)(st:Addr)(ps:List Nat)(Re:List .(h))(t rs:Addr)(as:List Addr):Prop where
 st:H st=some (.tup [.ref t,.ref rs])
 tr:H t=some (.tup (bS ps))
 rs:H rs=some (.tup .(D))
 at_:bH H as Re
 len:Re.length=ps.length+1
 T:aP ps
 R:aX Re
 few:ps.length<=40
 keys:Fw Re
def dw.same {st t rs:Addr}{Re:List .(h)}(S:dw H st ps Re t rs as)(e:Same H H'):dw H' st ps Re t rs as:=
 #[e _ _ S.st,e _ _ S.tr,e _ _ S.rs,S.at_.ext e,S.len,S.T,S.R,S.few,S.keys]
def eB {as:List Addr}{k:Nat}{a:Addr}(h:as[k]?=some a):atI .(D) (k:Int)=some (.ref a):=c8 (by rw[aZ,h];rfl)
def DK {α:Type}{l:List α}(h:l.Nodup):l.reverse.Nodup:=(List.reverse_perm l).nodup_iff.mpr h
def j7 (K:Frag)(H:Hp)(ps:List Nat)(Re:List .(h))(j:Nat)(q:Addr):Prop:=∃ ws,H q=some (.lst ws)/\aD K H .(E) ws
def bI (K:Frag)(H:Hp)(ps:List Nat)(Re:List .(h)):List Nat->List Addr->Prop:=Paired (j7 K H ps Re)
def j7.same {K:Frag}{Re:List .(h)}(h:j7 K H ps Re j q)(e:Same H H'):j7 K H' ps Re j q:=by
 obtain ⟨ws,h1,h2⟩:=h;exact #[ws,e _ _ h1,h2.mono e.ext]
def bI.same {K:Frag}{Re:List .(h)}(e:Same H H'){js:List Nat}{qs:List Addr}(h:bI K H ps Re js qs):bI K H' ps Re js qs:=pImp (λ_ _ h=>j7.same h e) h
def bI.ext {K:Frag}{Re:List (List Int)}(e:Ext H H'){js:List Nat}{qs:List Addr}(h:bI K H ps Re js qs):bI K H' ps Re js qs:=pImp (λ_ _ h=>by
  obtain ⟨ws,a1,a2⟩:=h;exact #[ws,e _ _ a1 nofun,a2.mono e]) h
def bI.length {K:Frag}{Re:List .(h)}{js:List Nat}{qs:List Addr}(h:bI K H ps Re js qs):js.length=qs.length:=Paired.length h
def bI.snoc {K:Frag}{Re:List .(h)}{js:List Nat}{qs:List Addr}(h:bI K H ps Re js qs)(g:j7 K H ps Re j q):bI K H ps Re (js++[j]) (qs++[q]):=pApp h (.cons g .nil)
def bI.get {K:Frag}{Re:List .(h)}:∀{js:List Nat} {qs:List Addr} {i j:Nat},bI K H ps Re js qs->js[i]?=some j->∃ q,qs[i]?=some q/\j7 K H ps Re j q
 | _,_,i,j,.nil,h=>by simp at h
 | _::_,q::_,0,j,.cons h t,e=>by
  have:=aJ (show some _=some j from e);subst this;exact #[q,rfl,h]
 | _::_,_::_,i+1,j,.cons h t,e=>by
  obtain ⟨q,h1,h2⟩:=bI.get (i:=i) t (by simpa using e);exact #[q,by simpa using h1,h2]
def bI.rev {K:Frag}{Re:List .(h)}{js:List Nat}{qs:List Addr}(h:bI K H ps Re js qs):bI K H ps Re js.reverse qs.reverse:=by
 unfold bI at h
 induction h with
 | nil=>exact .nil
 | cons h _ ih=>
  rw[kz,kz];exact bI.snoc ih h
def bI.alloc {K:Frag}{Re:List .(h)}:∀{js:List Nat} {qs:List Addr},bI K H ps Re js qs->∀ q∈qs,∃ ws,H q=some (.lst ws)
 | _,_,.nil=>λq hq=>nomatch hq
 | _::_,_::_,.cons h t=>λq hq=>by
  rcases aU.mp hq with e|e
  .obtain ⟨ws,h1,_⟩:=h;exact #[ws,e ▸ h1]
  .exact bI.alloc t q e
abbrev kN (j:Nat):Key:=Sum.inl (j:Int)
def dP:List Nat->List Addr->List (Key×V)
 | j::js,q::qs=>(kN j,.ref q)::dP js qs
 | _,_=>[]
def DL :∀{js:List Nat} {qs:List Addr},j∉js->valV (dP js qs) (kN j)=none
 | [],_,_=>rfl
 | _::_,[],_=>rfl
 | i::js,q::qs,h=>by
  have h1:¬ kN i=kN j:=λz=>h (by
   have:=Int.ofNat.inj (Sum.inl.inj z);rw[this];exact bZ)
  show valV ((kN i,V.ref q)::dP js qs) (kN j)=none;rw[fL h1];exact DL λz=>h (bP _ z)
def xa {q:Addr}:∀{js:List Nat} {qs:List Addr} {i:Nat},js.Nodup->js[i]?=some j->qs[i]?=some q->valV (dP js qs) (kN j)=some (.ref q)
 | [],_,_,_,h,_=>by simp at h
 | _::_,[],_,_,_,h=>by simp at h
 | a::js,b::qs,0,_,h1,h2=>by
  have:=aJ (show some a=some j from h1);subst this;have:=aJ (show some b=some q from h2);subst this;exact iA (p:=(kN a,V.ref b)) rfl
 | a::js,b::qs,i+1,hn,h1,h2=>by
  have g1:js[i]?=some j:=by simpa using h1
  have hne:¬ kN a=kN j:=λz=>by
   have e:=Int.ofNat.inj (Sum.inl.inj z);exact (dD.mp hn).1 (e ▸ cX g1)
  show valV ((kN a,V.ref b)::dP js qs) (kN j)=_;rw[fL hne];exact xa (dD.mp hn).2 g1 (by simpa using h2)
def DN {q:Addr}:∀{js:List Nat} {qs:List Addr},js.length=qs.length->dP (js++[j]) (qs++[q])=dP js qs++[(kN j,.ref q)]
 | [],[],_=>rfl
 | [],_::_,h=>by cases h
 | _::_,[],h=>by cases h
 | a::js,b::qs,h=>by
  show (kN a,V.ref b)::dP (js++[j]) (qs++[q])=(kN a,V.ref b)::(dP js qs++[(kN j,V.ref q)]);rw[DN (Nat.succ.inj h)]
def LO {j:Nat}{q:Addr}{js:List Nat}{qs:List Addr}(hl:js.length=qs.length)(h:j∉js):putK (dP js qs) (kN j) (.ref q)=dP (js++[j]) (qs++[q]):=by
 rw[kO _ (DL h),DN hl]
def DO:∀{js:List Nat} {qs:List Addr},js.length=qs.length->(dP js qs).length=js.length
 | [],[],_=>rfl
 | [],_::_,h=>by cases h
 | _::_,[],h=>by cases h
 | a::js,b::qs,h=>by
  show (dP js qs).length+1=js.length+1;rw[DO (Nat.succ.inj h)]
def LP {l:List Nat}(h:l.Pairwise (· > ·)){i j c:Nat}(hj:l[i]?=some j)(hc:c∈l)(hcj:j<c):c∈l.take i:=by
 obtain ⟨u,hu,rfl⟩:=cY hc;obtain ⟨hi,rfl⟩:=aT.mp hj;have:u<i:=by
  refine om λz=>?_;by_cases e:i=u
  .subst e;lia
  .have:=dU.mp h i u hi hu .(a);lia
 rw[List.mem_iff_getElem?];exact #[u,by rw[oh,ak this,aA hu]]
def LQ (T:aP ps){k c:Nat}(h:isB ps k j=true)(hc:par ps c=some j):isB ps k c=true:=by
 by_cases e:c=k
 .rw[e];exact iI
 .rw[gT T e hc];exact h
inductive xb (K:Frag)(vs:List V)(H:Hp)(Q:VK)(w_1:XK):Prop
 | c:∀(st:Addr) (ps:List Nat) (Re:List (List Int)) (t rs:Addr) (as:List Addr) (j:Nat),vs=[.ref st,.int j]->dw H st ps Re t rs as->j<ps.length+1->(∀(D:Addr) (us:List V) (H':Hp),H D=none->Same H H'->H' D=some (.lst us)->aD K H' (ownE Re j) us->Q (.ref D) H')->xb K vs H Q w_1
def LR (T:Txt K mg)(yQ:DF K mg "own_entries" pZ rB):FC P w K mg base 1 "own_entries" rB (xb K):=by
 refine yQ.ok JS .(c) .(b)
 .obtain ⟨st,ps,Re,t,rs,as,k,rfl,_⟩:=h;rfl
 obtain ⟨st,ps,Re,t,rs,as,j,rfl,S4,hjn,q⟩:=h;refine #[_,(au (aK (fM (N:=["key","knot"]) (own:=1) (cap:=[1]) rfl (gx (aH (bA (K:=K)) (aH (bA (K:=K)) (pv 0) ah .(ma)) (pv 1) .(ma))) #[rfl,rfl,rfl,rfl,rfl,rfl] (λ_ _ _ _ _=>(aO (i:=0) (show List.Nodup (["key","knot"]:List Str) by decide +kernel) rfl (av rfl))) (λ_ _ _ _ _=>fY) (λ_ _ _ _ _=>(cE (aa (pv 0) (aa (pv 1) ae))))))),?_];obtain ⟨a,ha1,ha4⟩:=S4.at_.get (k:=j) (by rw[S4.len];exact hjn);have hkeys:=S4.keys.k;refine #[_,rfl,_,_,_,_,rfl,rfl,SqT.of S4.st,rfl,_,rfl,_,_,_,_,rfl,rfl,SqT.of S4.rs,eB ha1,a,rfl,#[_,SqT.of ha4],λD3 hD3=>?_];refine jT (xs:=(ay Re j).map V.int) (λm U H5=>∃(us:List V) (x0:Option V),U=[x0,some (.int j)]/\H5 D3=some .(ia)/\aD K H5 ((ownE Re j).take m) us/\But D3 H H5) ?_ ?_ ?_ ?_
 .exact #[[],_,rfl,ag,.nil,λb o n e=>by rw[aj n];exact e]
 .rintro m U H5 _ ⟨us,x0,rfl,_,_,k5⟩;exact SqT.of (k5 _ _ (aw ha4 hD3) ha4)
 .rintro m r x U H5 hx hm ⟨us,x0,rfl,h5,hw5,k5⟩;rw[aZ]at hx;obtain ⟨y,hy,rfl⟩:=gI.mp hx;have hlow:=(aT.mp hy).1;have htk3:(ownE Re j).take (m+1)=(ownE Re j).take m++[(y,(j:Int))]:=by
   unfold ownE;rw[<-iQ,<-iQ,cG hlow,bw];rw[(aT.mp hy).2];rfl
  have hul:=hw5.length;rw[bu]at hul;rw[ai]at hm;have hrl:(ay Re j).length<=dA Re:=by
   have:=w9 S4.len (k:=j) (ps:=ps);have e2:wtR ps Re j=(ay Re j).length+_:=wZ S4.T _ hjn;lia
  refine fN ?_;refine #[_,rfl,_,rfl,.(l),λu hu=>?_];have su:=az hu (.tup [.int y,.int (j:Int)]);have h6:=su _ _ h5;have hut:upd H5 u (.tup [.int y,.int (j:Int)]) u=some (.tup [.int y,.int (j:Int)]):=ag;have k6:=k5.new' hu (.tup [.int y,.int (j:Int)]);have hw6:=hw5.mono su.ext;generalize upd H5 u (.tup [.int y,.int (j:Int)])=H6 at su h6 hut k6 hw6 ⊢;refine #[_,h6,bh .(a),r-1,by lia,by rw[ai];lia,us++[.ref u],_,rfl,ag,?_,λb o n e=>by rw[aj n];exact k6 b o n e];rw[htk3];exact (dj h6 hw6).append (dj h6 (.cons #[u,.int y,.int (j:Int),rfl,hut,rfl,rfl] .nil))
 .rintro U H5 ⟨us,x0,rfl,h5,hw5,k5⟩;rw[ai,bG (by unfold ownE;rw[ai];exact aq _)]at hw5;exact q D3 us H5 hD3 (λx o e=>k5 x o (aw e hD3) e) h5 hw5
inductive xc (K:Frag)(vs:List V)(H:Hp)(Q:VK)(w_1:XK):Prop
 | c:∀(st:Addr) (ps:List Nat) (Re:List (List Int)) (t rs:Addr) (as:List Addr) (k:Nat),vs=[.ref st,.int k]->dw H st ps Re t rs as->k<ps.length+1->(∀(D:Addr) (qs:List Addr) (H':Hp),H D=none->Same H H'->H' D=some (.dK (dP (benL ps k (ps.length+1)).reverse qs))->qs.Nodup->(∀ q∈qs,H q=none)->bI K H' ps Re (benL ps k (ps.length+1)).reverse qs->Q (.ref D) H')->xc K vs H Q w_1
def LU (T:Txt K mg)(yR:DF K mg "full_rows_beneath" p0 rC)(O9:FC P w K mg base 1 "beneath" rl (wY K))(yS:FC P w K mg base 1 "children" mY (lK K))(um:FC P w K mg base 6 "handed" mX (tm K))(Pa:FC P w K mg base 1 "own_entries" rB (xb K))(yT:FC P w K mg base 1 "joined_up" mV (tH K)):FC P w K mg base 7 "full_rows_beneath" rC (xc K):=by
 refine yR.ok mO .(c) .(b)
 .obtain ⟨st,ps,Re,t,rs,as,k,rfl,_⟩:=h;rfl
 obtain ⟨st,ps,Re,t,rs,as,k,rfl,S,hk,q⟩:=h;refine #[_,(aB (aI (i:=2) mO.nd rfl (av rfl) (aH (bA (K:=K)) (pv 0) ah (λ_ _=>rfl)))
   (aB (aI (i:=3) mO.nd rfl (gh rfl) uY)
   (aB (bU PassesOwn.never rfl (Ih rfl T.On (aa (aG O9 hr (aa (pv 2) (aa (pv 1) ae))) ae)) (aO (i:=4) mO.nd rfl (av rfl)) (aB (jd (i:=5) (N:=["child","told"]) (own:=1) (cap:=[3]) mO.nd rfl rfl rfl (dW (aG yS hr (aa (pv 2) (aa (pv 4) ae)))) #[rfl,rfl,rfl,rfl,rfl,rfl] (λ_ _ _ _ _=>(aO (i:=0) (show List.Nodup (["child","told"]:List Str) by decide +kernel) rfl (av rfl))) (λ_ _ _ _ _=>fY) (λ_ _ _ _ _=>(aG um hr (aa (ja (dN hr) (pv 1) (pv 0) (λ_ _=>rfl)) ae))))
   (aB (cM (dJ F.plainAttrs_list F.slot_list_append F.type_list_append dM (pv 5) (aa (aG Pa hr (aa (pv 0) (aa (pv 4) ae))) ae)))
   (au (jO (dN hr) (pv 3) (pv 4) (aG yT hr (aa (pv 5) ae)) rfl)))))
   (au (aK (pv 3)))))),?_]
 refine #[_,rfl,_,_,_,_,rfl,rfl,SqT.of S.st,rfl,λD hD=>?_];have s0:=az hD (.dK []);have hD0:upd H D (.dK []) D=some (.dK []):=ag;generalize upd H D (.dK [])=H0 at s0 hD0 ⊢;refine #[_,rfl,_,rfl,t,ps,k,rfl,s0 _ _ S.tr,S.T,hk,by have:=S.few;lia,λb H1 hb s1 h1=>?_];refine #[b,_,rfl,SqL.of h1,?_];have hup:=wD ps k (ps.length+1);have hmem:=λj=>iJ (ps:=ps) (k:=k) (n:=ps.length+1) (j:=j);have hbl:=Dh ps k (ps.length+1);generalize benL ps k (ps.length+1)=bs at h1 q hup hmem hbl ⊢;have hdn:bs.reverse.Pairwise (· > ·):=by
  rw[List.pairwise_reverse];exact hup
 have hnd:bs.reverse.Nodup:=List.Pairwise.imp (λ{a b} (q:a>b)=>jz q) hdn;refine Ii (xs:=bs.map nV) (λi U H2=>∃(qs:List Addr) (x5 x6:Option V),U=[some (.ref st),some (.int k),some (.ref t),some (.ref D),x5,x6]/\H2 D=some (.dK (dP (bs.reverse.take i) qs))/\qs.Nodup/\(∀ q∈qs,H q=none)/\bI K H2 ps Re (bs.reverse.take i) qs/\H2 b=some (.lst (bs.map nV))/\But D H H2) ?_ ?_ ?_ ?_
 .exact #[[],_,_,rfl,s1 _ _ hD0,iP,(λq hq=>nomatch hq),.nil,h1,λx o _ e=>s1 _ _ (s0 _ _ e)]
 .rintro i U H2 _ ⟨qs,x5,x6,rfl,_,_,_,_,h2b,_⟩;exact SqL.of h2b
 .rintro i x U H2 hx ⟨qs,x5,x6,rfl,h2,hqn,hqf,hF,h2b,k2⟩;rw[<-List.map_reverse]at hx;obtain ⟨hi,hxe⟩:=lJ hx;have hji:bs.reverse[i]?=some (bs.reverse.getD i 0):=by
   rw[aF,aA hi];rfl
  subst hxe;have htk:bs.reverse.take (i+1)=bs.reverse.take i++[bs.reverse.getD i 0]:=by
   rw[cG hi,aF,aA hi];rfl
  rw[htk];generalize bs.reverse.getD i 0=j at hji htk ⊢;have hjm:j∈bs:=kC.mp (cX hji);obtain ⟨hjn,hjB⟩:=(hmem j).mp hjm;have hjnot:j∉bs.reverse.take i:=λz=>by
   have hnd':=hnd;rw[<-eY (i+1) bs.reverse,htk]at hnd';have:=(fF.mp hnd').1;exact (fF.mp this).2.2 j z j (bM.mpr rfl) rfl
  have noD:∀{p:Addr} {o:HO},H p=some o->p≠D:=λ{p o} e=>aw e hD;have S2:dw H2 st ps Re t rs as:=#[k2 _ _ (noD S.st) S.st,k2 _ _ (noD S.tr) S.tr,k2 _ _ (noD S.rs) S.rs,bH.keep (p:=D) (d:=D) (λa row e=>noD e) k2 S.at_,S.len,S.T,S.R,S.few,S.keys];have hkeys:=S.keys.k;have hfew:=S.few;refine #[_,rfl,_,rfl,t,ps,j,rfl,S2.tr,by lia,λc H3 hc s3 h3=>?_];refine #[c,rfl,#[_,SqL.of h3],λD2 hD2=>?_];have hcmem:=λm=>da (ps:=ps) (k:=j) (n:=ps.length+1) (j:=m);have hcl:=nk ps j (ps.length+1);have hparts:gF ps Re j=((bR ps j (ps.length+1)).map λc=>bC .(z))++[ownE Re j]:=rfl;generalize bR ps j (ps.length+1)=cs at h3 hcmem hcl hparts ⊢;have h3D:=s3 _ _ h2;have nDD2:D≠D2:=aw h3D hD2;have F3:bI K H3 ps Re (bs.reverse.take i) qs:=hF.same s3;refine iC (xs:=cs.map nV) (λm U H4=>∃(gs:List Addr) (x0:Option V),U=[x0,some (.ref D)]/\H4 D2=some (.lst (gs.map V.ref))/\Own K H4 gs ((cs.take m).map λc=>bC .(z))/\D2∉gs/\But D2 H3 H4) ?_ ?_ ?_ ?_
  .exact #[[],_,rfl,ag,.nil,nofun,λb o n e=>by rw[aj n];exact e]
  .rintro m U H4 _ ⟨gs,x0,rfl,_,_,_,k4⟩;exact k4.sq (SqL.of h3) hD2
  .rintro m r x U H4 hx hm ⟨gs,x0,rfl,h4,hO,hg,k4⟩;obtain ⟨hmi,rfl⟩:=lJ hx;have hcm:cs[m]?=some (cs.getD m 0):=by
    rw[aF,aA hmi];rfl
   have htk2:cs.take (m+1)=cs.take m++[cs.getD m 0]:=by
    rw[cG hmi,aF,aA hmi];rfl
   rw[htk2];generalize cs.getD m 0=ch at hcm ⊢;obtain ⟨hchn,hchp⟩:=(hcmem ch).mp (cX hcm);have hlt:=(bj S.T hchp).1;have hin:ch∈bs.reverse.take i:=LP hdn hji (kC.mpr ((hmem ch).mpr #[hchn,LQ S.T hjB hchp])) hlt;obtain ⟨u,hu,hue⟩:=cY hin;have hu2:(bs.reverse.take i)[u]?=some ch:=by rw[aA hu,hue]
   obtain ⟨qq,hq1,ws,hq2,hq3⟩:=F3.get hu2;have hnd2:(bs.reverse.take i).Nodup:=hnd.sublist (List.take_sublist _ _);have hv:=xa hnd2 hu2 hq1;have k4D:=k4 _ _ nDD2 h3D;have hq4:=k4 _ _ (aw hq2 hD2) hq2;have hq5:aD K H4 (af ps Re ch) ws:=by
    have key:∀{es:List (Int×Int)} {vs:List V},aD K H3 es vs->aD K H4 es vs:=by
     intro es vs hh
     induction hh with
     | nil=>exact .nil
     | cons a _ ih=>
      obtain ⟨b,x1,x2,rfl,q,e1,e2⟩:=(show hasP K H3 _ _ from a);exact .cons #[b,x1,x2,rfl,k4 _ _ (aw q hD2) q,e1,e2] ih
    exact key hq3
   have hlen:=tL S.T S.len (Re:=Re) hchn;refine fN ?_;have hdg:DGet H4 D (.int (ch:Int)) (some (.ref qq)):=by
    rw[<-hv];exact DGet.k (k:=kN ch) k4D
   refine #[_,rfl,_,rfl,D,_,rfl,hdg,?_];refine #[qq,ws,af ps Re ch,rfl,hq4,hq5,by lia,j6 S.T S.R hfew hchn,cz S.T S.R hchn,λg H5 hg5 s5 h5=>?_];have hgl:=hO.length;rw[ai,bu]at hgl;have h5D2:=s5 _ _ h4;have ngD2:D2≠g:=aw h4 hg5;rw[ai]at hm;refine #[_,h5D2,bh .(y),r-1,by lia,by rw[ai];lia,gs++[g],_,rfl,?_,?_,?_,λx o n e=>by rw[aj n];exact s5 _ _ (k4 x o n e)]
   .rw[ag,bw];rfl
   .rw[bw];refine Own.other h5D2 (Own.append (hO.ext s5.ext) (.cons #[_,h5,?_] .nil)) ?_
    .exact tq (hq5.mono s5.ext)
    .intro z;rcases bX.mp z with z|z
     .exact hg z
     .exact ngD2 (bM.mp z)
   .intro z;rcases bX.mp z with z|z
    .exact hg z
    .exact ngD2 (bM.mp z)
  .rintro U H4 ⟨gs,x0,rfl,h4,hO,hg,k4⟩;rw[ai,bG (aq _)]at hO;have hgl:=hO.length;rw[ai]at hgl;have s34:Same H3 H4:=λx o e=>k4 x o (aw e hD2) e;have s24:Same H2 H4:=s3.trans s34;have S4:=S2.same s24;refine #[_,rfl,.inl #[rfl,_,SqL.of h4],_,rfl,_,rfl,st,ps,Re,t,rs,as,j,rfl,S4,hjn,λD3 us H5 hD3 s45 h5 hw5=>?_];have h5D2:=s45 _ _ h4;have n23:D2≠D3:=aw h4 hD3;refine #[_,_,_,rfl,rfl,h5D2,bh .(y),?_];have O5:Own K H5 (gs++[D3]) (gF ps Re j):=by
    rw[hparts];exact Own.append (hO.ext s45.ext) (.cons #[us,h5,hw5] .nil)
   have nin:D2∉gs++[D3]:=λz=>by
    rcases bX.mp z with z|z
    .exact hg z
    .exact n23 (bM.mp z)
   have O6:=O5.other (o:=.lst (gs.map V.ref++[.ref D3])) h5D2 nin;have h6:upd H5 D2 (.lst (gs.map V.ref++[.ref D3])) D2=some (.lst ((gs++[D3]).map V.ref)):=by
    rw[ag,bw];rfl
   have k26:∀ x o,H2 x=some o->upd H5 D2 (.lst (gs.map V.ref++[.ref D3])) x=some o:=λx o e=>by
    rw[aj (aw (s3 _ _ e) hD2)];exact s45 _ _ (s24 _ _ e)
   generalize upd H5 D2 (.lst (gs.map V.ref++[.ref D3]))=H6 at O6 h6 k26 ⊢;have hfl:(gF ps Re j).flatten.length<=63:=by
    have:=lN S.T S.R S.few S.len S.keys hjn;rw[gY S.T hjn,o7]at this;lia
   refine #[_,rfl,D2,gs++[D3],gF ps Re j,rfl,h6,O6,hfl,λp ws H7 hp s7 h7 hw7=>?_];rw[<-gY S.T hjn]at hw7;have s27:Same H2 H7:=λx o e=>s7 _ _ (k26 x o e);have h7D:=s27 _ _ h2;have hql:=hF.length;have hpD:p≠D:=bt (aw (k26 _ _ h2) hp);refine #[_,rfl,_,rfl,D,_,rfl,DPut.k (k:=kN j) h7D (bh (by rw[DO hql,bu,kA];lia)),?_];rw[LO hql hjnot];have e78:Ext H7 (upd H7 D (.dK (dP (bs.reverse.take i++[j]) (qs++[p])))):=λx o e n=>by
    rw[aj (λz=>by
     rw[z,h7D]at e;cases e
     exact n _ rfl)]
    exact e
   have F8:bI K (upd H7 D (.dK (dP (bs.reverse.take i++[j]) (qs++[p])))) ps Re (bs.reverse.take i++[j]) (qs++[p]):=by
    exact bI.ext e78 (bI.snoc (hF.same s27) #[ws,h7,hw7])
   refine #[qs++[p],_,_,rfl,ag,?_,?_,F8,?_,λx o n e=>?_]
   .rw[fF];refine #[hqn,dD.mpr #[nofun,iP],λa ha b hb z=>?_];rw[bM.mp hb]at z;subst z;obtain ⟨ws',hws⟩:=hF.alloc a ha;have:=k26 _ _ hws;rw[hp]at this;cases this
   .intro x hx;rcases bX.mp hx with z|z
    .exact hqf x z
    .rw[bM.mp z];cases e:H p with
     | none=>rfl
     | some o=>
      have:=k26 _ _ (k2 p o hpD e);rw[hp]at this;cases this
   .rw[aj (λz=>by rw[z,h2]at h2b;cases h2b)]
    exact s27 _ _ h2b
   .rw[aj n];exact s27 _ _ (k2 x o n e)
 .rintro U H2 ⟨qs,x5,x6,rfl,h2,hqn,hqf,hF,h2b,k2⟩;refine .(A);rw[ai,bG (by rw[kA];exact aq _)]at h2 hF;exact q D qs H2 hD (λx o e=>k2 x o (aw e hD) e) h2 hqn hqf hF
inductive xf (K:Frag)(vs:List V)(H:Hp)(Q:VK)(w_1:XK):Prop
 | c:∀(st:Addr) (ps:List Nat) (Re:List (List Int)) (t rs:Addr) (as:List Addr),vs=[.ref st]->dw H st ps Re t rs as->(∀(p:Addr) (qs:List Addr) (H':Hp),H p=none->Same H H'->H' p=some (.lst (qs.map V.ref))->qs.Nodup->(∀ q∈qs,H q=none)->p∉qs->bI K H' ps Re (List.range (ps.length+1)) qs->Q (.ref p) H')->xf K vs H Q w_1
def LV {n i:Nat}(h:i<n): .(K).reverse[n-1-i]?=some i:=by
 rw[ma (by rw[d9];lia),d9,ij .(a)];congr 1;lia
def LW (T:Txt K mg)(yU:DF K mg "full_rows" p5 rD)(Pb:FC P w K mg base 7 "full_rows_beneath" rC (xc K)):FC P w K mg base 8 "full_rows" rD (xf K):=by
 refine yU.ok Cu .(c) .(b)
 .obtain ⟨st,ps,Re,t,rs,as,rfl,_⟩:=h;rfl
 obtain ⟨st,ps,Re,t,rs,as,rfl,S,q⟩:=h;refine #[_,(aB (aI (i:=1) Cu.nd rfl (gh rfl) (aG Pb hr (aa (pv 0) (aa ah ae))))
   (au (aK (fM (N:=["knot","told"]) (own:=1) (cap:=[1]) rfl (fb rfl T.de (aa (aN (bF (K:=K)) rfl T.bD bz (aa (aH (bA (K:=K)) (pv 0) ah (λ_ _=>rfl)) ae)) ae)) #[rfl,rfl,rfl,rfl,rfl,rfl] (λ_ _ _ _ _=>(aO (i:=0) (show List.Nodup (["knot","told"]:List Str) by decide +kernel) rfl (av rfl))) (λ_ _ _ _ _=>fY) (λ_ _ _ _ _=>(ja (dN hr) (pv 1) (pv 0) (λ_ _=>rfl))))))),?_]
 refine #[_,rfl,st,ps,Re,t,rs,as,0,rfl,S,by lia,λD qs H1 hD s1 h1 hqn hqf hF=>?_];rw[KO S.T]at h1 hF;have S1:=S.same s1;have hfew:=S.few;have hql:=hF.length;rw[kA,d9]at hql;refine #[_,rfl,_,_,_,_,rfl,rfl,SqT.of S1.st,rfl,_,_,rfl,.inr (SqT.of S1.tr),_,rfl,by lia,by rw[cy];lia,λp hp=>?_];have el:((((bS ps).length:Nat):Int)).toNat=ps.length+1:=by rw[cy,fU]
 rw[el];refine kZ (n:=ps.length+1) (λi U H2=>∃ x0:Option V,U=[x0,some (.ref D)]/\H2 p=some (.lst ((qs.reverse.take i).map V.ref))/\But p H1 H2) ?_ ?_ ?_
 .exact .(m)
 .rintro i m U H2 hm hi ⟨x0,rfl,h2,k2⟩;rw[gk];have hi2:i<qs.reverse.length:=by rw[kA];lia
  have hq1:qs[ps.length+1-1-i]?=some qs.reverse[i]:=by
   have:=ma (l:=qs) (i:=i) .(a);rw[aA hi2]at this;rw[this];congr 1;lia
  have hv:=xa (DK List.nodup_range) (LV hi) hq1;have h2D:=k2 _ _ (aw h1 hp) h1;have hdg:DGet H2 D (.int (i:Int)) (some (.ref qs.reverse[i])):=by
   rw[<-hv];exact DGet.k (k:=kN i) h2D
  refine fN ?_;refine #[_,rfl,_,rfl,D,_,rfl,hdg,?_];refine #[_,h2,bh (by rw[ai,bu];lia),m-1,by lia,by lia,_,rfl,?_,λb o n e=>by rw[aj n];exact k2 b o n e];rw[ag,cG hi2,bw];rfl
 .rintro U H2 ⟨x0,rfl,h2,k2⟩;rw[bG (by rw[kA];lia)]at h2;have s2:Same H1 H2:=λb o e=>k2 b o (aw e hp) e;have F2:=(hF.same s2).rev;rw[List.reverse_reverse]at F2;refine q p qs.reverse H2 ?_ (s1.trans s2) h2 (DK hqn) (λx hx=>hqf x (kC.mp hx)) .(ua) F2
  .cases e:H p with
   | none=>rfl
   | some o=>
    have:=s1 _ _ e;rw[hp]at this;cases this
  .obtain ⟨ws,hws⟩:=hF.alloc p (kC.mp z);rw[hp]at hws;cases hws
def lO (x:Key):Prop:=∃ a:Int,x=.inl a/\-(10^60)<a/\a<10^60
def toI:Key->Int
 | .inl a=>a
 | _=>0
def LX {kvs:List (Key×V)}{v:V}(h1: .(Da).Nodup)(h2:∀ y∈kvs.map (·.1),lO y)(hx:lO x):((putK kvs x v).map (·.1)).Nodup/\∀ y∈(putK kvs x v).map (·.1),lO y:=by
 rw[K0];split
 .exact #[h1,h2]
 .rename_i c;refine #[?_,λy hy=>?_]
  .rw[fF];refine #[h1,dD.mpr #[nofun,iP],λa ha b hb z=>?_];rw[bM.mp hb]at z;subst z;obtain ⟨p,hp,e⟩:=cA.mp ha;exact c (List.any_eq_true.mpr #[p,hp,aV e])
  .rcases bX.mp hy with z|z
   .exact h2 y z
   .rw[bM.mp z];exact hx
def DP:∀{l:List Key},(∀ y∈l,lO y)->l.map kV=(l.map toI).map V.int
 | [],_=>rfl
 | x::l,h=>by
  obtain ⟨a,rfl,_⟩:=h x bZ;show V.int a::l.map kV=V.int a::(l.map toI).map V.int;rw[DP λy hy=>h y (bP _ hy)]
def DQ:∀{l:List Key},l.Nodup->(∀ y∈l,lO y)->(l.map toI).Nodup
 | [],_,_=>iP
 | x::l,hn,h=>by
  rw[bL,dD];have hc:=dD.mp hn;refine #[λz=>?_,DQ hc.2 λy hy=>h y (bP _ hy)];obtain ⟨y,hy,e⟩:=cA.mp z;obtain ⟨a,rfl,_⟩:=h x bZ;obtain ⟨b,rfl,_⟩:=h y (bP _ hy);have:b=a:=e;subst this;exact hc.1 hy
inductive xg (K:Frag)(vs:List V)(H:Hp)(Q:VK)(w_1:XK):Prop
 | c:∀(d L:Addr) (m:Int),vs=[.ref d,.int m]->(0<=m/\m<=40)->LS K L d H->(∀(a:Addr) (row:List Int) (H':Hp),H a=none->row.Pairwise (· < ·)->(∀ x∈row,-(10^60)<x/\x<10^60)->(row.length:Int)<=m->H' a=some (.tup (row.map V.int))->Keep d H H'->LS K L d H'->Q (.ref a) H')->xg K vs H Q w_1
def LY (T:Txt K mg)(yV:DF K mg "_law_row" qm rR)(bV:FC P w K mg base 2 "_law_take" gA (gO K))(nR:FC P w K mg base 3 "_law_key" lD (nq K)):FC P w K mg base 4 "_law_row" rR (xg K):=by
 refine yV.ok vW .(c) .(b)
 .obtain ⟨d,L,m,rfl,_⟩:=h;rfl
 obtain ⟨d,L,m,rfl,⟨hm0,hm1⟩,hs,q⟩:=h;refine #[_,(aB (aI (i:=2) vW.nd rfl (av rfl) uY)
   (aB (bU PassesOwn.never rfl (fb rfl T.de (aa (aG bV hr (aa (pv 0) (aa (aC bY (pv 1) ah) ae))) ae)) (aO (i:=3) vW.nd rfl (av rfl)) (au (jO (dN hr) (pv 2) (aG nR hr (aa (pv 0) ae)) cZ rfl)))
   (au (aK (dI (gQ (K:=K)) rfl T.fB boot_tuple (aa (aN (px Int) rfl T.lY boot_sorted (aa (dI (Ik rfl) rfl T.g9 boot_list (aa (pv 2) ae)) ae)) ae)))))),?_]
 intro g hg;have ngd:g≠d:=λz=>by
  obtain ⟨_,_,_,e,_⟩:=hs.ex;rw[<-z,hg]at e;cases e
 refine #[_,rfl,_,rfl,_,_,rfl,rfl,d,L,m+1,rfl,.(ka),hs.of_new hg _,λn H1 n0 n1 k1 s1=>#[_,rfl,by lia,by lia,?_]];refine fc (n:=n.toNat) (λi U H2=>∃(kvs:List (Key×V)) (x3:Option V),U=[some (.ref d),some (.int m),some (.ref g),x3]/\H2 g=some (.dK kvs)/\kvs.length<=i/\ .(Da).Nodup/\(∀ y∈kvs.map (·.1),lO y)/\(∀ b o,b≠d->b≠g->H b=some o->H2 b=some o)/\LS K L d H2) ?_ ?_ ?_
 .exact #[[],_,rfl,k1 g _ ngd ag,aq _,iP,λy hy=>(by simp at hy),λb o b1 b2 e=>k1 b o b1 (by rw[aj b2];exact e),s1]
 .rintro i U H2 hi ⟨kvs,x3,rfl,h2,hl,hn,hy,kk,s2⟩;refine #[_,rfl,_,rfl,d,L,rfl,s2,λv H3 v0 v1 k3 s3=>?_];have h3:H3 g=some (.dK kvs):=k3 g _ ngd h2;obtain ⟨p1,p2⟩:=LX (v:=.bl true) hn hy (x:=.inl v) #[v,rfl,v0,v1];refine #[g,_,rfl,DPut.k (k:=.inl v) (kvs:=kvs) h3 (bh .(a)),?_];refine #[putK kvs (.inl v) (.bl true),_,rfl,ag,?_,p1,p2,?_,?_]
  .have:=oW kvs (Sum.inl v:Key) (.bl true);lia
  .intro b o b1 b2 e;rw[aj b2];exact k3 b o b1 (kk b o b1 b2 e)
  .exact LS.put hs hg (λb o b1 b2 e=>k3 b o b1 (kk b o b1 b2 e)) s3
 .rintro U H2 ⟨kvs,x3,rfl,h2,hl,hn,hy,kk,s2⟩;refine #[_,rfl,g,kvs,rfl,h2,λl hl1=>?_];have ei:kvs.map (λkv=>kV kv.1)=(.(Da).map toI).map V.int:=by
   rw[<-DP hy,ig];rfl
  rw[ei];have e1:=az hl1 (.lst ((.(Da).map toI).map V.int));refine #[l,_,_,rfl,SqL.of ag,aD.ints,by rw[ai,ai];lia,λl2 ws hl2 hw=>?_];rw[hw.toInts];have e2:=az hl2 (.lst ((cT (.(Da).map toI)).map V.int));refine #[l2,_,rfl,.inl #[SqL.of ag,λa ha=>?_]];have e3:=az ha (.tup ((cT (.(Da).map toI)).map V.int));have e13:=e1.trans (e2.trans e3);have free:H a=none:=by
   have z2:H2 a=none:=e1.free (e2.free ha);cases z:H a with
   | none=>rfl
   | some o=>
    by_cases c1:a=d
    .obtain ⟨_,_,_,e,_⟩:=s2.ex;rw[<-c1,z2]at e;cases e
    .by_cases c2:a=g
     .rw[c2,h2]at z2;cases z2
     .rw[kk a o c1 c2 z]at z2;cases z2
  refine q a _ _ free ?_ (λx hx=>?_) ?_ ag (λb o b1 e=>e13 _ _ (kk b o b1 (aw e hg) e)) (s2.same e13)
  .exact List.Pairwise.imp (λ{a b} (h:Srt.blt a b=true)=>bO h) (pb (DQ hn hy))
  .rw[mH]at hx;obtain ⟨y,hy2,rfl⟩:=cA.mp hx;obtain ⟨a,rfl,h1,h2⟩:=hy y hy2;exact #[h1,h2]
  .rw[o7,ai,ai];lia
inductive xh (K:Frag)(vs:List V)(H:Hp)(Q:VK)(w_1:XK):Prop
 | c:∀(d L:Addr) (n m:Nat),vs=[.ref d,.int n,.int m]->n<=40->m<=40->LS K L d H->(∀(r:Addr) (as:List Addr) (Re:List (List Int)) (H':Hp),H r=none->bH H' as Re->Re.length=n->aX Re->(∀ row∈Re,row.length<=m)->H' r=some (.tup (as.map V.ref))->Keep d H H'->LS K L d H'->Q (.ref r) H')->xh K vs H Q w_1
def aX.snoc {Re:List .(h)}{row:List Int}(R:aX Re)(h1:row.Pairwise .(Ca))(h2:∀ x∈row,-(10^60)<x/\x<10^60):aX (Re++[row]):=by
 refine #[λr hr=>?_,λr hr=>?_]
 .rcases bX.mp hr with z|z
  .exact R.up r z
  .rw[bM.mp z];exact h1
 .rcases bX.mp hr with z|z
  .exact R.key r z
  .rw[bM.mp z];exact h2
def LZ (T:Txt K mg)(yW:DF K mg "_law_rows" qo rS)(bV:FC P w K mg base 2 "_law_take" gA (gO K))(Pc:FC P w K mg base 4 "_law_row" rR (xg K)):FC P w K mg base 5 "_law_rows" rS (xh K):=by
 refine yW.ok lz .(c) .(b)
 .obtain ⟨d,L,n,m,rfl,_⟩:=h;rfl
 obtain ⟨d,L,n,m,rfl,hn,hm,hs,q⟩:=h;refine #[_,(aB (aI (i:=3) lz.nd rfl (av rfl) (bN ae))
   (aB (bU PassesOwn.never rfl (fb rfl T.de (aa (pv 1) ae)) (aO (i:=4) lz.nd rfl (av rfl)) (aB (aI (i:=5) lz.nd rfl (av rfl) (aG Pc hr (aa (pv 0) (aa (pv 2) ae))))
   (cx (bq (aW dH (aG bV hr (aa (pv 0) (aa ah ae))) ah (bf _)) (au (aI (i:=5) lz.nd rfl (av rfl) (cE ae))) bE)
   (cx (bq (PW.pt (iW (aW ix (pv 4) ah (bf _)) (iV (aW dH (aG bV hr (aa (pv 0) (aa ah ae))) ah (bf _))))) (au (aI (i:=5) lz.nd rfl (av rfl) (aH (bg (K:=K)) (pv 3) (aC c6 (pv 4) ah) (λ_ _=>rfl)))) bE)
   (au (cM (dJ F.plainAttrs_list F.slot_list_append F.type_list_append dM (pv 3) (aa (pv 5) ae))))))))
   (au (aK (dI (gQ (K:=K)) rfl T.fB boot_tuple (aa (pv 3) ae)))))),?_]
 refine #[.(B),λp hp=>?_];have g0:=az hp .(V);have ndT:∀{H':Hp} {a:Addr} {o:List V},LS K L d H'->H' a=some (.tup o)->a≠d:=λ{H' a o} s e z=>by
  obtain ⟨_,_,_,e2,_⟩:=s.ex;rw[<-z,e]at e2;cases e2
 have nd:∀{H':Hp} {a:Addr},LS K L d H'->H' a=none->a≠d:=λ{H' a} s e z=>by
  obtain ⟨_,_,_,e2,_⟩:=s.ex;rw[<-z,e]at e2;cases e2
 have hpd:p≠d:=nd hs hp;refine #[_,rfl,_,rfl,by lia,by lia,?_];rw[fU];refine fc (n:=n) (λi U H2=>∃(as:List Addr) (Re:List (List Int)) (x4 x5:Option V),U=[some (.ref d),some (.int n),some (.int m),some (.ref p),x4,x5]/\H2 p=some (.lst .(D))/\bH H2 as Re/\Re.length=i/\aX Re/\(∀ row∈Re,row.length<=m)/\(∀ b o,b≠d->b≠p->H b=some o->H2 b=some o)/\LS K L d H2) ?_ ?_ ?_
 .exact #[[],[],_,_,rfl,ag,.nil,rfl,#[(λr hr=>nomatch hr),(λr hr=>nomatch hr)],(λr hr=>nomatch hr),λb o _ n e=>g0 b o e,hs.same g0]
 .rintro i U H2 hi ⟨as,Re,x4,x5,rfl,h2,hA,hl,hR,hlen,k2,s2⟩;rw[gk];have hal:=hA.length;have old:∀{H3:Hp} {b:Addr} {o:HO},(∀ b o,b≠d->H2 b=some o->H3 b=some o)->b≠d->b≠p->H b=some o->H3 b=some o:=λk n1 n2 e=>k _ _ n1 (k2 _ _ n1 n2 e);refine #[_,rfl,_,rfl,d,L,m,rfl,.(ka),s2,λa row H3 ha hup hky hlr h3 k3 s3=>?_];refine #[λU' H'=>∃(a:Addr) (row:List Int),U'=[some (.ref d),some (.int n),some (.int m),some (.ref p),some (.int i),some (.ref a)]/\H' a=some (.tup (row.map V.int))/\row.Pairwise .(Ca)/\(∀ x∈row,-(10^60)<x/\x<10^60)/\row.length<=m/\(∀ b o,b≠d->H2 b=some o->H' b=some o)/\LS K L d H',?_,?_]
  .refine #[_,rfl,d,L,4,rfl,by decide,s3,λv H4 _ _ k4 s4=>#[rfl,_,rfl,?_]];have h4:=k4 _ _ (ndT s3 h3) h3;refine ite2 .(fa) .(fa)
   .refine #[.(B),λu hu=>?_];have su:=az hu (.tup []);exact #[u,[],rfl,ag,.nil,(λx hx=>nomatch hx),cv _,λb o n1 e=>su _ _ (k4 _ _ n1 (k3 _ _ n1 e)),s4.same su]
   .exact #[a,row,rfl,h4,hup,hky,by lia,λb o n1 e=>k4 _ _ n1 (k3 _ _ n1 e),s4]
  rintro U' H4 ⟨a,row,rfl,h4,hup,hky,hlr,k4,s4⟩;refine #[λU' H'=>∃(a:Addr) (row:List Int),U'=[some (.ref d),some (.int n),some (.int m),some (.ref p),some (.int i),some (.ref a)]/\H' a=some (.tup (row.map V.int))/\row.Pairwise .(Ca)/\(∀ x∈row,-(10^60)<x/\x<10^60)/\row.length<=m/\(∀ b o,b≠d->H2 b=some o->H' b=some o)/\LS K L d H',?_,?_]
  .refine #[_,rfl,_,_,rfl,rfl,_,rfl,?_];refine ite2 .(t) .(t)
   .have c':(0:Int)<(i:Int):=bO c;refine #[_,rfl,d,L,4,rfl,by decide,s4,λv H5 _ _ k5 s5=>#[rfl,_,rfl,?_]];have h5:=k5 _ _ (ndT s4 h4) h4;refine ite2 .(fa) .(fa)
    .have h5p:H5 p=some (.lst .(D)):=k5 _ _ hpd (k4 _ _ hpd h2);obtain ⟨b,hb1,hb2⟩:=hA.get (k:=i-1) .(a);have hb5:=k5 _ _ (ndT s4 (k4 _ _ (ndT s2 hb2) hb2)) (k4 _ _ (ndT s2 hb2) hb2);have hat:atI .(D) ((i:Int)-1)=some (.ref b):=by
      rw[show (i:Int)-1=((i-1:Nat):Int) by lia];exact eB hb1
     refine #[_,rfl,_,rfl,_,_,rfl,rfl,_,_,_,_,rfl,rfl,SqL.of h5p,hat,?_];have hmem:ay Re (i-1)∈Re:=by
      unfold ay;rw[aF,aA (show i-1<Re.length by lia)];exact cC _
     exact #[b,ay Re (i-1),rfl,hb5,hR.up _ hmem,hR.key _ hmem,hlen _ hmem,λb o n1 e=>k5 _ _ n1 (k4 _ _ n1 e),s5]
    .exact #[a,row,rfl,h5,hup,hky,hlr,λb o n1 e=>k5 _ _ n1 (k4 _ _ n1 e),s5]
   .refine iteF ?_;exact #[a,row,rfl,h4,hup,hky,hlr,k4,s4]
  rintro U' H5 ⟨a,row,rfl,h5,hup,hky,hlr,k5,s5⟩;have h5p:H5 p=some (.lst .(D)):=k5 _ _ hpd h2;have keep:∀ b o,b≠p->H5 b=some o->upd H5 p (.lst (as.map V.ref++[.ref a])) b=some o:=λb o n e=>by rw[aj n];exact e
  have ntp:∀{b:Addr} {o:List V},H5 b=some (.tup o)->b≠p:=λ{b o} e z=>by
   rw[z,h5p]at e;cases e
  refine #[_,rfl,.inl #[rfl,_,SqL.of h5p],_,rfl,_,_,_,rfl,rfl,h5p,bh .(y),?_];refine #[as++[a],Re++[row],_,_,rfl,?_,?_,by rw[aS,cS,hl],hR.snoc hup hky,λr hr=>?_,λb o n1 n2 e=>keep _ _ n2 (k5 _ _ n1 (k2 _ _ n1 n2 e)),?_]
  .rw[ag,bw];rfl
  .refine bH.snoc ?_ (keep _ _ (ntp h5) h5);have hA5:bH H5 as Re:=bH.keep (p:=d) (λa row e=>ndT s2 e) k5 hA;exact bH.keep (p:=p) (d:=p) (λa row e=>ntp e) keep hA5
  .rcases bX.mp hr with z|z
   .exact hlen r z
   .rw[bM.mp z];exact hlr
  .exact LS.put hs hp (λb o n1 n2 e=>k5 _ _ n1 (k2 _ _ n1 n2 e)) s5
 .rintro U H2 ⟨as,Re,x4,x5,rfl,h2,hA,hl,hR,hlen,k2,s2⟩;refine #[_,rfl,p,_,rfl,.inl #[SqL.of h2,λt ht=>?_]];have sn:=az ht (.tup .(D));have ht0:H t=none:=by
   cases e:H t with
   | none=>rfl
   | some o=>
    have:=k2 t o (nd s2 ht) (bt (aw h2 ht)) e;rw[ht]at this;cases this
  exact q t as Re _ ht0 (hA.ext sn) hl hR hlen ag (λb o n e=>sn _ _ (k2 b o n (aw e hp) e)) (s2.same sn)
abbrev En:=Int×Int
def eC (k:Nat)(es:List En):Nat:=(es.filter λe=>decide (e.2=(k:Int))).length
def tM (k:Nat)(es:List En):List Nat:=(List.range (es.length+1)).map λp=>eC k (es.take p)
def L9 (cs:List En)(s:Nat)(e:En):Nat:=if e∈cs then cs.idxOf e+1 else s
def stN (cs es:List En):Nat:=es.foldl (L9 cs) 0
def tN (es cs:List En):List Nat:=(List.range (es.length+1)).map λp=>stN cs (es.take p)
def inN (cs es:List En):Nat:=(es.filter λe=>decide (e∈cs)).length
def tO (h:Rise l):l.Nodup:=List.Pairwise.imp (λ{a b} (q:pLt a b=true) z=>by
 subst z;have:=fZ.mp q;lia) h
def jt (h1:Rise l)(h2:Rise m)(h:∀ e,e∈l↔e∈m):l=m:=by
 refine List.Perm.eq_of_pairwise (le:=λa b=>pLt a b=true) (λa b _ _ q1 q2=>?_) h1 h2 ((uD (tO h1) (tO h2)).mpr h);have:=fZ.mp q1;have:=fZ.mp q2;lia
def dQ (T:aP ps){k:Nat}(hk:k<ps.length+1){e:En}:e∈af ps Re k↔e∈ownE Re k\/∃ c,par ps c=some k/\e∈bC .(z):=by
 rw[gY T hk,mH,oq];unfold gF;constructor
 .rintro ⟨l,hl,he⟩;rcases bX.mp hl with q|q
  .obtain ⟨c,hc,rfl⟩:=cA.mp q;exact .inr #[c,(da.mp hc).2,he]
  .rw[bM.mp q]at he;exact .inl he
 .rintro (h|⟨c,hc,h⟩)
  .exact #[_,bX.mpr (.inr (bM.mpr rfl)),h]
  .exact #[_,bX.mpr (.inl (cA.mpr #[c,da.mpr #[(bj T hc).2,hc],rfl])),h]
def Ma (T:aP ps)(R:aX Re){k c:Nat}(hk:k<ps.length+1)(hc:par ps c=some k){e:En}:(e∈af ps Re k/\e∈af ps Re c)↔e∈bC .(z):=by
 have hcn:=(bj T hc).2;constructor
 .rintro ⟨h1,h2⟩;obtain ⟨j,g1,g2,g3,_⟩:=iL T R hcn e h2;rcases (dQ T hk).mp h1 with h|⟨d,hd,h⟩
  .have h4:=(j5 hk h).2;have:j=k:=by lia
   subst this;rw[fP T (bj T hc).1]at g2;cases g2
  .by_cases z:d=c
   .rw[z]at h;exact h
   .obtain ⟨i,_,f2,f3,_⟩:=iL T R (bj T hd).2 e ((cU _).mem h);have:i=j:=by lia
    subst this;exact (jY T hd hc z i i (aq _) f2 g2).elim
 .intro h;exact #[(dQ T hk).mpr (.inr #[c,hc,h]),(cU _).mem h]
def DR (T:aP ps)(R:aX Re){k c:Nat}(hk:k<ps.length+1)(hc:par ps c=some k):(.(e).filter λe=>decide (e∈af ps Re c))=bC .(z):=by
 refine jt (List.Pairwise.filter _ (cz T R hk)) ((cz T R (bj T hc).2).sublist (cU _)) λe=>?_;rw[d6,decide_eq_true_eq];exact Ma T R hk hc
def Mb {l:List En}{p:Nat}(h:p<l.length):l.take (p+1)=l.take p++[l[p]]:=cG h
def Mc (k:Nat)(es:List En)(e:En):eC k (es++[e])=eC k es+if e.2=(k:Int) then 1 else 0:=by
 unfold eC;rw[dg,aS];congr 1;by_cases h:e.2=(k:Int)
 .rw[ak h,dE (by exact aV h)];rfl
 .rw[ao h,fE (by rw[bx h];decide)];rfl
def Md (cs es:List En)(e:En):inN cs (es++[e])=inN cs es+if e∈cs then 1 else 0:=by
 unfold inN;rw[dg,aS];congr 1;by_cases h:e∈cs
 .rw[ak h,dE (by exact aV h)];rfl
 .rw[ao h,fE (by rw[bx h];decide)];rfl
def DS (cs es:List En)(e:En):stN cs (es++[e])=if e∈cs then cs.idxOf e+1 else stN cs es:=by
 unfold stN;rw[List.foldl_append];rfl
def spL (es:List En):List Nat:=(List.range es.length).filter λj=>(cm es).getD j false
def tP (es:List En):dO (cm es) (spL es):=by
 have:=C5 (cm es);rw[gX]at this;exact this
def DT {es:List En}{ms:List Bool}(hl:es.length=ms.length):∀ i,i<=ms.length->ck (es.take i) (ms.take i)=((List.range i).filter λj=>ms.getD j false).map λj=>es.getD j (0,0)
 | 0,_=>rfl
 | i+1,h=>by
  have ft:((List.range (i+1)).filter λj=>ms.getD j false)=((List.range i).filter λj=>ms.getD j false)++(if ms.getD i false=true then [i] else []):=by
   rw[iT,dg];congr 1;by_cases h:ms.getD i false=true
   .rw[ak h,dE (p:=λj=>ms.getD j false) (a:=i) h];rfl
   .rw[ao h,fE (p:=λj=>ms.getD j false) (a:=i) h];rfl
  rw[tG (show i<es.length by lia),tG (show i<ms.length by lia),wU (by rw[bu,bu];lia),DT hl i .(a),ft,bw];congr 1;have e:ms.getD i false=ms[i]' .(a):=by
   rw[aF,aA (show i<ms.length by lia)];rfl
  rw[e];split
  .rw[List.map_singleton,aF,aA (show i<es.length by lia)];rfl
  .rfl
def DU (es:List En):bC es=(spL es).map λj=>es.getD j (0,0):=by
 have hl:=gX es;have:=DT (es:=es) (ms:=cm es) hl.symm (cm es).length (aq _);rw[bG (aq _),bG .(a),hl]at this;exact this
def stAt (sp:List Nat)(t:Nat):Nat:=if t=0 then 0 else sp.getD (t-1) 0+1
def Me {l:List En}(h:l.Nodup){j:Nat}(hj:j<l.length):l.idxOf (l.getD j (0,0))=j:=by
 rw[aF,aA hj];exact List.Nodup.idxOf_getElem h j hj
def Mf {P:En->Bool}:∀(l:List En) (p:Nat),(l.take p).filter P=(l.filter P).take ((l.take p).filter P).length:=by
 intro l p;have e:l.filter P=(l.take p).filter P++(l.drop p).filter P:=by rw[<-dg,eY]
 rw[e,List.take_append_of_le_length (aq _),bG (aq _)]
def DV (T:aP ps)(R:aX Re){k c:Nat}(hk:k<ps.length+1)(hc:par ps c=some k):∀ p,p<= .(e).length->stN .(z) (.(e).take p)=stAt (spL .(z)) (inN .(z) (.(e).take p))
 | 0,_=>rfl
 | p+1,h=>by
  have ih:=DV T R hk hc p .(a);have hp:p< .(e).length:=by lia
  have hft:=Mf (P:=λe=>decide (e∈af ps Re c)) .(e) (p+1);rw[DR T R hk hc]at hft;rw[Mb hp]at hft ⊢;rw[DS,Md];by_cases z: .(e)[p]∈af ps Re c
  .rw[ak z,ak z];unfold stAt;rw[ao .(a),kH];congr 1;rw[dg,dE (by exact aV z),mj,aS,cS]at hft;have hin:(.(e).take p |>.filter λe=>decide (e∈af ps Re c)).length=inN .(z) (.(e).take p):=rfl;generalize inN .(z) (.(e).take p)=t at hin ⊢;have hg:(bC .(z))[t]?=some .(e)[p]:=by
    have h2:((.(e).take p |>.filter λe=>decide (e∈af ps Re c))++[.(e)[p]])[t]?=some .(e)[p]:=by
     rw[gi .(a),hin,mf];rfl
    rw[hft,oh]at h2;split at h2
    .exact h2
    .cases h2
   rw[DU,aZ]at hg;obtain ⟨j,hj,he⟩:=gI.mp hg;have hjl:j< .(z).length:=by
    have:=(tP .(z)).lt (cX hj);rw[gX]at this;exact this
   rw[<-he,Me (lM T R (bj T hc).2) hjl,aF,hj];rfl
  .rw[ao z,ao z,jG];exact ih
def Mg {es:List En}(he:∀ e∈es,dZ 64 e)(hri:Rise es){t:Nat}(ht:t<(spL es).length):stAt (spL es) (t+1)=stAt (spL es) t+2\/stAt (spL es) (t+1)=stAt (spL es) t+3:=by
 have M:=wQ he hri;have S:=tP es;have g:∀ i (h:i<(spL es).length),(spL es).getD i 0=(spL es)[i]:=λi h=>by
  rw[aF,aA h];rfl
 unfold stAt;rw[ao .(a),kH];by_cases z:t=0
 .subst z;rw[ak rfl,g 0 ht];have hlen:2<=(cm es).length:=by
   refine jF λy=>?_;have:=S.none M .(a);rw[this]at ht;simp at ht
  obtain ⟨_,h1,h2⟩:=S.first M hlen;lia
 .rw[ao z,g t ht,g (t-1) .(a)];have:=S.step M (t:=t-1) .(a);have e:t-1+1=t:=by lia
  have e2:(spL es)[t-1+1]' .(a)=(spL es)[t]:=by congr 1
  rw[e2]at this;lia
def Mh {es:List En}(he:∀ e∈es,dZ 64 e)(hri:Rise es):stAt (spL es) (spL es).length<=es.length/\es.length<=stAt (spL es) (spL es).length+1:=by
 have M:=wQ he hri;have S:=tP es;have hl:=gX es;unfold stAt;by_cases z:(spL es).length=0
 .rw[ak z];refine #[cv _,?_];refine jF λy=>?_;obtain ⟨h,_⟩:=S.first M .(a);lia
 .have g:(spL es).getD ((spL es).length-1) 0=(spL es)[(spL es).length-1]' .(a):=by
   rw[aF,aA .(a)];rfl
  rw[ao z,g];have h1:=S.lt (cC (show (spL es).length-1<(spL es).length by lia));refine #[by lia,?_];have hlen:2<=(cm es).length:=jF λy=>z (by rw[S.none M y];rfl);have h2:=S.last M hlen .(a);lia
def lP {f:Nat->Nat}{i:Nat}:((List.range (i+1)).map f).map nV=(((List.range i).map f)++[f i]).map nV:=by
 rw[iT,bw];rfl
def xi {us:List Nat}:atI ((us++[c]).map nV) (-1)=some (nV c):=by
 unfold atI ixN;rw[bw];simp;rw[ak .(a)];show (List.map nV us++[nV c])[(-1+((us.length:Int)+1)).toNat]?=_;rw[show (-1+((us.length:Int)+1)).toNat=us.length by lia,gi (by rw[ai];exact aq _),ai,mf];rfl
inductive xj (K:Frag)(vs:List V)(H:Hp)(Q:VK)(w_1:XK):Prop
 | c:∀(a:Addr) (ws:List V) (es:List En) (k:Nat),vs=[.ref a,.int k]->H a=some (.lst ws)->aD K H es ws->es.length<=900->(∀(p:Addr) (H':Hp),H p=none->Same H H'->H' p=some (.lst ((tM k es).map nV))->Q (.ref p) H')->xj K vs H Q w_1
def Mi (T:Txt K mg)(yX:DF K mg "owns_of" p6 rE):FC P w K mg base 1 "owns_of" rE (xj K):=by
 refine yX.ok vT .(c) .(b)
 .obtain ⟨a,ws,es,k,rfl,_⟩:=h;rfl
 obtain ⟨a,ws,es,k,rfl,ha,hw,hz,q⟩:=h;have hwl:=hw.length;refine #[_,(aB (aI (i:=2) vT.nd rfl (av rfl) (bN (aa ah ae)))
   (aB (bU PassesOwn.never rfl (dW (pv 0)) (aO (i:=3) vT.nd rfl (av rfl)) (au (cM (dJ F.plainAttrs_list F.slot_list_append F.type_list_append dM (pv 2) (aa (zZ (aW dH (aH (bA (K:=K)) (pv 3) ah (λ_ _=>rfl)) (pv 1) (bf _)) (aC bY (aH (bg (K:=K)) (pv 2) (fe ff ah) (λ_ _=>rfl)) ah) (aH (bg (K:=K)) (pv 2) (fe ff ah) (λ_ _=>rfl))) ae)))))
   (au (aK (pv 2))))),?_]
 refine #[.(g),λp hp=>?_];have k0:But p H (upd H p (.lst [V.int 0])):=λb o n e=>by rw[aj n];exact e
 have nap:a≠p:=aw ha hp;refine #[_,rfl,a,rfl,#[_,SqL.of (k0 _ _ nap ha)],?_];refine iZ (xs:=ws) (λi U H2=>∃ x3:Option V,U=[some (.ref a),some (.int k),some (.ref p),x3]/\H2 p=some (.lst (((List.range (i+1)).map λp=>eC k (es.take p)).map nV))/\But p H H2) ?_ ?_ ?_ ?_
 .exact #[_,rfl,ag,k0]
 .rintro i U H2 _ ⟨x3,rfl,_,k2⟩;exact SqL.of (k2 _ _ nap ha)
 .rintro i x U H2 hx ⟨x3,rfl,h2,k2⟩;obtain ⟨e,he,hhas⟩:=hw.get hx;obtain ⟨b,y1,y2,rfl,hb,hy1,hy2⟩:=(show hasP K H e x from hhas);have hy1:y1=.int e.1:=hy1;have hy2:y2=.int e.2:=hy2;subst hy1 hy2;have h2b:=k2 _ _ (aw hb hp) hb;have hi:=(aT.mp he).1;have htk:es.take (i+1)=es.take i++[e]:=by
   rw[cG hi,(aT.mp he).2]
  have hon:=Mc k (es.take i) e;rw[<-htk]at hon;rw[lP]at h2;have hlen:((((List.range i).map λp=>eC k (es.take p))++[eC k (es.take i)]).map nV).length < sizeLine:=bh (by
   rw[ai,aS,ai,d9,cS];lia)
  have fin:∀ v:Nat,v=eC k (es.take (i+1))->upd H2 p (.lst ((((List.range i).map λp=>eC k (es.take p))++[eC k (es.take i)]).map nV++[nV v])) p=some (.lst (((List.range (i+1+1)).map λp=>eC k (es.take p)).map nV)):=λv hv=>by
   rw[ag,lP,bw (l₂:=[eC k (es.take (i+1))]),lP,hv];rfl
  refine #[_,rfl,.inl #[rfl,_,SqL.of h2],?_];refine #[_,rfl,_,_,_,_,rfl,rfl,SqT.of h2b,rfl,_,rfl,rfl,_,rfl,?_];refine ite2 .(t) .(t)
  .have c':e.2=(k:Int):=V.int.inj (bO c);rw[ak c']at hon;refine #[_,rfl,_,rfl,_,_,_,_,rfl,rfl,SqL.of h2,xi,_,_,rfl,rfl,_,_,_,rfl,rfl,h2,hlen,?_];refine #[_,rfl,?_,λb o n e=>by rw[aj n];exact k2 b o n e];have:=fin (eC k (es.take i)+1) hon.symm;rw[<-this];rfl
  .have c':¬ e.2=(k:Int):=λz=>c (by rw[z];exact aV rfl);rw[ao c',jG]at hon;refine #[_,rfl,_,rfl,_,_,_,_,rfl,rfl,SqL.of h2,xi,_,_,_,rfl,rfl,h2,hlen,?_];exact #[_,rfl,fin _ hon.symm,λb o n e=>by rw[aj n];exact k2 b o n e]
 .rintro U H2 ⟨x3,rfl,h2,k2⟩;refine .(A);rw[<-hwl]at h2;exact q p H2 hp (λb o e=>k2 b o (aw e hp) e) h2
def kvT:Nat->List En->List (List Key×V)
 | _,[]=>[]
 | o,e::es=>([.inl e.1,.inl e.2],nV (o+1))::kvT (o+1) es
abbrev kE (e:En):List Key:=[.inl e.1,.inl e.2]
def Mj (h:kE e=kE f):e=f:=by
 obtain ⟨a,b⟩:=e;obtain ⟨c,d⟩:=f;injection h with h1 h2;injection h2 with h2 _;have h1:a=c:=Sum.inl.inj h1;have h2:b=d:=Sum.inl.inj h2;rw[h1,h2]
def xk (e:En):∀(o:Nat) (es:List En),valV (kvT o es) (kE e)=if e∈es then some (nV (o+es.idxOf e+1)) else none
 | _,[]=>rfl
 | o,f::es=>by
  show valV ((kE f,nV (o+1))::kvT (o+1) es) (kE e)=_;by_cases z:f=e
  .subst z;rw[iA rfl,ak bZ,List.idxOf_cons_self]
  .rw[fL (λy=>z (Mj y)),xk e (o+1) es];have hm:(e∈f::es)=(e∈es):=propext #[λh=>(aU.mp h).resolve_left λy=>z y.symm,λh=>bP _ h];by_cases y:e∈es
   .have ei:(f::es).idxOf e=es.idxOf e+1:=by
     rw[List.idxOf_cons,beq_false_of_ne z];rfl
    rw[ak y,ak (by rw[hm];exact y),ei];congr 2;have:o+1+es.idxOf e+1=o+(es.idxOf e+1)+1:=by lia
    rw[this]
   .rw[ao y,ao (by rw[hm];exact y)]
def DW (e:En):∀(o:Nat) (es:List En),kvT o (es++[e])=kvT o es++[(kE e,nV (o+es.length+1))]
 | _,[]=>rfl
 | o,f::es=>by
  show (kE f,nV (o+1))::kvT (o+1) (es++[e])=(kE f,nV (o+1))::(kvT (o+1) es++_);rw[DW e (o+1) es,dC,show o+1+es.length+1=o+(es.length+1)+1 by lia]
def DX:∀(o:Nat) (es:List En),(kvT o es).length=es.length
 | _,[]=>rfl
 | o,e::es=>by
  show (kvT (o+1) es).length+1=es.length+1;rw[DX (o+1) es]
inductive xl (K:Frag)(vs:List V)(H:Hp)(Q:VK)(w_1:XK):Prop
 | c:∀(a c:Addr) (ws vs':List V) (es cs:List En),vs=[.ref a,.ref c]->H a=some (.lst ws)->aD K H es ws->es.length<=900->H c=some (.lst vs')->aD K H cs vs'->cs.length<=900->cs.Nodup->(∀(p:Addr) (H':Hp),H p=none->Same H H'->H' p=some (.lst ((tN es cs).map nV))->Q (.ref p) H')->xl K vs H Q w_1
def Ml (T:Txt K mg)(yY:DF K mg "starts_of" p7 rF):FC P w K mg base 1 "starts_of" rF (xl K):=by
 refine yY.ok lr .(c) .(b)
 .obtain ⟨a,c,ws,us,es,cs,rfl,_⟩:=h;rfl
 obtain ⟨a,c,ws,us,es,cs,rfl,ha,hw,hz,hc,hu,hzc,hnd,q⟩:=h;have hwl:=hw.length;have hul:=hu.length;refine #[_,(aB (aI (i:=2) lr.nd rfl (av rfl) A6)
   (aB (bU PassesOwn.never rfl (vi rfl T.yp (aa (pv 1) ae)) (iY rfl (dF (aO (i:=3) lr.nd rfl (av rfl)) (dF (aO (i:=4) lr.nd rfl (av rfl)) iX))) (au (jO (dN hr) (pv 2) (pv 4) (aC bY (pv 3) ah) rfl)))
   (aB (aI (i:=5) lr.nd rfl (av rfl) (bN (aa ah ae)))
   (aB (bU PassesOwn.never rfl (dW (pv 0)) (aO (i:=4) lr.nd rfl (av rfl)) (au (cM (dJ F.plainAttrs_list F.slot_list_append F.type_list_append dM (pv 5) (aa (GT (dN hr) (pv 2) (pv 4) (aH (bg (K:=K)) (pv 5) (fe ff ah) (λ_ _=>rfl)) #[rfl,rfl,rfl,rfl]) ae)))))
   (au (aK (pv 5))))))),?_]
 intro D hD;have k0:But D H (upd H D (.dT [])):=λb o n e=>by rw[aj n];exact e
 have naD:a≠D:=aw ha hD;have ncD:c≠D:=aw hc hD;refine #[_,rfl,c,rfl,#[_,SqL.of (k0 _ _ ncD hc)],?_];refine vj (xs:=us) (λi U H2=>∃ x3 x4:Option V,U=[some (.ref a),some (.ref c),some (.ref D),x3,x4,none]/\H2 D=some (.dT (kvT 0 (cs.take i)))/\But D H H2) ?_ ?_ ?_ ?_
 .exact #[_,_,rfl,ag,k0]
 .rintro i U H2 _ ⟨x3,x4,rfl,_,k2⟩;exact SqL.of (k2 _ _ ncD hc)
 .rintro i x U H2 r hx ⟨x3,x4,rfl,h2,k2⟩ hr;obtain ⟨e,he,hhas⟩:=hu.get hx;obtain ⟨b,y1,y2,rfl,hb,hy1,hy2⟩:=(show hasP K H e x from hhas);have hy1:y1=.int e.1:=hy1;have hy2:y2=.int e.2:=hy2;subst hy1 hy2;have hi:=(aT.mp he).1;have htk:cs.take (i+1)=cs.take i++[e]:=by
   rw[cG hi,(aT.mp he).2]
  refine #[r,_,rfl,SqT.of ag,rfl,_,_,rfl,_,_,rfl,rfl,?_];have sr:=az hr (.tup [.int (i:Int),.ref b]);have h3:=sr _ _ h2;have k3:But D H (upd H2 r (.tup [.int (i:Int),.ref b])):=λb o n e=>sr b o (k2 b o n e);clear sr;generalize upd H2 r (.tup [.int (i:Int),.ref b])=H3 at h3 k3 ⊢;have h3b:=k3 _ _ (aw hb hD) hb;have hnot:e∉cs.take i:=λz=>by
   have hn2:=hnd;rw[<-eY (i+1) cs,htk]at hn2;have:=(fF.mp (fF.mp hn2).1).2.2 e z e (bM.mpr rfl);exact this rfl
  refine #[_,rfl,_,_,rfl,rfl,_,rfl,_,rfl,D,_,rfl,DPut.t (k:=kE e) h3 h3b (bh (by rw[DX,bu];lia)),?_];refine #[_,_,rfl,?_,λb o n e=>by rw[aj n];exact k3 b o n e];rw[ag,kO _ (by rw[xk,ao hnot]),htk,DW,bu,jH .(a),kK];rfl
 .rintro U H2 ⟨x3,x4,rfl,h2,k2⟩;rw[bG .(a)]at h2;refine #[.(g),λp hp=>?_];have nDp:D≠p:=aw h2 hp;have s2:Same H H2:=λb o e=>k2 b o (aw e hD) e;have k3:But p H2 (upd H2 p (.lst [V.int 0])):=λb o n e=>by rw[aj n];exact e
  have h2a:=s2 _ _ ha;refine #[_,rfl,a,rfl,#[_,SqL.of (k3 _ _ (aw h2a hp) h2a)],?_];refine iZ (xs:=ws) (λi U H4=>∃ x4:Option V,U=[some (.ref a),some (.ref c),some (.ref D),x3,x4,some (.ref p)]/\H4 p=some (.lst (((List.range (i+1)).map λp=>stN cs (es.take p)).map nV))/\But p H2 H4) ?_ ?_ ?_ ?_
  .exact #[_,rfl,ag,k3]
  .rintro i U H4 _ ⟨x4,rfl,_,k4⟩;exact SqL.of (k4 _ _ (aw h2a hp) h2a)
  .rintro i x U H4 hx ⟨x4,rfl,h4,k4⟩;obtain ⟨e,he,hhas⟩:=hw.get hx;obtain ⟨b,y1,y2,rfl,hb,hy1,hy2⟩:=(show hasP K H e x from hhas);have hy1:y1=.int e.1:=hy1;have hy2:y2=.int e.2:=hy2;subst hy1 hy2;have h2b:=s2 _ _ hb;have h4b:=k4 _ _ (aw h2b hp) h2b;have h4D:=k4 _ _ nDp h2;have hi:=(aT.mp he).1;have htk:es.take (i+1)=es.take i++[e]:=by
    rw[cG hi,(aT.mp he).2]
   have hon:=DS cs (es.take i) e;rw[<-htk]at hon;rw[lP]at h4;have hlen:((((List.range i).map λp=>stN cs (es.take p))++[stN cs (es.take i)]).map nV).length < sizeLine:=bh (by
    rw[ai,aS,ai,d9,cS];lia)
   refine #[_,rfl,.inl #[rfl,_,SqL.of h4],?_];refine #[_,rfl,D,rfl,.inr #[_,.inl h4D],_,rfl,_,rfl,_,rfl,_,_,_,_,rfl,rfl,SqL.of h4,xi,_,DGet.t (k:=kE e) h4D h4b,?_];have ev:(valV (kvT 0 cs) (kE e)).getD (nV (stN cs (es.take i)))=nV (stN cs (es.take (i+1))):=by
    rw[xk,hon];by_cases z:e∈cs
    .rw[ak z,ak z,kK];rfl
    .rw[ao z,ao z];rfl
   rw[ev];refine #[_,_,_,rfl,rfl,h4,hlen,?_];refine #[_,rfl,?_,λb o n e=>by rw[aj n];exact k4 b o n e];rw[ag,lP,bw (l₂:=[stN cs (es.take (i+1))]),lP];rfl
  .rintro U H4 ⟨x4,rfl,h4,k4⟩;refine .(A);rw[<-hwl]at h4;refine q p H4 (s2.free hp) (s2.trans λb o e=>k4 b o (aw e hp) e) h4
def fQ {α β:Type}{F G:α->β->Prop}(h:∀ a b,F a b->G a b):∀{l:List α} {m:List β},Paired F l m->Paired G l m
 | _,_,.nil=>.nil
 | _,_,.cons a t=>.cons (h _ _ a) (fQ h t)
def xm {α β:Type}{F:α->β->Prop}{a:α}{b:β}:∀{l:List α} {m:List β},Paired F l m->F a b->Paired F (l++[a]) (m++[b])
 | _,_,.nil,h=>.cons h .nil
 | _,_,.cons a t,h=>.cons a (xm t h)
def xn {α β:Type}{F:α->β->Prop}:∀{l:List α} {m:List β} {i:Nat} {a:α},Paired F l m->l[i]?=some a->∃ b,m[i]?=some b/\F a b
 | _,_,i,a,.nil,h=>by simp at h
 | _::_,b::_,0,a,.cons h t,e=>by
  have:=aJ (show some _=some a from e);subst this;exact #[b,rfl,h]
 | _::_,_::_,i+1,a,.cons h t,e=>by
  obtain ⟨q,h1,h2⟩:=xn (i:=i) t (by simpa using e);exact #[q,by simpa using h1,h2]
def xo {α β:Type}{F:α->β->Prop}:∀{l:List α} {m:List β} {i:Nat} {b:β},Paired F l m->m[i]?=some b->∃ a,l[i]?=some a/\F a b
 | _,_,i,a,.nil,h=>by simp at h
 | a::_,_::_,0,b,.cons h t,e=>by
  have:=aJ (show some _=some b from e);subst this;exact #[a,rfl,h]
 | _::_,_::_,i+1,a,.cons h t,e=>by
  obtain ⟨q,h1,h2⟩:=xo (i:=i) t (by simpa using e);exact #[q,by simpa using h1,h2]
def dk (Av:List Addr)(H:Hp)(es:List En)(ps:List Nat)(Re:List .(h))(c:Nat)(x:V):Prop:=∃ j s,x=.ref j/\s∉Av/\H j=some (.tup [.int (c:Int),.ref s])/\H s=some (.lst ((tN es .(z)).map nV))
def BrAt (Av:List Addr)(H:Hp)(ps:List Nat)(Re:List .(h))(k:Nat)(x:V):Prop:=∃ b o j xs,x=.ref b/\o∉Av/\j∉Av/\H b=some (.tup [.int (.(e).length:Nat),.ref o,.ref j])/\H o=some (.lst ((tM k .(e)).map nV))/\H j=some (.lst xs)/\Paired (dk Av H .(e) ps Re) .(la) xs
def dk.same {Re:List .(h)}{c:Nat}(e:Same H H')(h:dk Av H es ps Re c x):dk Av H' es ps Re c x:=by
 obtain ⟨j,s,h1,h2,h3,h4⟩:=h;exact #[j,s,h1,h2,e _ _ h3,e _ _ h4]
def dk.but {p:Addr}{Av:List Addr}{Re:List .(h)}{c:Nat}{zs:List V}(k:But p H H')(hp:p∈Av)(hz:H p=some (.lst zs))(h:dk Av H es ps Re c x):dk Av H' es ps Re c x:=by
 obtain ⟨j,s,h1,h2,h3,h4⟩:=h;exact #[j,s,h1,h2,k _ _ (λz=>by rw[z,hz]at h3;cases h3) h3,k _ _ (λz=>h2 (z ▸ hp)) h4]
def dk.less {Av Av':List Addr}{Re:List .(h)}{c:Nat}(s:∀ a∈Av',a∈Av)(h:dk Av H es ps Re c x):dk Av' H es ps Re c x:=by
 obtain ⟨j,q,h1,h2,h3,h4⟩:=h;exact #[j,q,h1,λz=>h2 (s _ z),h3,h4]
def BrAt.same {Re:List .(h)}{k:Nat}(e:Same H H')(h:BrAt Av H ps Re k x):BrAt Av H' ps Re k x:=by
 obtain ⟨b,o,j,xs,h1,h2,h3,h4,h5,h6,h7⟩:=h;exact #[b,o,j,xs,h1,h2,h3,e _ _ h4,e _ _ h5,e _ _ h6,fQ (λa b=>dk.same e) h7]
def BrAt.but {p:Addr}{Av:List Addr}{Re:List .(h)}{k:Nat}{zs:List V}(kk:But p H H')(hp:p∈Av)(hz:H p=some (.lst zs))(h:BrAt Av H ps Re k x):BrAt Av H' ps Re k x:=by
 obtain ⟨b,o,j,xs,h1,h2,h3,h4,h5,h6,h7⟩:=h;exact #[b,o,j,xs,h1,h2,h3,kk _ _ (λz=>by rw[z,hz]at h4;cases h4) h4,kk _ _ (λz=>h2 (z ▸ hp)) h5,kk _ _ (λz=>h3 (z ▸ hp)) h6,fQ (λa b=>dk.but kk hp hz) h7]
def BrAt.less {Re:List .(h)}{k:Nat}(h:BrAt Av H ps Re k x):BrAt [] H ps Re k x:=by
 obtain ⟨b,o,j,xs,h1,h2,h3,h4,h5,h6,h7⟩:=h;exact #[b,o,j,xs,h1,nofun,nofun,h4,h5,h6,fQ (λa b=>dk.less (λa z=>absurd z cJ)) h7]
inductive xp (K:Frag)(vs:List V)(H:Hp)(Q:VK)(w_1:XK):Prop
 | c:∀(st:Addr) (ps:List Nat) (Re:List (List Int)) (t rs:Addr) (as:List Addr) (pf:Addr) (qs:List Addr),vs=[.ref t,.ref pf]->dw H st ps Re t rs as->H pf=some (.lst (qs.map V.ref))->bI K H ps Re (List.range (ps.length+1)) qs->(∀(p:Addr) (xs:List V) (H':Hp),H p=none->Same H H'->H' p=some (.lst xs)->Paired (BrAt [] H' ps Re) (List.range (ps.length+1)) xs->Q (.ref p) H')->xp K vs H Q w_1
def Mm (T:Txt K mg)(yZ:DF K mg "bridges_of" p8 rG)(yS:FC P w K mg base 1 "children" mY (lK K))(Pd:FC P w K mg base 1 "starts_of" rF (xl K))(Pf:FC P w K mg base 1 "owns_of" rE (xj K)):FC P w K mg base 2 "bridges_of" rG (xp K):=by
 refine yZ.ok mP .(c) .(b)
 .obtain ⟨st,ps,Re,t,rs,as,pf,qs,rfl,_⟩:=h;rfl
 obtain ⟨st,ps,Re,t,rs,as,pf,qs,rfl,S,h1,hF,q⟩:=h;refine #[_,(aB (aI (i:=2) mP.nd rfl (av rfl) (bN ae))
   (aB (bU PassesOwn.never rfl (vi rfl T.yp (aa (pv 1) ae)) (iY rfl (dF (aO (i:=3) mP.nd rfl (av rfl)) (dF (aO (i:=4) mP.nd rfl (gh rfl)) iX))) (aB (jd (i:=5) (N:=["child","full","fulls"]) (own:=1) (cap:=[4,1]) mP.nd rfl rfl rfl (dW (aG yS hr (aa (pv 0) (aa (pv 3) ae)))) #[rfl,rfl,rfl,rfl,rfl,rfl] (λ_ _ _ _ _=>(aO (i:=0) (show List.Nodup (["child","full","fulls"]:List Str) by decide +kernel) rfl (av rfl))) (λ_ _ _ _ _=>fY) (λ_ _ _ _ _=>(cE (aa (pv 0) (aa (aG Pd hr (aa (pv 1) (aa (aH (bg (K:=K)) (pv 2) (pv 0) (λ_ _=>rfl)) ae))) ae)))))
   (au (cM (dJ F.plainAttrs_list F.slot_list_append F.type_list_append dM (pv 2) (aa (cE (aa (aN (bF (K:=K)) rfl T.bD bz (aa (pv 4) ae)) (aa (aG Pf hr (aa (pv 4) (aa (pv 3) ae))) (aa (pv 5) ae)))) ae))))))
   (au (aK (pv 2))))),?_]
 have hfew:=S.few;have hkeys:=S.keys.k;have hql:=hF.length;rw[d9]at hql;refine #[.(B),λp hp=>?_];have k0:But p H (upd H p .(V)):=λb o n e=>by rw[aj n];exact e
 have npf:pf≠p:=aw h1 hp;refine #[_,rfl,pf,rfl,#[_,SqL.of (k0 _ _ npf h1)],?_];refine vj (xs:=qs.map V.ref) (λi U H2=>∃(xs:List V) (x4 x5 x6:Option V),U=[some (.ref t),some (.ref pf),some (.ref p),x4,x5,x6]/\H2 p=some (.lst xs)/\Paired (BrAt [p] H2 ps Re) (List.range i) xs/\But p H H2) ?_ ?_ ?_ ?_
 .exact #[[],_,_,_,rfl,ag,.nil,k0]
 .rintro i U H2 _ ⟨xs,x4,x5,x6,rfl,_,_,k2⟩;exact SqL.of (k2 _ _ npf h1)
 .rintro i x U H2 r hx ⟨xs,x4,x5,x6,rfl,h2,hB,k2⟩ hr;rw[aZ]at hx;obtain ⟨qq,hqi,rfl⟩:=gI.mp hx;have hi:i<ps.length+1:=by
   have:=(aT.mp hqi).1;lia
  have hxl:xs.length=i:=by
   have:=Paired.length hB;rw[d9]at this;exact this.symm
  have noP:∀{b:Addr} {o:HO},H b=some o->b≠p:=λe=>aw e hp;have s12:Same H H2:=λb o e=>k2 b o (noP e) e;have S2:=S.same s12;have F2:=hF.same s12;have h2f:=s12 _ _ h1;obtain ⟨q2,hq2,ws,hq3,hw3⟩:=F2.get (i:=i) (j:=i) (ij hi);rw[hqi]at hq2;have:=aJ hq2;subst this;refine #[r,_,rfl,SqT.of ag,rfl,_,_,rfl,_,_,rfl,rfl,?_];have sr:=az hr (.tup [.int (i:Int),.ref qq]);generalize upd H2 r (.tup [.int (i:Int),.ref qq])=H3 at sr ⊢;refine #[_,rfl,_,rfl,t,ps,i,rfl,sr _ _ S2.tr,by lia,λc H4 hc s4 h4=>?_];have s24:Same H2 H4:=sr.trans s4;refine #[c,rfl,#[_,SqL.of h4],λD hD=>?_];have hpD:p≠D:=aw (s24 _ _ h2) hD;have F4:=F2.same s24;have h4q:=s24 _ _ hq3;have h4w:=hw3.mono s24.ext;have hfl:=tL S.T S.len (Re:=Re) hi;refine iC (xs:= .(xa).map nV) (λm U H5=>∃(ys:List V) (x0:Option V),U=[x0,some (.ref qq),some (.ref pf)]/\H5 D=some (.lst ys)/\Paired (dk [p,D] H5 (af ps Re i) ps Re) (.(xa).take m) ys/\But D H4 H5) ?_ ?_ ?_ ?_
  .exact #[[],_,rfl,ag,.nil,λb o n e=>by rw[aj n];exact e]
  .rintro m U H5 _ ⟨ys,x0,rfl,_,_,k5⟩;exact k5.sq (SqL.of h4) hD
  .rintro m u x U H5 hx hm ⟨ys,x0,rfl,h5,hJ,k5⟩;obtain ⟨hmi,rfl⟩:=lJ hx;have hcl:=nk ps i (ps.length+1);have hyl:=Paired.length hJ;rw[bu]at hyl;rw[ai]at hm;have hcm: .(xa)[m]?=some (.(xa).getD m 0):=by
    rw[aF,aA hmi];rfl
   have htk2: .(xa).take (m+1)= .(xa).take m++[.(xa).getD m 0]:=by
    rw[cG hmi,aF,aA hmi];rfl
   rw[htk2];generalize .(xa).getD m 0=ch at hcm ⊢;obtain ⟨hchn,hchp⟩:=da.mp (cX hcm);have s45:Same H4 H5:=λb o e=>k5 b o (aw e hD) e;have F5:=F4.same s45;obtain ⟨qc,hqc,wc,hqc3,hwc⟩:=F5.get (i:=ch) (j:=ch) (ij hchn);have hfc:=tL S.T S.len (Re:=Re) hchn;refine fN ?_;refine #[_,rfl,_,rfl,_,rfl,_,rfl,_,_,_,_,rfl,rfl,SqL.of (s45 _ _ (s24 _ _ h2f)),eB hqc,?_];refine #[qq,qc,ws,wc,af ps Re i,af ps Re ch,rfl,s45 _ _ h4q,h4w.mono s45.ext,by lia,hqc3,hwc,by lia,lM S.T S.R hchn,λsa H6 hsa s6 h6=>?_];refine #[.(l),λj hj=>?_];have sj:=az hj (.tup [.int (ch:Int),.ref sa]);have hjj:upd H6 j (.tup [.int (ch:Int),.ref sa]) j=some (.tup [.int (ch:Int),.ref sa]):=ag;generalize upd H6 j (.tup [.int (ch:Int),.ref sa])=H7 at sj hjj ⊢;have s57:=s6.trans sj;have h7D:=s57 _ _ h5;have nsaD:sa≠D:=bt (aw h5 hsa);have nsap:sa≠p:=bt (aw (s45 _ _ (s24 _ _ h2)) hsa);have kD:But D H7 (upd H7 D (.lst (ys++[.ref j]))):=λb o n e=>by rw[aj n];exact e
   refine #[_,h7D,bh .(a),u-1,by lia,by rw[ai];lia,ys++[.ref j],_,rfl,ag,?_,λb o n e=>by rw[aj n];exact s57 _ _ (k5 b o n e)];refine xm (fQ (λa b h=>dk.but kD (bP _ bZ) h7D (dk.same s57 h)) hJ) ?_;refine dk.but kD (bP _ bZ) h7D #[j,sa,rfl,?_,hjj,sj _ _ h6];intro z;rcases aU.mp z with z|z
   .exact nsap z
   .exact nsaD (bM.mp z)
  .rintro U H5 ⟨ys,x0,rfl,h5,hJ,k5⟩;rw[ai,bG (aq _)]at hJ;have s45:Same H4 H5:=λb o e=>k5 b o (aw e hD) e;have s25:=s24.trans s45;refine #[_,rfl,.inl #[rfl,_,SqL.of (s25 _ _ h2)],_,rfl,_,_,rfl,.inl (SqL.of (s45 _ _ h4q)),?_];have hwl:=h4w.length;refine #[_,rfl,_,rfl,qq,ws,af ps Re i,i,rfl,s45 _ _ h4q,h4w.mono s45.ext,by lia,λo H6 ho s6 h6=>?_];refine #[_,rfl,.(Z),λb hb=>?_];have sb:=az hb (.tup [.int ((ws.length:Nat):Int),.ref o,.ref D]);have hbb:upd H6 b (.tup [.int ((ws.length:Nat):Int),.ref o,.ref D]) b=some (.tup [.int ((ws.length:Nat):Int),.ref o,.ref D]):=ag;generalize upd H6 b (.tup [.int ((ws.length:Nat):Int),.ref o,.ref D])=H7 at sb hbb ⊢;have s57:=s6.trans sb;have s27:=s25.trans s57;have h7p:=s27 _ _ h2;have kp:But p H7 (upd H7 p (.lst (xs++[.ref b]))):=λb o n e=>by rw[aj n];exact e
   have nop:o≠p:=bt (aw (s25 _ _ h2) ho);refine #[_,_,_,rfl,rfl,h7p,bh .(a),?_];refine #[xs++[.ref b],_,_,_,rfl,ag,?_,λb o n e=>by rw[aj n];exact s27 _ _ (k2 b o n e)];rw[iT];refine xm (fQ (λa b h=>BrAt.but kp bZ h7p (BrAt.same s27 h)) hB) ?_;refine BrAt.but kp bZ h7p #[b,o,D,ys,rfl,λz=>nop (bM.mp z),λz=>hpD (bM.mp z).symm,?_,sb _ _ h6,s57 _ _ h5,?_]
   .rw[hbb,hwl]
   .exact fQ (λa b h=>dk.same s57 (dk.less (λa z=>by rw[bM.mp z];exact bZ) h)) hJ
 .rintro U H2 ⟨xs,x4,x5,x6,rfl,h2,hB,k2⟩;refine .(A);rw[ai,<-hql]at hB;refine q p xs H2 hp (λb o e=>k2 b o (aw e hp) e) h2 (fQ (λa b=>BrAt.less) hB)
def DY {m:Nat}:∀{Re:List (List Int)},(∀ row∈Re,row.length<=m)->dA Re<=Re.length*m
 | [],_=>cv _
 | r::Re,h=>by
  have h1:=h r bZ;have h2:=DY (m:=m) (Re:=Re) λx hx=>h x (bP _ hx);unfold dA at h2 ⊢;rw[bL,cK,dC,Nat.succ_mul];lia
def bc (es:List (Int×Int))(key:Int):Nat:=(es.filter λe=>decide (e.1<key)).length
def Mn {es:List (Int×Int)}{key:Int}{m:Nat}(hm:m<=es.length)(h1:∀ i,i<m->decide ((es.getD i (0,0)).1<key)=true)(h2:∀ i,m<=i->i<es.length->decide ((es.getD i (0,0)).1<key)=false):bc es key=m:=by
 unfold bc
 conv=>lhs;rw[<-eY m es]
 rw[dg,aS];have e1:(es.take m).filter (λe=>decide (e.1<key))=es.take m:=by
  rw[oo];intro x hx;obtain ⟨i,hi,rfl⟩:=cY hx;rw[bu]at hi;have:=h1 i .(a);rw[aF,aA .(a)]at this;rw[List.getElem_take];exact this
 have e2:(es.drop m).filter (λe=>decide (e.1<key))=[]:=by
  rw[iq];intro x hx;obtain ⟨i,hi,rfl⟩:=cY hx;rw[eU]at hi;have:=h2 (m+i) .(a) .(a);rw[aF,aA .(a)]at this;rw[List.getElem_drop];intro z;rw[show decide (es[m+i].1<key)=false from this]at z;cases z
 rw[e1,e2,bu,ie];lia
def nE (h:Rise es):es.Pairwise (λa b=>a.1<=b.1):=h.imp λ{a b} h=>by
 have:=fZ.mp h;lia
def lQ (es:List (Int×Int))(key:Int):bc es key<=es.length:=eX _ _
def tQ {key:Int}:∀{es:List (Int×Int)},es.Pairwise (λa b=>a.1<=b.1)->(∀ e∈es.take (bc es key),e.1<key)/\∀ e∈es.drop (bc es key),¬ e.1<key
 | [],_=>#[λe he=>(by simp at he),λe he=>(by simp at he)]
 | a::es,h=>by
  rw[oE]at h;obtain ⟨h1,h2⟩:=tQ (key:=key) h.2;by_cases c:a.1<key
  .have e:bc (a::es) key=bc es key+1:=by
    unfold bc;rw[dE (by simpa using c),dC]
   rw[e,List.take_succ_cons,List.drop_succ_cons];refine #[λx hx=>?_,h2];rcases aU.mp hx with z|z
   .rw[z];exact c
   .exact h1 x z
  .have all:∀ x∈a::es,¬ x.1<key:=λx hx=>by
    rcases aU.mp hx with z|z
    .rw[z];exact c
    .have:=h.1 x z;lia
   have e:bc (a::es) key=0:=by
    unfold bc;rw[iq.mpr λx hx=>by simpa using all x hx];rfl
   rw[e];exact #[λx hx=>(by simp at hx),λx hx=>all x (by simpa using hx)]
def DZ {es:List (Int×Int)}(h:es.Pairwise (λa b=>a.1<=b.1)):es.take (bc es key)=es.filter λe=>decide (e.1<key):=by
 obtain ⟨h1,h2⟩:=tQ (key:=key) h
 conv=>rhs;rw[<-eY (bc es key) es]
 rw[dg,oo.mpr λe he=>aV (h1 e he),iq.mpr λe he z=>h2 e he (bO z),bQ]
def xq {es:List (Int×Int)}(h:es.Pairwise (λa b=>a.1<=b.1)){i:Nat}(hi:i<es.length):(i<bc es key->es[i].1<key)/\(bc es key<=i->¬ es[i].1<key):=by
 obtain ⟨h1,h2⟩:=tQ (key:=key) h;refine #[λz=>h1 _ ?_,λz=>h2 _ ?_]
 .exact List.mem_take_iff_getElem.mpr #[i,by lia,rfl]
 .refine List.mem_drop_iff_getElem.mpr #[i-bc es key,by lia,?_];congr 1;lia
structure Mo (C F hd:List (Int×Int))(key:Int)(st:Nat):Prop where
 lo:st<=bc C key
 hi:bc C key<=st+2
 none:st=0->∀ e∈hd,¬ e.1<key
 some:st≠0->∃ h:st-1<C.length,C[st-1]∈hd/\C[st-1].1<key/\C[st-1]∈F
def Mp (T:aP ps)(R:aX Re)(few:ps.length<=40){k c:Nat}(hk:k<ps.length+1)(hc:par ps c=some k)(key:Int) :
  Mo .(z) .(e) (bC .(z)) key (stN .(z) (.(e).take (bc .(e) key))):=by
 have hcn:=(bj T hc).2;have hst:=DV T R hk hc (Re:=Re) (bc .(e) key) (lQ _ _);have hF:=nE (cz T R hk);have hC:=nE (cz T R hcn);have hcome:=DR T R hk hc (Re:=Re);have hgr:=λt=>Mg (j6 T R few hcn) (cz T R hcn) (t:=t);have hla:=Mh (j6 T R few hcn) (cz T R hcn);have hsub:=cU .(z);have hpick:=DU .(z);have hspl:∀ j∈spL (af ps Re c),j< .(z).length:=λj hj=>by
  have:=(tP .(z)).lt hj;rw[gX]at this;exact this
 have ht:inN .(z) (.(e).take (bc .(e) key))=bc (bC .(z)) key:=by
  unfold inN;rw[DZ hF,<-hcome];unfold bc;rw[oF,oF];congr 2
  funext e
  rw[Bool.and_comm]
 rw[hst,ht];have hmem:∀ e∈bC (af ps Re c),e∈af ps Re k:=λe he=>by
  rw[<-hcome]at he;exact (d6.mp he).1
 clear hst ht hcome hF;generalize af ps Re k=F at hmem ⊢;generalize af ps Re c=C at *;have hhd:(bC C).Pairwise (λa b=>a.1<=b.1):=hC.sublist hsub;have hlen:(bC C).length=(spL C).length:=by rw[hpick,ai]
 have hti:=lQ (bC C) key;have hat:∀ i (h:i<(spL C).length),∃(h1:(spL C)[i]<C.length) (h2:i<(bC C).length),(bC C)[i]=C[(spL C)[i]]:=λi h=>by
  have h1:=hspl _ (cC h);refine #[h1,by lia,?_];have e:(bC C)[i]?=some C[(spL C)[i]]:=by
   rw[hpick,aZ,aA h];show some (C.getD (spL C)[i] (0,0))=_;rw[aF,aA h1];rfl
  exact (aT.mp e).2
 have bat:=λi h=>xq (key:=key) hhd (i:=i) h;have cat:=λi h=>xq (key:=key) hC (i:=i) h;have hall:=tQ (key:=key) hhd;generalize bc (bC C) key=t at *;have hsp:∀ i (h:i<(spL C).length),stAt (spL C) (i+1)=(spL C)[i]+1:=λi h=>by
  unfold stAt;rw[ao .(a),kH,aF,aA h];rfl
 have before:∀ t',t=t'+1->∃(h:t'<(spL C).length) (h1:(spL C)[t']<C.length),stAt (spL C) t=(spL C)[t']+1/\C[(spL C)[t']]∈bC C/\C[(spL C)[t']].1<key:=λt' e=>by
  have h:t'<(spL C).length:=by lia
  obtain ⟨h1,h2,h3⟩:=hat t' h;refine #[h,h1,by rw[e];exact hsp t' h,?_,?_]
  .rw[<-h3];exact cC h2
  .rw[<-h3];exact (bat t' h2).1 .(a)
 refine #[?_,?_,?_,?_]
 .cases t with
  | zero=>exact cv _
  | succ t'=>
   obtain ⟨h,h1,e,_,hlt⟩:=before t' rfl;rw[e];refine Nat.succ_le_of_lt (om λz=>(cat _ h1).2 z hlt)
 .rcases kL t (spL C).length with z|z
  .obtain ⟨h1,h2,h3⟩:=hat t z;have hge:¬ C[(spL C)[t]].1<key:=by
    rw[<-h3];exact (bat t h2).2 (aq _)
   have hle:bc C key<=(spL C)[t]:=jF λy=>hge ((cat _ h1).1 y);have:=hgr t z;rw[hsp t z]at this;lia
  .have e:t=(spL C).length:=by lia
   rw[e];have:=lQ C key;lia
 .intro z;cases t with
  | zero=>exact λe he=>hall.2 e (by simpa using he)
  | succ t'=>
   obtain ⟨_,_,e,_⟩:=before t' rfl;lia
 .intro z;cases t with
  | zero=>exact absurd rfl z
  | succ t'=>
   obtain ⟨h,h1,e,hm,hlt⟩:=before t' rfl;have e2:stAt (spL C) (t'+1)-1=(spL C)[t']:=by lia
   refine #[by lia,?_];have e3:C[stAt (spL C) (t'+1)-1]' .(a)=C[(spL C)[t']]:=by
    congr 1
   rw[e3];exact #[hm,hlt,hmem _ hm]
def lR {β:Type}{F:Nat->β->Prop}{n:Nat}{l:List β}{k:Nat}(h:Paired F .(K) l)(hk:k<n):∃ b,l[k]?=some b/\F k b:=xn h (ij hk)
def D0 :∀{cs:List Nat} {xs:List V},Paired (dk Av H es ps Re) cs xs->∃ kvs:List (Key×V),Paired (λ(z:V) (kv:Key×V)=>∃ b,z=.ref b/\H b=some (.tup [kV kv.1,kv.2])) xs kvs/\kvs.map (·.1)=cs.map (λc:Nat=>(Sum.inl (c:Int):Key))/\
  ∀ c∈cs,cs.Nodup->∃ s,valV kvs (.inl (c:Int))=some (.ref s)/\H s=some (.lst ((tN es .(z)).map nV))
 | _,_,.nil=>#[[],.nil,rfl,λc hc=>nomatch hc]
 | c0::cs,_,.cons ⟨j,s,e1,_,e3,e4⟩ t=>by
  obtain ⟨kvs,h1,h2,h3⟩:=D0 t;refine #[(.inl (c0:Int),.ref s)::kvs,.cons #[j,e1,e3] h1,by rw[bL,h2];rfl,λc hc hn=>?_];rw[dD]at hn;unfold valV;by_cases z:c=c0
  .subst z;exact #[s,by rw[List.find?_cons_of_pos .(k)];rfl,e4]
  .rw[List.find?_cons_of_neg .(T)];rcases aU.mp hc with y|y
   .exact absurd y z
   .exact h3 c y hn.2
def D1 (ps:List Nat)(k n:Nat):(bR ps k n).Nodup:=by
 unfold bR;exact List.Pairwise.filter _ List.nodup_range
def figN (n:Nat):Nat:=if h:n=0 then 0 else figN (n/2)+1
termination_by n
decreasing_by exact Nat.div_lt_self (uC h) .(q)
def xt:figN 0=0:=by
 unfold figN;rfl
def tR {n:Nat}(h:n≠0):figN n=figN (n/2)+1:=by
 rw[figN,dif_neg h]
def D6:∀(n a b:Nat),b<=n->a<=b->figN a<=figN b
 | 0,a,b,hb,ha=>by
  have e1:a=0:=by lia
  have e2:b=0:=by lia
  rw[e1,e2];exact aq _
 | n+1,a,b,hb,ha=>by
  by_cases z:a=0
  .rw[z,xt];exact cv _
  .rw[tR z,tR (show b≠0 by lia)];exact Nat.succ_le_succ (D6 n _ _ .(a) .(a))
def xu:∀(n m:Nat),m<=n->figN m<=m
 | 0,m,h=>by
  rw[show m=0 by lia,xt];exact aq _
 | n+1,m,h=>by
  by_cases z:m=0
  .rw[z,xt];exact aq _
  .rw[tR z];have:=xu n (m/2) .(a);lia
inductive tS (P:Program)(w:World)(K:Frag)(mg:Str->Option Value)(base:Heap)(vs:List V)(H:Hp)(Q:VK)(w_1:XK):Prop
 | c:∀(n:Nat) (f:Addr) (ps:List Str) (sp:Sp) (b:Nat->Bool) (R:List Nat->Hp->Prop),vs=[.int n,.ref f]->FV P w K mg base 3 f ps sp->R [] H->(∀(i:Nat) (L:List Nat) (H1:Hp) (Q1:VK),i<n->L.length<=figN n->R L H1->(∀ H2,R (L++[i]) H2->Q1 (.bl (b i)) H2)->sp [.int i] H1 Q1 E0)->(∀ i j,i<=j->j<n->b j=true->b i=true)->(∀(m:Nat) (L:List Nat) (H':Hp),m<=n->(∀ i,i<m->b i=true)->(∀ i,m<=i->i<n->b i=false)->L.length<=figN n->R L H'->Q (.int m) H')->tS P w K mg base vs H Q w_1
def Mq:L2.St->Hp->Nat:=λU _=>match U with
 | [_,_,some (.int lo),some (.int hi),_]=>(hi-lo).toNat
 | _=>0
def D7 (T:Txt K mg)(uo:DF K mg "how_many_below" pE mT):FC P w K mg base 4 "how_many_below" mT (tS P w K mg base):=by
 refine uo.ok lq .(c) .(b)
 .obtain ⟨n,f,ps,sp,b,R,rfl,_⟩:=h;rfl
 obtain ⟨n,f,ps,sp,b,R,rfl,hF,hR,hask,hmono,q⟩:=h;refine #[_,(aB (aI (i:=2) lq.nd rfl (av rfl) ah)
   (aB (aI (i:=3) lq.nd rfl (av rfl) (pv 0))
   (aB (mr PassesOwn.never (aW fH (pv 2) (pv 3) (bf _)) (aB (aI (i:=4) lq.nd rfl (av rfl) (aC my (aC bY (pv 2) (pv 3)) ah))
   (au (bq (cL (vC (kr:=3) hr (pv 1) (aa (pv 4) ae))) (au (aI (i:=2) lq.nd rfl (av rfl) (aC bY (pv 4) ah))) (au (aI (i:=3) lq.nd rfl (av rfl) (pv 4)))))))
   (au (aK (pv 2)))))),?_]
 refine .(A);refine vv (λU H2=>∃(lo hi:Nat) (x4:Option V) (L:List Nat),U=[some (.int n),some (.ref f),some (.int lo),some (.int hi),x4]/\lo<=hi/\hi<=n/\(∀ i,i<lo->b i=true)/\(∀ i,hi<=i->i<n->b i=false)/\L.length+figN (hi-lo)<=figN n/\R L H2) (λU H2=>∃(lo:Nat) (x4:Option V) (L:List Nat),U=[some (.int n),some (.ref f),some (.int lo),some (.int lo),x4]/\lo<=n/\(∀ i,i<lo->b i=true)/\(∀ i,lo<=i->i<n->b i=false)/\L.length<=figN n/\R L H2) Mq ?_ ?_ ?_ ?_
 .exact #[0,n,_,[],rfl,cv _,aq _,λi h=>absurd h (iR _),λi h1 h2=>absurd h2 (ku.mpr h1),by rw[ie,Nat.sub_zero,kK];exact aq _,hR]
 .rintro U H2 ⟨lo,hi,x4,L,rfl,h1,h2,hb1,hb2,hL,hR2⟩;refine #[_,rfl,_,rfl,_,_,rfl,rfl,_,rfl,?_];refine ite2 .(t) .(t)
  .have c1:(lo:Int)<(hi:Int):=bO c;have em:((lo:Int)+(hi:Int))/2=(((lo+hi)/2:Nat):Int):=by lia
   have m1:lo<=(lo+hi)/2:=by lia
   have m2:(lo+hi)/2<hi:=by lia
   have fst:figN (hi-lo)=figN ((hi-lo)/2)+1:=tR .(a);have fle:∀ d,d<=(hi-lo)/2->(L++[(lo+hi)/2]).length+figN d<=figN n:=λd hd=>by
    have:=D6 _ d _ (aq _) hd;rw[aS,cS];lia
   refine #[_,rfl,_,rfl,_,_,rfl,rfl,_,_,rfl,rfl,.(Y),?_];refine #[_,rfl,f,3,ps,sp,rfl,hF,aq _,_,rfl,?_];show sp [V.int (((lo:Int)+(hi:Int))/2)] H2 _ E0;rw[em];refine hask ((lo+hi)/2) L H2 _ .(a) .(a) hR2 λH3 hR3=> .(A);cases hbm:b ((lo+hi)/2) with
   | true=>
    refine iteT ?_;refine #[_,rfl,_,_,rfl,rfl,#[(lo+hi)/2+1,hi,some (V.int (((lo:Int)+(hi:Int))/2)),_,?_,by lia,h2,λi hi'=>hmono i ((lo+hi)/2) .(a) .(a) hbm,hb2,fle _ .(a),hR3],?_]
    .show [some (V.int n),some (V.ref f),some (V.int (((lo:Int)+(hi:Int))/2+1)),some (V.int hi),some (V.int (((lo:Int)+(hi:Int))/2))]=_;rw[em,oy];rfl
    .show ((hi:Int)-(((lo:Int)+(hi:Int))/2+1)).toNat<((hi:Int)-(lo:Int)).toNat;lia
   | false=>
    refine iteF ?_;refine #[_,rfl,#[lo,(lo+hi)/2,some (V.int (((lo:Int)+(hi:Int))/2)),_,?_,m1,by lia,hb1,λi hi' hin=>?_,fle _ .(a),hR3],?_]
    .show [some (V.int n),some (V.ref f),some (V.int lo),some (V.int (((lo:Int)+(hi:Int))/2)),some (V.int (((lo:Int)+(hi:Int))/2))]=_;rw[em]
    .cases hbi:b i with
     | false=>rfl
     | true=>
      have:=hmono ((lo+hi)/2) i hi' hin hbi;rw[hbm]at this;cases this
    .show ((((lo:Int)+(hi:Int))/2)-(lo:Int)).toNat<((hi:Int)-(lo:Int)).toNat;lia
  .have c1:¬ (lo:Int)<(hi:Int):=kI (iS.mpr c);have e:hi=lo:=by lia
   subst e;exact #[hi,_,L,rfl,h2,hb1,hb2,by lia,hR2]
 .intro U H Q Q' m h;obtain ⟨y1,e3,y2,e4,i2,j2,f2,g2,b2,e5,q⟩:=h;exact #[y1,e3,y2,e4,i2,j2,f2,g2,b2,e5,m _ _ q]
 rintro U H2 ⟨lo,x4,L,rfl,h2,hb1,hb2,hL,hR2⟩;refine .(A);exact q lo L H2 h2 hb1 hb2 hL hR2
abbrev j8:Str:=(envOfC ("first_place" : Str) (aE ll) 0 0 .none).qual ++ "<lambda>"
abbrev j9:Pos:=#[203,44,203,73]
inductive nF (K:Frag)(H:Hp):V->Bool->Prop where
 | int (i:Int):nF K H (.int i) true
 | bl (b:Bool):nF K H (.bl b) false
 | oth (x:V) (t:String) (ty:TyOf K H x (.type t)) (h2:kitO t "int" = some false):nF K H x false
inductive tT (K:Frag)(vs:List V)(H:Hp)(Q:VK)(w_1:XK):Prop
 | c:∀(x:V) (b:Bool),vs=[x]->nF K H x b->Q (.bl b) H->tT K vs H Q w_1
def Mr (T:Txt K mg)(y8:DF K mg "is_whole" pA mQ):FC P w K mg base 1 "is_whole" mQ (tT K):=by
 refine y8.ok JG .(c) .(b)
 .obtain ⟨x,b,rfl,_⟩:=h;rfl
 obtain ⟨x,b,rfl,hk,q⟩:=h;refine #[_,(au (aK (oI (aN (jR (K:=K)) rfl T.fS boot_isinstance (aa (pv 0) (aa (eZ (v:=.ty "int") rfl T.Om boot_int rfl) ae))) (oH (Fq (aN (jR (K:=K)) rfl T.fS boot_isinstance (aa (pv 0) (aa (eZ (v:=.ty "bool") rfl T.yo boot_bool rfl) ae)))))))),?_];cases hk with
 | int i=>
  refine #[_,rfl,_,_,_,_,rfl,.int _,G5,_,rfl,?_];refine iteT ?_;refine #[_,rfl,_,_,_,_,rfl,.int _,vb,_,rfl,?_];exact q
 | bl c=>
  refine #[_,rfl,_,_,_,_,rfl,.bl _,(show kitO "bool" "int" = some true by decide +kernel),_,rfl,?_];refine iteT ?_;refine #[_,rfl,_,_,_,_,rfl,.bl _,G6,_,rfl,?_];exact q
 | oth x t ty h2=>
  refine #[_,rfl,_,_,_,_,rfl,ty,h2,_,rfl,?_];refine iteF ?_;exact q
inductive tU (K:Frag)(H:Hp):V->Bool->Prop where
 | int (i:Int) (b:Bool) (h:b=decide ((if i<0 then -i else i)<10^60)):tU K H (.int i) b
 | bl (b:Bool):tU K H (.bl b) false
 | oth (x:V) (t:String) (ty:TyOf K H x (.type t)) (h1:kitO t "bool" = some false) (h2:kitO t "int" = some false):tU K H x false
inductive tV (K:Frag)(vs:List V)(H:Hp)(Q:VK)(w_1:XK):Prop
 | c:∀(x:V) (b:Bool),vs=[x]->tU K H x b->Q (.bl b) H->tV K vs H Q w_1
def Ms (T:Txt K mg)(za:DF K mg "is_key" pB mR)(zb:FC P w K mg base 1 "is_whole" mQ (tT K)):FC P w K mg base 2 "is_key" mR (tV K):=by
 refine za.ok JH .(c) .(b)
 .obtain ⟨x,b,rfl,_⟩:=h;rfl
 obtain ⟨x,b,rfl,hk,q⟩:=h;refine #[_,(au (aK (oI (aG zb hr (aa (pv 0) ae)) (oH (oK fH (aN uO rfl T.yn boot_abs (aa (pv 0) ae)) (aC i0 ah ah) (bf _)))))),?_];cases hk with
 | int i b hb=>
  refine #[_,rfl,_,true,rfl,.int i,_,rfl,?_];refine iteT ?_;refine #[_,rfl,_,rfl,_,_,rfl,rfl,#[by decide,by decide,by decide],_,_,rfl,rfl,?_];rw[hb]at q;exact q
 | bl c=>
  refine #[_,rfl,_,false,rfl,.bl c,_,rfl,?_];refine iteF ?_;exact q
 | oth x t ty h1 h2=>
  refine #[_,rfl,_,false,rfl,.oth x t ty h2,_,rfl,?_];refine iteF ?_;exact q
structure dB (H:Hp)(wa:Addr)(ps w:List Nat):Prop where
 at_:H wa=some (.lst (w.map nV))
 len:w.length<=900
 ne:w≠[]
 ch:lI ps w
 kn:∀ x∈w,x<ps.length+1
def Mt {sp:Sp}{k:Nat}(F:FC P w K mg base k x ps sp2)(h:∀ vs H Q E,sp vs H Q E->sp2 vs H Q E):FC P w K mg base k x ps sp:=by
 obtain ⟨f,fd,ok,r⟩:=F.ex;exact #[f,fd,#[λvs H Q E z=>ok.len vs H Q E (h _ _ _ _ z),λA outer s H args us vs Q E hr he hb hv hs=>ok.run A outer s H args us vs Q E hr he hb hv (h _ _ _ _ hs)],r]
def Mu {sp:Sp}{k:Nat}(F:FM P w K mg base CS k x ps sp2)(h:∀ vs H Q E,sp vs H Q E->sp2 vs H Q E):FM P w K mg base CS k x ps sp:=by
 obtain ⟨f,fd,ok,r⟩:=F.ex;exact #[f,fd,#[λvs H Q E z=>ok.len vs H Q E (h _ _ _ _ z),λA outer s H args us vs Q E hr he hb hv hs=>ok.run A outer s H args us vs Q E hr he hb hv (h _ _ _ _ hs)],r]
inductive AnyV (K:Frag)(H:Hp):V->Prop where
 | int (i:Int):AnyV K H (.int i)
 | oth (x:V) (h:∀ i,x≠.int i) (w:nF K H x false):AnyV K H x
def gZ (n:Nat)(x:V):Bool:=match x with
 | .int i=>decide (0<=i)&&decide (i<n)
 | _=>false
def Mv {x:V}(h:∀ i,x≠.int i):gZ n x=false:=by
 cases x with
 | int i=>exact absurd rfl (h i)
 | _=>rfl
inductive tW (K:Frag)(vs:List V)(H:Hp)(Q:VK)(w_1:XK):Prop
 | c:∀(n:Nat) (x:V),vs=[.int n,x]->AnyV K H x->Q (.bl (gZ n x)) H->tW K vs H Q w_1
def Mw (T:Txt K mg)(zd:DF K mg "is_one_of_first" pO lC)(zb:FC P w K mg base 1 "is_whole" mQ (tT K)):FC P w K mg base 2 "is_one_of_first" lC (tW K):=by
 refine zd.ok JN .(c) .(b)
 .obtain ⟨n,x,rfl,_⟩:=h;rfl
 obtain ⟨n,x,rfl,hx,q⟩:=h;refine #[_,(au (aK (oI (aG zb hr (aa (pv 1) ae)) (oH (FH uL fH ah (pv 1) (pv 0)))))),?_];cases hx with
 | oth x h w=>
  refine #[_,rfl,_,false,rfl,w,_,rfl,?_];refine iteF ?_;rw[Mv h]at q;exact q
 | int i=>
  refine #[_,rfl,_,true,rfl,.int i,_,rfl,?_];refine iteT ?_;refine #[_,rfl,_,_,rfl,rfl,_,rfl,?_];refine ite2 .(t) .(t)
  .refine #[_,rfl,_,_,rfl,rfl,?_];have e:gZ n (.int i)=decide (i<(n:Int)):=by
    show (decide (0<=i)&&decide (i<(n:Int)))=_;rw[show decide (0<=i)=true from c,Bool.true_and]
   rw[e]at q;exact q
  .have e:gZ n (.int i)=false:=by
    show (decide (0<=i)&&decide (i<(n:Int)))=_;rw[show decide (0<=i)=false from iS.mpr c,nW]
   rw[e]at q;exact q
inductive tX (K:Frag)(vs:List V)(H:Hp)(Q:VK)(w_1:XK):Prop
 | c:∀(m x:Int),vs=[.int m,.int x]->0<=x->x<m->Q (.bl true) H->tX K vs H Q w_1
def Mx (h:tX K vs H Q E):tW K vs H Q E:=by
 obtain ⟨m,x,rfl,h0,h1,q⟩:=h;obtain ⟨n,rfl⟩:=Int.eq_ofNat_of_zero_le (show 0<=m by lia);refine #[n,.int x,rfl,.int x,?_];rw[show gZ n (.int x)=true from (eV _ _).mpr #[aV h0,aV h1]];exact q
def xv {α:Type}{f:α->V}{us:List α}{c:α}:atI ((us++[c]).map f) (-1)=some (f c):=by
 unfold atI ixN;rw[bw];simp;rw[ak .(a)];show (List.map f us++[f c])[(-1+((us.length:Int)+1)).toNat]?=_;rw[show (-1+((us.length:Int)+1)).toNat=us.length by lia,gi (by rw[ai];exact aq _),ai,mf];rfl
def dB.same {w:List Nat}(h:dB H wa ps w)(e:Same H H'):dB H' wa ps w:=#[e _ _ h.at_,h.len,h.ne,h.ch,h.kn]
inductive D8 (K:Frag)(vs:List V)(H:Hp)(Q:VK)(w_1:XK):Prop
 | c:∀(t a:Addr) (ps w:List Nat),vs=[.ref t,.ref a]->H t=some (.tup (bS ps))->ps.length<=900->dB H a ps w->Q .non H->D8 K vs H Q w_1
def lS (ps:List Nat)(zs:List V)(i:Nat):Bool:=match zs[i+1]?,zs[i]? with
 | some (.int a),some y=>decide (parV ps a.toNat=y)
 | _,_=>true
def wayB (ps:List Nat)(zs:List V):Bool:=!zs.isEmpty&&zs.all (gZ (ps.length+1))&&(List.range (zs.length-1)).all (lS ps zs)
inductive xw (K:Frag)(vs:List V)(H:Hp)(Q:VK)(w_1:XK):Prop
 | c:∀(t:Addr) (ps:List Nat) (x:V),vs=[.ref t,x]->H t=some (.tup (bS ps))->ps.length<=900->((∃ ty,TyOf K H x (.type ty)/\kitO ty "list" = some false/\Q (.bl false) H)\/∃(a:Addr) (zs:List V),x=.ref a/\H a=some (.lst zs)/\zs.length<=2800/\(∀ z∈zs,AnyV K H z)/\Q (.bl (wayB ps zs)) H)->xw K vs H Q w_1
def Mz (T:Txt K mg)(ze:DF K mg "is_way" pT rm)(nS:FC P w K mg base 2 "is_one_of_first" lC (tW K)):FC P w K mg base 3 "is_way" rm (xw K):=by
 refine ze.ok vS .(c) .(b)
 .obtain ⟨t,ps,x,rfl,_⟩:=h;rfl
 obtain ⟨t,ps,x,rfl,ht,hz,h⟩:=h;refine #[_,(cx (bq (PW.pt (jL (ee (cL (aN (jR (K:=K)) rfl T.fS boot_isinstance (aa (pv 1) (aa (eZ (v:=.ty "list") rfl T.g9 boot_list rfl) ae))))) (mq (aW dH (aN (bF (K:=K)) rfl T.bD bz (aa (pv 1) ae)) ah (bf _))))) (au (aK cZ)) bE)
   (aB (bU PassesOwn.never rfl (dW (pv 1)) (aO (i:=2) vS.nd rfl (av rfl)) (au (bq (ee (cL (aG nS hr (aa (aN (bF (K:=K)) rfl T.bD bz (aa (pv 0) ae)) (aa (pv 2) ae))))) (au (aK cZ)) bE)))
   (aB (bU PassesOwn.never rfl (kM rfl T.de (aa ah (aa (aN (bF (K:=K)) rfl T.bD bz (aa (pv 1) ae)) ae))) (aO (i:=3) vS.nd rfl (av rfl)) (au (bq (aW uK (aH (bA (K:=K)) (pv 0) (aH (bg (K:=K)) (pv 1) (pv 3) (λ_ _=>rfl)) (λ_ _=>rfl)) (aH (bg (K:=K)) (pv 1) (aC c6 (pv 3) ah) (λ_ _=>rfl)) (bf _)) (au (aK cZ)) bE)))
   (au (aK cZ))))),?_]
 rcases h with ⟨ty,hty,hk,q⟩|⟨a,zs,rfl,ha,hl,hA,q⟩
 .refine #[λ_ _=>False,?_,λ_ _ z=>z.elim];refine #[_,rfl,_,_,_,_,rfl,hty,hk,_,rfl,?_];exact iteT q
 .cases zs with
  | nil=>
   refine #[λ_ _=>False,?_,λ_ _ z=>z.elim];refine #[_,rfl,_,_,_,_,rfl,.lst ha,vc,_,rfl,?_];refine iteF ?_;refine #[_,rfl,_,_,rfl,.inl (SqL.of ha),rfl,_,rfl,?_];exact Bd rfl q
  | cons z0 zs0=>
   have hne:(z0::zs0)≠[]:=List.cons_ne_nil _ _;generalize z0::zs0=zs at ha hl hA q hne;have hpos:0<zs.length:=mn.mpr hne;refine #[λU' H'=>U'=[some (.ref t),some (.ref a),none,none]/\H=H',?_,?_]
   .refine #[_,rfl,_,_,_,_,rfl,.lst ha,vc,_,rfl,?_];refine iteF ?_;refine #[_,rfl,_,_,rfl,.inl (SqL.of ha),rfl,_,rfl,?_];refine oX .(ua) ?_
    .have:=V.int.inj z;lia
    exact .(pa)
   rintro U' H' ⟨rfl,rfl⟩;refine #[_,rfl,a,rfl,#[_,SqL.of ha],?_];refine iZ (xs:=zs) (λi U H2=>∃ x2:Option V,U=[some (.ref t),some (.ref a),x2,none]/\H=H2/\∀ j x,j<i->zs[j]?=some x->gZ (ps.length+1) x=true) ?_ ?_ ?_ ?_
   .exact #[_,rfl,rfl,λj x hj=>absurd hj (iR _)]
   .rintro i U H2 _ ⟨x2,rfl,rfl,_⟩;exact SqL.of ha
   .rintro i x U H2 hx ⟨x2,rfl,rfl,hb⟩;have hxm:=cX hx;refine #[_,rfl,_,_,rfl,.inr (SqT.of ht),_,rfl,(bS ps).length,x,rfl,hA x hxm,_,rfl,?_];rw[cy];cases hf:gZ (ps.length+1) x with
    | true=>
     refine iteF #[_,rfl,rfl,λj y hj hy=>?_];rcases kL j i with z|z
     .exact hb j y z hy
     .have:j=i:=by lia
      subst this;rw[hx]at hy;cases hy
      exact hf
    | false=>
     refine iteT ?_;have e:wayB ps zs=false:=by
      unfold wayB;rw[l8.mpr #[x,hxm,by rw[hf];decide],jE,nW]
     rw[e]at q;exact q
   rintro U H2 ⟨x2,rfl,rfl,hb⟩;have hall:zs.all (gZ (ps.length+1))=true:=eW.mpr λx hx=>by
    obtain ⟨j,hj,rfl⟩:=cY hx;exact hb j _ hj (aA hj)
   have hint:∀ j (hj:j<zs.length),∃ b:Nat,zs[j]=.int (b:Int)/\b<ps.length+1:=λj hj=>by
    have:=hb j _ hj (aA hj);generalize zs[j]=y at this;cases y with
    | int v=>
     have:=(eV _ _).mp (show (decide (0<=v)&&decide (v<((ps.length+1:Nat):Int)))=true from this);have h1:=bO this.1;have h2:=bO this.2;exact #[v.toNat,by rw[Int.toNat_of_nonneg h1],by lia]
    | _=>cases this
   refine #[_,rfl,_,_,rfl,.inl (SqL.of ha),1,_,rfl,#[by lia,by lia,by lia,by lia],?_];have en:(((zs.length:Nat):Int)-1).toNat=zs.length-1:=by lia
   rw[en];refine fc (n:=zs.length-1) (λi U H2=>∃ x3:Option V,U=[some (.ref t),some (.ref a),x2,x3]/\H=H2/\∀ j,j<i->lS ps zs j=true) ?_ ?_ ?_
   .exact #[_,rfl,rfl,λj hj=>absurd hj (iR _)]
   .rintro i U H2 hi ⟨x3,rfl,rfl,hn⟩;have e1:(1:Int)+(i:Int)=((i+1:Nat):Int):=by lia
    rw[e1];obtain ⟨b,hb1,hb2⟩:=hint (i+1) .(a);obtain ⟨c,hc1,hc2⟩:=hint i .(a);have g1:zs[i+1]?=some (.int (b:Int)):=by rw[aA .(a),hb1]
    have g0:zs[i]?=some (.int (c:Int)):=by rw[aA .(a),hc1]
    have e0:((i+1:Nat):Int)-1=(i:Int):=by lia
    have hnx:lS ps zs i=decide (parV ps b=.int (c:Int)):=by
     unfold lS;rw[g1,g0];rfl
    refine #[_,rfl,_,rfl,_,rfl,_,_,_,_,rfl,rfl,SqL.of ha,c8 g1,_,_,_,_,rfl,rfl,SqT.of ht,jr hb2,_,rfl,_,rfl,_,_,rfl,rfl,_,_,_,_,rfl,rfl,SqL.of ha,(by rw[e0];exact c8 g0),wW _ _ _,_,rfl,?_];by_cases hq:parV ps b=.int (c:Int)
    .refine kU hq #[_,rfl,rfl,λj hj=>?_];rcases kL j i with z|z
     .exact hn j z
     .have:j=i:=by lia
      subst this;rw[hnx];exact aV hq
    .rw[bx hq];refine iteT ?_;have e:wayB ps zs=false:=by
      unfold wayB;rw[l8.mpr #[i,d7.mpr hi,by rw[hnx,bx hq];decide],jE]
     rw[e]at q;exact q
   rintro U H2 ⟨x3,rfl,rfl,hn⟩;have e:wayB ps zs=true:=by
    unfold wayB;rw[hall,eW.mpr λj hj=>hn j (d7.mp hj)];cases zs with
    | nil=>exact absurd rfl hne
    | cons _ _=>rfl
   rw[e]at q;exact q
def Ea {w:List Nat}{i:Nat}(h:i<w.length):w.take (i+1)=w.take i++[w.getD i 0]:=by
 rw[cG h,aF,aA h];rfl
def Eb {w:List Nat}{i:Nat}(h:i<w.length):w.getD i 0∈w:=by
 rw[aF,aA h];exact cC h
def MA {a:Addr}{w:List Nat}(W:dB H a ps w):wayB ps (w.map nV)=true:=by
 unfold wayB;have h1:(w.map nV).isEmpty=false:=by
  cases w with
  | nil=>exact absurd rfl W.ne
  | cons _ _=>rfl
 rw[h1,eW.mpr λx hx=>?_,eW.mpr λj hj=>?_]
 .rfl
 .have hj:=d7.mp hj;rw[ai]at hj;unfold lS;rw[aZ,aZ,aA (show j+1<w.length by lia),aA (show j<w.length by lia)];refine aV ?_;have h:=W.ch j .(a);rw[aF,aA (show j+1<w.length by lia),aF,aA (show j<w.length by lia)]at h;exact j4 h
 .obtain ⟨n,hn,rfl⟩:=cA.mp hx;have:=W.kn n hn;exact (eV _ _).mpr #[aV (show (0:Int)<=(n:Int) by lia),aV (show (n:Int)<((ps.length+1:Nat):Int) by lia)]
def Ec (xs:List V)(a:Nat):cutV xs none (some (a:Int))=xs.take a:=by
 unfold cutV;rw[gM,show HT.sIx xs.length 0 none=0 from rfl,List.drop_zero,Nat.sub_zero];by_cases h:a<=xs.length
 .rw[jH h]
 .rw[oz .(a),bG (aq _),bG .(a)]
def tY (xs:List V)(a:Nat):cutV xs (some (a:Int)) none=xs.drop a:=by
 unfold cutV;rw[gM,show HT.sIx xs.length xs.length none=xs.length from rfl];by_cases h:a<=xs.length
 .rw[jH h,bG (by rw[eU];exact aq _)]
 .rw[oz .(a),gj (aq _),gj (show xs.length<=a by lia),List.take_nil]
def ownB (Re:List .(h))(k:Nat)(key:Int):Nat:=((ay Re k).filter λx=>decide (x<key)).length
def MB (T:aP ps)(R:aX Re){k:Nat}(hk:k<ps.length+1):(.(e).filter λe=>decide (e.2=(k:Int)))=ownE Re k:=by
 have hup:=R.at_up k;refine jt ((cz T R hk).filter _) ?_ λe=>?_
 .unfold ownE;refine List.Pairwise.map _ (R:=λa b:Int=>a<b) (λa b (h:a<b)=>fZ.mpr (.inl h)) hup
 .rw[d6];refine #[λzq0=>?_,λh=>#[(dQ T hk).mpr (.inl h),aV (j5 hk h).2]];obtain ⟨h1,h2⟩:=zq0;rcases (dQ T hk).mp h1 with h|⟨c,hc,h⟩
  .exact h
  .exfalso;have h2:=bO h2;have hcn:=(bj T hc);obtain ⟨j,hj,hb,e2,_⟩:=iL T R hcn.2 e ((cU _).subset h);have ej:j=k:=by lia
   subst ej;have:=fP T hcn.1;rw[hb]at this;cases this
def MC (T:aP ps)(R:aX Re){k:Nat}(hk:k<ps.length+1)(key:Int):eC k (.(e).take (bc .(e) key))=ownB Re k key:=by
 rw[DZ (nE (cz T R hk))];unfold eC;have e:(.(e).filter λe=>decide (e.1<key)).filter (λe=>decide (e.2=(k:Int)))=(ownE Re k).filter λe=>decide (e.1<key):=by
  rw[<-MB T R hk,oF,oF];congr 1
  funext e
  rw[Bool.and_comm]
 rw[e];unfold ownE ownB;rw[List.filter_map,ai];rfl
def KpV (Av:List Addr)(H H':Hp):Prop:=∀ b o,b∉Av->H b=some o->H' b=some o
def KpA (Av:List Addr)(mp:Addr)(H H':Hp):Prop:=∀ b o,b∉Av->b≠mp->H b=some o->H' b=some o
def KpA.trans (a:KpA Av mp H H1)(b:KpA Av mp H1 H2):KpA Av mp H H2:=λc o n1 n2 h=>b c o n1 n2 (a c o n1 n2 h)
def KpV.a (a:KpV Av H H1):KpA Av mp H H1:=λc o n1 _ h=>a c o n1 h
def KpA.of (a:Same H H1):KpA Av mp H H1:=λc o _ _ h=>a c o h
def KpA.gro (a:Gro mp H H1):KpA Av mp H H1:=λc o _ n h=>a c o n h
def FV.mono {w:World}{K:Frag}{mg:Str->Option Value}{base:Heap}{k:Nat}{f:Addr}(F:FV P w K mg base j f ps sp)(h:j<=k):FV P w K mg base k f ps sp:=by
 obtain ⟨fd,ok,r⟩:=F.ex;exact #[fd,ok.mono h,r]
structure AskF (P:Program)(w:World)(K:Frag)(mg:Str->Option Value)(base:Heap)(f:Addr)(Av:List Addr)(mp:Addr)(fp:Addr->Prop)(R:List (Nat×Nat)->Hp->Prop)(ps:List Nat)(Re:List .(h))(key:Int):Prop where
 keep:∀ L H H',R L H->(∀ b o,fp b->H b=some o->H' b=some o)->R L H'
 alloc:∀ L H b,R L H->fp b->H b≠none
 avl:∀ L H,R L H->∀ a∈Av,∃ zs,H a=some (.lst zs)
 nmp:¬ fp mp
 ask:∃(pn:List Str) (sp:Sp),FV P w K mg base 2 f pn sp/\∀(kn i:Nat) (L:List (Nat×Nat)) (H:Hp) (Q:VK),kn<ps.length+1->i<(af ps Re kn).length->L.length<=9000->R L H->
  (∀ H',R (L++[(kn,i)]) H'->KpV Av H H'->Q (.bl (decide (((af ps Re kn).getD i (0,0)).1<key))) H')->sp [.int kn,.int i] H Q E0
def AskF.lift {w:World}{K:Frag}{mg:Str->Option Value}{f:Addr}{R:List (Nat×Nat)->Hp->Prop}{Re:List .(h)}{key:Int}(A:AskF P w K mg b1 f Av mp fp R ps Re key)(S:Sub K mg b1 b2):AskF P w K mg b2 f Av mp fp R ps Re key:=by
 obtain ⟨a,b,c,d,pn,sp,hF,r⟩:=A;exact #[a,b,c,d,pn,sp,hF.lift S,r]
structure cI (Av:List Addr)(mp:Addr)(R:List (Nat×Nat)->Hp->Prop)(ps:List Nat)(Re:List .(h))(br:Addr)(xs:List V)(L:List (Nat×Nat))(H:Hp):Prop where
 r:R L H
 avs:∀ a∈Av,∃ zs,H a=some (.lst zs)
 at_:H br=some (.lst xs)
 nb:br∉Av
 ba:Paired (BrAt Av H ps Re) (List.range (ps.length+1)) xs
 tb:bB H mp j9 j8
section
variable {Av:List Addr}{mp:Addr}{R:List (Nat×Nat)->Hp->Prop}{ps:List Nat}{Re:List .(h)}{br:Addr}{xs:List V}{L L':List (Nat×Nat)}{H H':Hp}
def cI.nm (S:cI Av mp R ps Re br xs L H){b:Addr}{o:HO}(h:H b=some o)(n:∀ tab,o≠.tbl tab):b≠mp:=λz=>by
 obtain ⟨tab,e,_⟩:=S.tb.ex;rw[<-z,h]at e;exact n _ (aJ e)
def cI.na (S:cI Av mp R ps Re br xs L H){b:Addr}{o:HO}(h:H b=some o)(n:∀ zs,o≠.lst zs):b∉Av:=λz=>by
 obtain ⟨zs,e⟩:=S.avs b z;rw[h]at e;exact n _ (aJ e)
def cI.tup (S:cI Av mp R ps Re br xs L H)(k:KpA Av mp H H'){b:Addr}{us:List V}(h:H b=some (.tup us)):H' b=some (.tup us):=k _ _ (S.na h nofun) (S.nm h nofun) h
def cI.lst (S:cI Av mp R ps Re br xs L H)(k:KpA Av mp H H'){b:Addr}{us:List V}(h:H b=some .(ia))(n:b∉Av):H' b=some .(ia):=k _ _ n (S.nm h nofun) h
def cI.kp (S:cI Av mp R ps Re br xs L H)(k:KpA Av mp H H')(hT:bB H' mp j9 j8)(hR:R L' H')(ha:∀ a∈Av,∃ zs,H' a=some (.lst zs)):cI Av mp R ps Re br xs L' H':=
 #[hR,ha,S.lst k S.at_ S.nb,S.nb,fQ (λj x ⟨b,o,j',ys,h1,h2,h3,h4,h5,h6,h7⟩=>#[b,o,j',ys,h1,h2,h3,S.tup k h4,S.lst k h5 h2,S.lst k h6 h3,fQ (λc y ⟨a,s,g1,g2,g3,g4⟩=>#[a,s,g1,g2,S.tup k g3,S.lst k g4 g2]) h7]) S.ba,hT]
def cI.tbv (S:cI Av mp R ps Re br xs L H)(k:KpV Av H H'):bB H' mp j9 j8:=by
 obtain ⟨tab,h1,h2,h3⟩:=S.tb.ex;refine #[tab,k _ _ (S.na h1 nofun) h1,h2,?_];rcases h3 with h3|⟨c,h3,h4⟩
 .exact .inl h3
 .exact .inr #[c,h3,k _ _ (S.na h4 nofun) h4]
end
def Ed {K:Frag}{H H':Hp}(k:∀ b us,H b=some (.tup us)->H' b=some (.tup us)):∀{es:List (Int×Int)} {ws:List V},aD K H es ws->aD K H' es ws
 | _,_,.nil=>.nil
 | _,_,.cons h t=>by
  refine .cons ?_ (Ed k t);obtain ⟨a,x1,x2,rfl,hT,e1,e2⟩:=(show hasP K H _ _ from h);exact #[a,x1,x2,rfl,k _ _ hT,e1,e2]
def MD {D:Addr}{xs:List V}(x:bB H Pt pos q)(hD:H D=some (.lst xs)):bB (upd H D o) Pt pos q:=by
 obtain ⟨tab,h1,h2,h3⟩:=x.ex;have n1:Pt≠D:=λz=>by
  rw[z,hD]at h1;cases h1
 refine #[tab,by rw[aj n1];exact h1,h2,?_];rcases h3 with h3|⟨c,h3,h4⟩
 .exact .inl h3
 .refine .inr #[c,h3,?_];have n2:c≠D:=λz=>by
   rw[z]at h4;rw[show H D=_ from h4]at hD;cases hD
  show upd H D o c=_;rw[aj n2];exact h4
def cI.free {R:List (Nat×Nat)->Hp->Prop}{Re:List .(h)}(S:cI Av mp R ps Re br xs L H1)(k:KpA Av mp H H1){D:Addr}(h:H1 D=none):H D=none/\D∉Av/\D≠mp:=by
 have n1:D∉Av:=λz=>by
  obtain ⟨zs,e⟩:=S.avs D z;rw[h]at e;cases e
 have n2:D≠mp:=λz=>by
  obtain ⟨tab,e,_⟩:=S.tb.ex;rw[<-z,h]at e;cases e
 refine #[?_,n1,n2];cases e:H D with
 | none=>rfl
 | some o=>
  have:=k _ _ n1 n2 e;rw[h]at this;cases this
def Ee (T:aP ps)(R:aX Re){k:Nat}(hk:k<ps.length+1)(key:Int):atI ((tM k .(e)).map nV) ((bc .(e) key:Nat):Int)=some (.int ((ownB Re k key:Nat):Int)):=by
 have hle:=lQ .(e) key;refine c8 ?_;rw[aZ];unfold tM;rw[aZ,ij .(a),<-MC T R hk key];rfl
def xx {wy:List Nat}{i:Nat}(h:i<wy.length):(wy.map nV)[i]?=some (nV .(qa)):=by
 rw[aZ,aF,aA h];rfl
def xy {wy:List Nat}{i:Nat}(h:i<wy.length):wy.getD i 0∈wy:=by
 rw[aF,aA h];exact cC h
def Ef {α:Type}(f:Nat->α){wy:List Nat}{i:Nat}(h:i<wy.length):(wy.take (i+1)).map f=(wy.take i).map f++[f .(qa)]:=by
 rw[cG h,bw,aF,aA h];rfl
def ME (l:List Nat):cutV (l.map nV) (some 1) none=(l.drop 1).map nV:=by
 rw[show (1:Int)=((1:Nat):Int) from rfl,tY,<-mh]
inductive xA (P:Program)(w:World)(K:Frag)(mg:Str->Option Value)(base:Heap)(mp:Addr)(vs:List V)(H:Hp)(Q:VK)(w_1:XK):Prop
 | c:∀(br f:Addr) (xs:List V) (ps:List Nat) (Re:List (List Int)) (k:Nat) (key:Int) (Av:List Addr) (fp:Addr->Prop) (R:List (Nat×Nat)->Hp->Prop) (L:List (Nat×Nat)),vs=[.ref br,.int k,.ref f]->AskF P w K mg base f Av mp fp R ps Re key->cI Av mp R ps Re br xs L H->aP ps->aX Re->k<ps.length+1->L.length<=3000->(af ps Re k).length<=1000->(∀(H':Hp) (L':List (Nat×Nat)),cI Av mp R ps Re br xs (L++L') H'->KpA Av mp H H'->L'.length<=figN (af ps Re k).length->Q (.int (bc (af ps Re k) key:Nat)) H')->xA P w K mg base mp vs H Q w_1
def MF (T:Txt K mg){mc mp:Addr}(uq:DFT K mg "first_place" ll rH mc mp)(hBM:BMAt mg base)(zg:∀ b,Sub K mg base b->FC P w K mg b 4 "how_many_below" mT (tS P w K mg b)):FC P w K mg base 5 "first_place" rH (xA P w K mg base mp):=by
 refine uq.ok JT .(c) (λf A outer s H vs Q E hr h=>?_)
 .obtain ⟨br,f,xs,ps,Re,k,key,Av,fp,R,L,rfl,_⟩:=h;rfl
 obtain ⟨br,f,xs,ps,Re,k,key,Av,fp,R,L,rfl,AF,S,hT,hR,hk,hLn,hFn,q⟩:=h;refine #[_,(au (aK (IU (kf:=2) zg hr (aH (bA (K:=K)) (aH (bg (K:=K)) (pv 0) (pv 1) .(ma)) ah .(ma)) (vD (osc:=aE ll) (N:=["bridges","knot","is_below"]) (ps:=["at"]) (caps:=["is_below","knot"]) (cap:=[2,1]) #[rfl,rfl,rfl,by decide +kernel,by decide +kernel,by decide +kernel,by decide +kernel] .(Aa) .(Aa) rfl rfl rfl rfl (λ_ _ _ _ us hl=>match us,hl with|[_],_=>rfl) (λ_=>rfl)) rfl uq.hd hBM (λb _ _ _ _ _ _ _ S hr=>(IR P w K mg b (kr:=2) hr (pv 1) (aa (pv 2) (aa (pv 0) ae))))))),?_]
 obtain ⟨x,hx,b,o,j,ys,rfl,_,_,hb,ho,hj,hJ⟩:=lR S.ba hk;have hF:=nE (cz hT hR hk (Re:=Re));refine #[_,rfl,_,rfl,_,_,_,_,rfl,rfl,SqL.of S.at_,c8 hx,_,_,_,_,rfl,rfl,SqT.of hb,rfl,S.tb,[.ref f,.int k],rfl,?_,λbs g c' H2 hg hT2 hC SB hV=>?_]
 .intro j i v h1 h2;rcases j with _|_|j
  .cases h1;cases h2;rfl
  .cases h1;cases h2;rfl
  .cases h1
 obtain ⟨pn,sp,hFV,hask⟩:=(AF.lift SB).ask;have hR2:R L H2:=AF.keep _ _ _ S.r λb o hb e=>hg _ _ (λz=>AF.nmp (z ▸ hb)) e;have S2:cI Av mp R ps Re br xs L H2:=S.kp (.gro hg) hT2 hR2 (AF.avl _ _ hR2);refine #[.(e).length,g,_,_,λi=>decide ((.(e).getD i (0,0)).1<key),λL1 H1=>R (L++L1.map λi=>(k,i)) H1/\KpV Av H2 H1,rfl,hV,#[by rw[kl,bQ];exact hR2,λ_ _ _ h=>h],λi L1 H1 Q1 hi hLi hR1 hQ=>?_,λi j hij hj hb=>?_,λm L1 H' hm hb1 hb2 hL hR1=>?_]
 .refine #[rfl,hR1.2 _ _ (S2.na hC nofun) hC,?_];refine #[_,rfl,f,2,pn,sp,rfl,hFV,aq _,_,rfl,_,rfl,?_];refine hask k i _ H1 _ hk hi (by have:=xu _ _ (aq .(e).length);rw[aS,ai];lia) hR1.1 λH3 hR3 k3=>hQ _ #[?_,λb o n h=>k3 _ _ n (hR1.2 _ _ n h)];rw[bw,<-il];exact hR3
 .refine aV ?_;have hb:=bO hb;by_cases e:i=j
  .subst e;exact hb
  .have:=dU.mp hF i j .(a) hj .(a);rw[aF,aA .(a)]at hb ⊢;exact Int.lt_of_le_of_lt this hb
 .have e:=Mn hm hb1 hb2;have q2:=q H' _ (S2.kp hR1.2.a (S2.tbv hR1.2) hR1.1 (AF.avl _ _ hR1.1)) (KpA.trans (.gro hg) hR1.2.a) (by rw[ai];exact hL);rw[e]at q2;exact q2
inductive xB (K:Frag)(vs:List V)(H:Hp)(Q:VK)(w_1:XK):Prop
 | c:∀(Av:List Addr) (br:Addr) (ps:List Nat) (Re:List (List Int)) (xs:List V) (k c m:Nat),vs=[.ref br,.int k,.int m,.int c]->H br=some (.lst xs)->Paired (BrAt Av H ps Re) (List.range (ps.length+1)) xs->aP ps->k<ps.length+1->par ps c=some k->m<=(af ps Re k).length->(∀ H',Same H H'->Q (.int (stN (af ps Re c) ((af ps Re k).take m):Nat)) H')->xB K vs H Q w_1
def MG (T:Txt K mg)(zh:DF K mg "start_in" p9 rJ):FC P w K mg base 1 "start_in" rJ (xB K):=by
 refine zh.ok JU .(c) .(b)
 .obtain ⟨Av,br,ps,Re,xs,k,c,m,rfl,_⟩:=h;rfl
 obtain ⟨Av,br,ps,Re,xs,k,c,m,rfl,hbr,hB,hT,hk,hc,hm,q⟩:=h;obtain ⟨x,hx,b,o,j,ys,rfl,_,_,hb,ho,hj,hJ⟩:=lR hB hk;obtain ⟨kvs,h1,h2,h3⟩:=D0 hJ;have hcm:c∈bR ps k (ps.length+1):=da.mpr #[(bj hT hc).2,hc];obtain ⟨sa,hv,hsa⟩:=h3 c hcm (D1 _ _ _);refine #[_,(au (aK (aH (bg (K:=K)) (ja (dN hr) (dI (Ji rfl) rfl T.Ol boot_dict (aa (aH (bA (K:=K)) (aH (bg (K:=K)) (pv 0) (pv 1) .(ma)) ah .(ma)) ae)) (pv 3) .(ma)) (pv 2) .(ma)))),?_];refine #[_,rfl,_,rfl,_,_,_,_,rfl,rfl,SqL.of hbr,c8 hx,_,_,_,_,rfl,rfl,SqT.of hb,rfl,?_];refine #[j,ys,kvs,rfl,SqL.of hj,h1,?_,λd hd=>?_]
 .rw[h2];exact List.Pairwise.map (R:=λa b:Nat=>a≠b) _ (λa b (n:a≠b) z=>n (by have:=Sum.inl.inj z;lia)) (D1 ps k _)
 have sd:=az hd (.dK kvs);refine #[_,rfl,d,.ref sa,rfl,?_,?_]
 .have:=DGet.k (k:=(.inl (c:Int))) (ag (H:=H) (a:=d) (o:=.dK kvs));rw[hv]at this;exact this
 refine #[_,rfl,_,_,_,_,rfl,rfl,SqL.of (sd _ _ hsa),c8 (v:=nV (stN .(z) (.(e).take m))) ?_,q _ sd];rw[aZ];unfold tN;rw[aZ,ij .(a)];rfl
inductive xC (P:Program)(w:World)(K:Frag)(mg:Str->Option Value)(base:Heap)(mp:Addr)(vs:List V)(H:Hp)(Q:VK)(w_1:XK):Prop
 | c:∀(br f:Addr) (xs:List V) (ps:List Nat) (Re:List (List Int)) (k st:Nat) (key:Int) (Av:List Addr) (fp:Addr->Prop) (R:List (Nat×Nat)->Hp->Prop) (L:List (Nat×Nat)),vs=[.ref br,.int k,.int st,.ref f]->AskF P w K mg base f Av mp fp R ps Re key->cI Av mp R ps Re br xs L H->aP ps->aX Re->k<ps.length+1->L.length<=8000->st<=bc (af ps Re k) key->bc (af ps Re k) key<=st+2->(∀(H':Hp) (L':List (Nat×Nat)),cI Av mp R ps Re br xs (L++L') H'->KpA Av mp H H'->L'.length<=2->Q (.int (bc (af ps Re k) key:Nat)) H')->xC P w K mg base mp vs H Q w_1
def MH (T:Txt K mg)(zi:DF K mg "next_place" qa rK):FC P w K mg base 3 "next_place" rK (xC P w K mg base mp):=by
 refine zi.ok qO .(c) .(b)
 .obtain ⟨br,f,xs,ps,Re,k,st,key,Av,fp,R,L,rfl,_⟩:=h;rfl
 obtain ⟨br,f,xs,ps,Re,k,st,key,Av,fp,R,L,rfl,AF,S,hT,hR,hk,hLn,hlo,hhi,q⟩:=h;refine #[_,(aB (aI (i:=4) qO.nd rfl (av rfl) (aN (Ap rfl) rfl T.yq boot_min (aa (aC bY (pv 2) (kY rfl T.Ov)) (aa (aH (bA (K:=K)) (aH (bg (K:=K)) (pv 0) (pv 1) (λ_ _=>rfl)) ah (λ_ _=>rfl)) ae))))
   (aB (aI (i:=5) qO.nd rfl (av rfl) (pv 2))
   (aB (mr PassesOwn.never (PW.pt (iW (aW fH (pv 5) (pv 4) (bf _)) (iV (cL (vC (kr:=2) hr (pv 3) (aa (pv 1) (aa (pv 5) ae))))))) (au (aI (i:=5) qO.nd rfl (av rfl) (aC bY (pv 5) ah))))
   (au (aK (pv 5)))))),?_]
 obtain ⟨x,hx,b,o,j,ys,rfl,_,_,hb,ho,hj,hJ⟩:=lR S.ba hk;have hF:=nE (cz hT hR hk (Re:=Re));have hle:=lQ .(e) key;have hat:=λi h=>xq (key:=key) hF (i:=i) h;obtain ⟨pn,sp,hFV,hask⟩:=AF.ask;refine #[_,rfl,_,_,rfl,rfl,_,rfl,_,rfl,_,_,_,_,rfl,rfl,SqL.of S.at_,c8 hx,_,_,_,_,rfl,rfl,SqT.of hb,rfl,_,_,rfl,?_];have eb:∃ m:Nat,(if ((.(e).length:Nat):Int)<(st:Int)+2 then ((.(e).length:Nat):Int) else (st:Int)+2)=(m:Int)/\m<= .(e).length/\m<=st+2/\bc .(e) key<=m:=by
  by_cases c:((.(e).length:Nat):Int)<(st:Int)+2
  .exact #[_,ak c,aq _,by lia,hle]
  .exact #[st+2,by rw[ao c];rfl,by lia,aq _,hhi]
 obtain ⟨m,em,hm1,hm2,hm3⟩:=eb;rw[em];refine .(A);refine #[λn U H1=>∃(at_:Nat) (L1:List (Nat×Nat)),U=[some (.ref br),some (.int k),some (.int st),some (.ref f),some (.int m),some (.int at_)]/\st<=at_/\at_<=bc .(e) key/\at_+n=m/\L1.length+st=at_/\cI Av mp R ps Re br xs (L++L1) H1/\KpA Av mp H H1,#[m-st,st,[],rfl,aq _,hlo,by lia,by rw[ie,kK],by rw[bQ];exact S,λ_ _ _ _ h=>h],?_];rintro n U H1 ⟨at_,L1,rfl,h1,h2,h3,h4,S1,k1⟩;refine #[_,rfl,_,rfl,_,_,rfl,rfl,_,rfl,?_];refine ite2 .(t) .(t)
 .have c1:(at_:Int)<(m:Int):=bO c;refine #[_,rfl,f,2,pn,sp,rfl,hFV,aq _,_,rfl,_,rfl,?_];refine hask k at_ _ H1 _ hk .(a) (by rw[aS];lia) S1.r λH2 hR2 k2=>?_;have S2:=S1.kp k2.a (S1.tbv k2) hR2 (AF.avl _ _ hR2);rw[il]at S2;have k02:KpA Av mp H H2:=k1.trans k2.a;have hL2:(L1++[(k,at_)]).length=L1.length+1:=by rw[aS,cS]
  have hge: .(e).getD at_ (0,0)= .(e)[at_]' .(a):=by
   rw[aF,aA .(a)];rfl
  refine .(A);refine ite2 (λc2=>?_) (λc2=>?_)
  .have c3:=bO c2;rw[hge]at c3;have hlt:at_<bc .(e) key:=om λz=>(hat at_ .(a)).2 z c3;refine #[λU' H'=>U'=[some (.ref br),some (.int k),some (.int st),some (.ref f),some (.int m),some (.int ((at_:Int)+1))]/\H'=H2,?_,?_]
   .rintro U' H' ⟨rfl,rfl⟩;exact #[n-1,by lia,at_+1,_,rfl,by lia,by lia,by lia,by lia,S2,k02]
   .exact #[_,rfl,_,_,rfl,rfl,rfl,rfl]
  .have hge2:bc .(e) key<=at_:=jF λz=>c2 (aV (by rw[hge];exact (hat at_ .(a)).1 z));have e:at_=bc .(e) key:=by lia
   refine .(A);rw[e];exact q _ _ S2 k02 .(a)
 .have c1:¬ (at_:Int)<(m:Int):=kI (iS.mpr c);have e:at_=bc .(e) key:=by lia
  refine iteF ?_;refine .(A);rw[e];exact q _ _ S1 k1 .(a)
inductive xD (P:Program)(w:World)(K:Frag)(mg:Str->Option Value)(base:Heap)(mp:Addr)(vs:List V)(H:Hp)(Q:VK)(w_1:XK):Prop
 | c:∀(br wa f:Addr) (xs:List V) (ps:List Nat) (Re:List (List Int)) (wy:List Nat) (key:Int) (Av:List Addr) (fp:Addr->Prop) (R:List (Nat×Nat)->Hp->Prop) (L:List (Nat×Nat)),vs=[.ref br,.ref wa,.ref f]->AskF P w K mg base f Av mp fp R ps Re key->cI Av mp R ps Re br xs L H->aP ps->aX Re->ps.length<=40->dB H wa ps wy->wa∉Av->L.length<=1000->(∀ k,k<ps.length+1->(af ps Re k).length<=1000)->(∀(D:Addr) (zs:List V) (H':Hp) (L':List (Nat×Nat)),cI Av mp R ps Re br xs (L++L') H'->KpA Av mp H H'->H D=none->H' D=some (.lst zs)->aD K H' (wy.map λk=>(((bc (af ps Re k) key:Nat):Int),((ownB Re k key:Nat):Int))) zs->L'.length<=figN (af ps Re (wy.getD 0 0)).length+2*(wy.length-1)->Q (.ref D) H')->xD P w K mg base mp vs H Q w_1
def MI (T:Txt K mg)(zj:DF K mg "search" qb rL)(Pg:FC P w K mg base 5 "first_place" rH (xA P w K mg base mp))(Ph:FC P w K mg base 1 "start_in" rJ (xB K))(Pi:FC P w K mg base 3 "next_place" rK (xC P w K mg base mp)):FC P w K mg base 6 "search" rL (xD P w K mg base mp):=by
 refine zj.ok lx .(c) .(b)
 .obtain ⟨br,wa,f,xs,ps,Re,wy,key,Av,fp,R,L,rfl,_⟩:=h;rfl
 obtain ⟨br,wa,f,xs,ps,Re,wy,key,Av,fp,R,L,rfl,AF,S,hT,hR,few,W,nwa,hLn,hFn,q⟩:=h;have hwl:=W.len;have hpos:0 < wy.length:=mn.mpr W.ne;refine #[_,(aB (aI (i:=3) lx.nd rfl (av rfl) (aG Pg hr (aa (pv 0) (aa (aH (bg (K:=K)) (pv 1) ah (λ_ _=>rfl)) (aa (pv 2) ae)))))
   (aB (aI (i:=4) lx.nd rfl (av rfl) (bN (aa (cE (aa (pv 3) (aa (aH (bg (K:=K)) (aH (bA (K:=K)) (aH (bg (K:=K)) (pv 0) (aH (bg (K:=K)) (pv 1) ah (λ_ _=>rfl)) (λ_ _=>rfl)) ah (λ_ _=>rfl)) (pv 3) (λ_ _=>rfl)) ae))) ae)))
   (aB (bU PassesOwn.never rfl (vk rfl T.yr (aa (pv 1) (aa (fI (jS (K:=K)) (pv 1) (dr ah) i4) ae))) (iY rfl (dF (aO (i:=5) lx.nd rfl (av rfl)) (dF (aO (i:=6) lx.nd rfl (av rfl)) iX))) (aB (aI (i:=3) lx.nd rfl (av rfl) (aG Pi hr (aa (pv 0) (aa (pv 6) (aa (aG Ph hr (aa (pv 0) (aa (pv 5) (aa (pv 3) (aa (pv 6) ae))))) (aa (pv 2) ae))))))
   (au (cM (dJ F.plainAttrs_list F.slot_list_append F.type_list_append dM (pv 4) (aa (cE (aa (pv 3) (aa (aH (bg (K:=K)) (aH (bA (K:=K)) (aH (bg (K:=K)) (pv 0) (pv 6) (λ_ _=>rfl)) ah (λ_ _=>rfl)) (pv 3) (λ_ _=>rfl)) ae))) ae))))))
   (au (aK (pv 4)))))),?_]
 have hk0:wy.getD 0 0<ps.length+1:=W.kn _ (xy hpos);have hw0:atI (wy.map nV) 0=some (nV (wy.getD 0 0)):=c8 (j:=0) (xx hpos);refine #[_,rfl,_,rfl,_,_,_,_,rfl,rfl,SqL.of W.at_,hw0,_,rfl,br,f,xs,ps,Re,wy.getD 0 0,key,Av,fp,R,L,rfl,AF,S,hT,hR,hk0,by lia,hFn _ hk0,λH1 L1 S1 k1 hL1=>?_];have W1:=S.lst k1 W.at_ nwa;obtain ⟨x0,hx0,b0,o0,j0,ys0,rfl,_,_,hb0,ho0,_,_⟩:=lR S1.ba hk0;refine #[_,rfl,_,rfl,_,rfl,_,_,_,_,rfl,rfl,SqL.of W1,hw0,_,_,_,_,rfl,rfl,SqL.of S1.at_,c8 hx0,_,_,_,_,rfl,rfl,SqT.of hb0,rfl,_,rfl,_,_,_,_,rfl,rfl,SqL.of ho0,Ee hT hR hk0 key,.(l),λt ht=>#[.(g),λD hD=>?_]];have st:=az ht (.tup [.int ((bc (af ps Re (wy.getD 0 0)) key:Nat):Int),.int ((ownB Re (wy.getD 0 0) key:Nat):Int)]);have sD:=az hD (.lst [.ref t]);have hD1:H1 D=none:=st.free hD;obtain ⟨hDn,nDA,nDm⟩:=S1.free k1 hD1;have nfD:¬ fp D:=λz=>AF.alloc _ _ _ S1.r z hD1;have s13:=st.trans sD;have tb3:=S1.tb.ext s13.ext;have hR3:=AF.keep _ _ _ S1.r λb o _ e=>s13 b o e;have S3:=S1.kp (.of s13) tb3 hR3 (AF.avl _ _ hR3);have k03:KpA Av mp H _:=k1.trans (.of s13);have h3D:upd (upd H1 t (.tup [.int ((bc (af ps Re (wy.getD 0 0)) key:Nat):Int),.int ((ownB Re (wy.getD 0 0) key:Nat):Int)])) D (.lst [.ref t]) D=some (.lst [.ref t]):=ag;have h3t:=sD _ _ (ag (H:=H1) (a:=t) (o:=.tup [.int ((bc (af ps Re (wy.getD 0 0)) key:Nat):Int),.int ((ownB Re (wy.getD 0 0) key:Nat):Int)]));generalize upd (upd H1 t (.tup [.int ((bc (af ps Re (wy.getD 0 0)) key:Nat):Int),.int ((ownB Re (wy.getD 0 0) key:Nat):Int)])) D (.lst [.ref t])=H3 at S3 k03 h3D h3t ⊢;clear tb3 hR3 s13 sD hD st ht hb0 ho0 hx0;have W3:=S.lst k03 W.at_ nwa;refine #[_,rfl,_,rfl,1,rfl,wa,_,rfl,SqL.of W3,λy hy=>?_];rw[ME];have sy:=az hy (.lst ((wy.drop 1).map nV));obtain ⟨hyn,nyA,nym⟩:=S3.free k03 hy;have nDy:D≠y:=aw h3D hy;have tb4:=S3.tb.ext sy.ext;have hR4:=AF.keep _ _ _ S3.r λb o _ e=>sy b o e;have S4:=S3.kp (.of sy) tb4 hR4 (AF.avl _ _ hR4);have k04:KpA Av mp H _:=k03.trans (.of sy);have h4y:upd H3 y (.lst ((wy.drop 1).map nV)) y=some (.lst ((wy.drop 1).map nV)):=ag;have h4D:=sy _ _ h3D;have h4t:=sy _ _ h3t;generalize upd H3 y (.lst ((wy.drop 1).map nV))=H4 at S4 k04 h4D h4t h4y ⊢;clear tb4 hR4 sy hy h3D h3t S3 k03 W3;refine #[wa,y,rfl,#[_,SqL.of (S.lst k04 W.at_ nwa)],#[_,SqL.of h4y],?_];have hdl:((wy.drop 1).map nV).length=wy.length-1:=by rw[ai,eU]
 refine IX (xs:=wy.map nV) (ys:=(wy.drop 1).map nV) (by rw[hdl,ai];lia) (λi U H5=>∃(x5 x6:Option V) (zs:List V) (L2:List (Nat×Nat)),U=[some (.ref br),some (.ref wa),some (.ref f),some (.int ((bc (af ps Re .(qa)) key:Nat):Int)),some (.ref D),x5,x6]/\H5 D=some (.lst zs)/\aD K H5 ((wy.take (i+1)).map λk=>(((bc .(e) key:Nat):Int),((ownB Re k key:Nat):Int))) zs/\cI Av mp R ps Re br xs (L++L2) H5/\KpA Av mp H H5/\L2.length<=figN (af ps Re (wy.getD 0 0)).length+2*i/\H5 y=some (.lst ((wy.drop 1).map nV))) ?_ ?_ ?_ ?_
 .refine #[_,_,[.ref t],L1,rfl,h4D,?_,S4,k04,by lia,h4y];rw[Ef _ hpos,md];exact .cons #[t,_,_,rfl,h4t,rfl,rfl] .nil
 .rintro i U H5 _ ⟨x5,x6,zs,L2,rfl,h5,hA,S5,k05,hL2,h5y⟩;exact #[SqL.of (S.lst k05 W.at_ nwa),SqL.of h5y]
 .rintro i x x' U H5 p hx hx' ⟨x5,x6,zs,L2,rfl,h5,hA,S5,k05,hL2,h5y⟩ hp;have hi:i+1<wy.length:=by
   have:=(aT.mp hx').1;lia
  rw[xx .(a)]at hx;cases hx
  rw[mh,uB,Nat.add_comm 1 i,xx hi]at hx';cases hx'
  have hpar:=W.ch i hi;have hki:wy.getD i 0<ps.length+1:=W.kn _ (xy .(a));have hkj:wy.getD (i+1) 0<ps.length+1:=W.kn _ (xy hi);have NO:=Mp hT hR few hki hpar (Re:=Re) key;refine #[p,_,rfl,SqT.of ag,rfl,_,_,rfl,_,_,rfl,rfl,?_];have s6:=az hp (.tup [nV .(qa),nV (wy.getD (i+1) 0)]);have hR6:=AF.keep _ _ _ S5.r λb o _ e=>s6 b o e;have S6:=S5.kp (.of s6) (S5.tb.ext s6.ext) hR6 (AF.avl _ _ hR6);refine #[_,rfl,_,rfl,_,rfl,_,rfl,_,rfl,_,rfl,Av,br,ps,Re,xs,wy.getD i 0,wy.getD (i+1) 0,_,rfl,S6.at_,S6.ba,hT,hki,hpar,lQ _ _,λH7 s7=>?_];have s57:=s6.trans s7;have hR7:=AF.keep _ _ _ S5.r λb o _ e=>s57 b o e;have S7:=S5.kp (.of s57) (S5.tb.ext s57.ext) hR7 (AF.avl _ _ hR7);refine #[_,rfl,br,f,xs,ps,Re,wy.getD (i+1) 0,_,key,Av,fp,R,_,rfl,AF,S7,hT,hR,hkj,(by have:=xu _ _ (aq (af ps Re (wy.getD 0 0)).length);have:=hFn _ hk0;rw[aS];lia),NO.lo,NO.hi,λH8 L3 S8 k8 hL3=>?_];have k58:KpA Av mp H5 H8:=(KpA.of s57).trans k8;have k08:=k05.trans k58;have h8:=k58 _ _ nDA nDm h5;have h8y:=k58 _ _ nyA nym h5y;obtain ⟨x1,hx1,b1,o1,j1,ys1,rfl,_,_,hb1,ho1,_,_⟩:=lR S8.ba hkj;have hzl:=hA.length;rw[ai,bu]at hzl;refine #[_,rfl,.inl #[rfl,_,SqL.of h8],_,rfl,_,rfl,_,rfl,_,_,_,_,rfl,rfl,SqL.of S8.at_,c8 hx1,_,_,_,_,rfl,rfl,SqT.of hb1,rfl,_,rfl,_,_,_,_,rfl,rfl,SqL.of ho1,Ee hT hR hkj key,.(l),λt2 ht2=>?_];have s9:=az ht2 (.tup [.int ((bc (af ps Re (wy.getD (i+1) 0)) key:Nat):Int),.int ((ownB Re (wy.getD (i+1) 0) key:Nat):Int)]);have h9t:upd H8 t2 (.tup [.int ((bc (af ps Re (wy.getD (i+1) 0)) key:Nat):Int),.int ((ownB Re (wy.getD (i+1) 0) key:Nat):Int)]) t2=_:=ag;have h9:=s9 _ _ h8;have h9y:=s9 _ _ h8y;have k09:=k08.trans (.of s9);have hR9:=AF.keep _ _ _ S8.r λb o _ e=>s9 b o e;have tb9:=S8.tb.ext s9.ext;have hA9:=Ed (H':=upd H8 t2 (.tup [.int ((bc (af ps Re (wy.getD (i+1) 0)) key:Nat):Int),.int ((ownB Re (wy.getD (i+1) 0) key:Nat):Int)])) (λb us e=>s9 _ _ (S5.tup k58 e)) hA;generalize upd H8 t2 (.tup [.int ((bc (af ps Re (wy.getD (i+1) 0)) key:Nat):Int),.int ((ownB Re (wy.getD (i+1) 0) key:Nat):Int)])=H9 at h9t h9 h9y k09 hR9 tb9 hA9 ⊢;have k0D:KpA Av mp H (upd H9 D (.lst (zs++[.ref t2]))):=λb o n1 n2 e=>by
   rw[aj (aw e hDn)];exact k09 _ _ n1 n2 e
  have hRD:R (L++L2++L3) (upd H9 D (.lst (zs++[.ref t2]))):=AF.keep _ _ _ hR9 λb o hb e=>by
   have n:b≠D:=λz=>by
    rw[z]at hb;exact nfD hb
   rw[aj n];exact e
  refine #[_,_,_,rfl,rfl,h9,bh .(a),_,_,_,L2++L3,rfl,ag,?_,?_,k0D,?_,?_]
  .rw[Ef _ hi];exact aD.append (dj h9 hA9) (.cons #[t2,_,_,rfl,by rw[aj (λz=>by rw[z,h9]at h9t;cases h9t)];exact h9t,rfl,rfl] .nil)
  .rw[<-il];exact S.kp k0D (MD tb9 h9) hRD (AF.avl _ _ hRD)
  .rw[aS];lia
  .rw[aj (bt nDy)];exact h9y
 .rintro U H5 ⟨x5,x6,zs,L2,rfl,h5,hA,S5,k05,hL2,h5y⟩;rw[hdl]at hA hL2;rw[bG .(a)]at hA;refine .(A);exact q D zs H5 L2 S5 k05 hDn h5 hA hL2
def Kp0 (H H':Hp):Prop:=∀ b o,(∀ tab,o≠.tbl tab)->H b=some o->H' b=some o
def xE {K:Frag}(k:Kp0 H H'):∀{es:List (Int×Int)} {ws:List V},aD K H es ws->aD K H' es ws
 | _,_,.nil=>.nil
 | _,_,.cons h t=>by
  refine .cons ?_ (xE k t);obtain ⟨a,x1,x2,rfl,hT,e1,e2⟩:=(show hasP K H _ _ from h);exact #[a,x1,x2,rfl,k _ _ nofun hT,e1,e2]
def MJ {K:Frag}{js:List Nat}{qs:List Addr}(k:Kp0 H H')(h:bI K H ps Re js qs):bI K H' ps Re js qs:=fQ (λj q ⟨ws,h1,h2⟩=>#[ws,k _ _ (λ_ z=>by cases z) h1,xE k h2]) h
def MK {js:List Nat}{xs:List V}(k:Kp0 H H')(h:Paired (BrAt [] H ps Re) js xs):Paired (BrAt [] H' ps Re) js xs:=fQ (λj x ⟨b,o,j',ys,h1,h2,h3,h4,h5,h6,h7⟩=>
 #[b,o,j',ys,h1,h2,h3,k _ _ (λ_ z=>by cases z) h4,k _ _ (λ_ z=>by cases z) h5,k _ _ (λ_ z=>by cases z) h6,fQ (λc y ⟨a,s,g1,g2,g3,g4⟩=>#[a,s,g1,g2,k _ _ (λ_ z=>by cases z) g3,k _ _ (λ_ z=>by cases z) g4]) h7]) h
def Kp0.trans (a:Kp0 H H1)(b:Kp0 H1 H2):Kp0 H H2:=λc o n h=>b c o n (a c o n h)
def Kp0.of (a:Same H H1):Kp0 H H1:=λc o _ h=>a c o h
def Kp0.tup {H H1:Hp}(a:Kp0 H H1){b:Addr}{us:List V}(h:H b=some (.tup us)):H1 b=some (.tup us):=a _ _ nofun h
def Kp0.lst {H H1:Hp}(a:Kp0 H H1){b:Addr}{us:List V}(h:H b=some .(ia)):H1 b=some .(ia):=a _ _ nofun h
def Eg (e:Kp0 H H'):∀{as:List Addr} {Re:List (List Int)},bH H as Re->bH H' as Re
 | _,_,.nil=>.nil
 | _,_,.cons h t=>.cons (e.tup h) (Eg e t)
def ML {st t:Addr}(e:Kp0 H H')(S:dw H st ps Re t rs as):dw H' st ps Re t rs as:=
 #[e.tup S.st,e.tup S.tr,e.tup S.rs,Eg e S.at_,S.len,S.T,S.R,S.few,S.keys]
def xF {w:List Nat}(e:Kp0 H H')(h:dB H wa ps w):dB H' wa ps w:=#[e.lst h.at_,h.len,h.ne,h.ch,h.kn]
def Eh (s:LS K L d H)(g:Kp0 H H'):LS K L d H':=by
 obtain ⟨ns,a,l,e,q⟩:=s.ex;refine #[ns,a,l,g _ _ nofun e,?_];rcases q with (q|⟨o,q⟩)|q
 .exact .inl (.inl (g _ _ nofun q))
 .exact .inl (.inr #[o,g _ _ nofun q])
 .exact .inr q
def MM {Re:List .(h)}{k:Nat}(h:k<Re.length):ay Re k∈Re:=by
 unfold ay;rw[aF,aA h];exact cC h
def fR (x:bB H Pt pos q):∃ tab,H Pt=some (.tbl tab):=by
 obtain ⟨tab,e,_⟩:=x.ex;exact #[tab,e]
def MN (T:Txt K mg)(zk:DF K mg "_law_children" qp rT):FC P w K mg base 1 "_law_children" rT (lK K):=by
 refine zk.ok JX .(c) .(b)
 .obtain ⟨t,ps,k,rfl,_⟩:=h;rfl
 obtain ⟨t,ps,k,rfl,ht,hz,q⟩:=h;refine #[_,(au (aK (fM (N:=["_law_k","_law_tree_here","_law_knot"]) (own:=1) (cap:=[0,1]) rfl (fb rfl T.de (aa (aN (bF (K:=K)) rfl T.bD bz (aa (pv 0) ae)) ae)) #[rfl,rfl,rfl,rfl,rfl,rfl] (λ_ _ _ _ _=>(aO (i:=0) (show List.Nodup (["_law_k","_law_tree_here","_law_knot"]:List Str) by decide +kernel) rfl (av rfl))) (λ_ _ _ _ _=>(gP (aW dH (aH (bA (K:=K)) (pv 1) (pv 0) .(ma)) (pv 2) (bf _)))) (λ_ _ _ _ _=>(pv 0))))),?_];refine #[_,rfl,_,_,rfl,.inr (SqT.of ht),_,rfl,by lia,by rw[cy];lia,λD hD=>?_];have el:((((bS ps).length:Nat):Int)).toNat=ps.length+1:=by rw[cy,fU]
 rw[el];refine kZ (n:=ps.length+1) (λj U H3=>∃ x0:Option V,U=[x0,some (.ref t),some (.int k)]/\H3 D=some (.lst ((bR ps k j).map nV))/\But D H H3) ?_ ?_ ?_
 .exact .(m)
 .rintro j m U H3 hm hj ⟨x0,rfl,h3,k3⟩;rw[gk];have h3t:=k3 _ _ (aw ht hD) ht;have hlen:=nk ps k j;refine #[_,rfl,_,rfl,_,_,_,_,rfl,rfl,SqT.of h3t,jr hj,_,rfl,wW _ _ _,_,rfl,?_];refine ite2 .(t) .(t)
  .have c':par ps j=some k:=tJ.mp (bO c);refine #[_,rfl,_,h3,bh .(y),m-1,by lia,by lia,_,rfl,?_,λb o n e=>by rw[aj n];exact k3 b o n e];rw[ag,sY,ak c',bw];rfl
  .have c':¬ par ps j=some k:=λz=>c (aV (tJ.mpr z));refine #[m-1,by lia,by lia,_,rfl,?_,k3];rw[h3,sY,ao c',bQ]
 .rintro U H3 ⟨x0,rfl,h3,k3⟩;exact q D H3 hD (λb o e=>k3 b o (aw e hD) e) h3
def MO {us:List Nat}{c ch:Nat}(h:lI ps (us++[c]))(hp:par ps ch=some c):lI ps ((us++[c])++[ch]):=KM h λ_=>by
 rw[hp,aS,cS,kH,aF,gi (aq _),mf];rfl
inductive xG (K:Frag)(vs:List V)(H:Hp)(Q:VK)(w_1:XK):Prop
 | c:∀(d L t:Addr) (ps:List Nat),vs=[.ref d,.ref t]->H t=some (.tup (bS ps))->aP ps->ps.length<=40->LS K L d H->(∀(wa:Addr) (w:List Nat) (H':Hp),H wa=none->dB H' wa ps w->Keep d H H'->LS K L d H'->Q (.ref wa) H')->xG K vs H Q w_1
def MP (T:Txt K mg)(zl:DF K mg "_law_way" qr rV)(bV:FC P w K mg base 2 "_law_take" gA (gO K))(E6:FC P w K mg base 1 "_law_children" rT (lK K)):FC P w K mg base 3 "_law_way" rV (xG K):=by
 refine zl.ok qQ .(c) .(b)
 .obtain ⟨d,L,t,ps,rfl,_⟩:=h;rfl
 obtain ⟨d,L,t,ps,rfl,ht,hT,hl,hs,q⟩:=h;have ndT:∀{H':Hp} {a:Addr} {o:List V},LS K L d H'->H' a=some (.tup o)->a≠d:=λ{H' a o} s e z=>by
  obtain ⟨_,_,_,e2,_⟩:=s.ex;rw[<-z,e]at e2;cases e2
 have nd:∀{H':Hp} {a:Addr},LS K L d H'->H' a=none->a≠d:=λ{H' a} s e z=>by
  obtain ⟨_,_,_,e2,_⟩:=s.ex;rw[<-z,e]at e2;cases e2
 have free:∀{H':Hp} {a:Addr},Keep d H H'->LS K L d H'->H' a=none->H a=none:=λ{H' a} k s e=>by
  cases e2:H a with
  | none=>rfl
  | some o=>
   have:=k _ _ (nd s e) e2;rw[e]at this;cases this
 refine #[_,(aB (aI (i:=2) qQ.nd rfl (av rfl) (bN (aa (aG bV hr (aa (pv 0) (aa (aN (bF (K:=K)) rfl T.bD bz (aa (pv 1) ae)) ae))) ae)))
   (cx (bq (aW dH (aG bV hr (aa (pv 0) (aa ah ae))) ah (bf _)) (au (aI (i:=2) qQ.nd rfl (av rfl) (bN (aa ah ae)))) bE)
   (aB (mr PassesOwn.never (PW.pt (iW (aW (o4 (List Int) (huD hr)) (aG E6 hr (aa (pv 1) (aa (aH (bg (K:=K)) (pv 2) (fe ff ah) (λ_ _=>rfl)) ae))) (bN ae) (bf _)) (iV (aW ix (aG bV hr (aa (pv 0) (aa ah ae))) ah (bf _))))) (aB (aI (i:=3) qQ.nd rfl (av rfl) (aG E6 hr (aa (pv 1) (aa (aH (bg (K:=K)) (pv 2) (fe ff ah) (λ_ _=>rfl)) ae))))
   (au (cM (dJ F.plainAttrs_list F.slot_list_append F.type_list_append dM (pv 2) (aa (aH (bg (K:=K)) (pv 3) (aG bV hr (aa (pv 0) (aa (aN (bF (K:=K)) rfl T.bD bz (aa (pv 3) ae)) ae))) (λ_ _=>rfl)) ae))))))
   (au (aK (pv 2)))))),?_]
 refine #[_,rfl,_,rfl,_,_,rfl,.inr (SqT.of ht),d,L,_,rfl,by rw[cy];lia,hs,λv H1 v0 v1 k1 s1=>?_];rw[cy]at v1;obtain ⟨k0,rfl⟩:=wH v0;refine #[.(g),λp hp=>?_];have sp:=az hp (.lst [nV k0]);have hpp:upd H1 p (.lst [nV k0]) p=some (.lst [nV k0]):=ag;have s1p:=s1.same sp;have k1p:Keep d H (upd H1 p (.lst [nV k0])):=λb o nb e=>sp _ _ (k1 _ _ nb e);have hp0:=free k1 s1 hp;generalize upd H1 p (.lst [nV k0])=H2 at hpp s1p k1p ⊢;refine #[λU' H'=>∃(p:Addr) (k0:Nat),U'=[some (.ref d),some (.ref t),some (.ref p),none]/\H' p=some (.lst [nV k0])/\k0<ps.length+1/\H p=none/\Keep d H H'/\LS K L d H',?_,?_]
 .refine #[_,rfl,d,L,2,rfl,by decide,s1p,λv H3 _ _ k3 s3=>#[rfl,_,rfl,?_]];have hpd:p≠d:=nd s1 hp;have k03:Keep d H H3:=λb o nb e=>k3 _ _ nb (k1p _ _ nb e);refine ite2 .(fa) .(fa)
  .refine #[.(g),λu hu=>?_];have su:=az hu (.lst [nV 0]);exact #[u,0,rfl,ag,by lia,free k03 s3 hu,λb o nb e=>su _ _ (k03 _ _ nb e),s3.same su]
  .exact #[p,k0,rfl,k3 _ _ hpd hpp,by lia,hp0,k03,s3]
 clear hpp s1p k1p hp0 sp hp k1 s1;rintro U' H3 ⟨p,k0,rfl,h3,hk0,hp,k3,s3⟩;have hpd:p≠d:=nd hs hp;have htp:t≠p:=aw ht hp;have htd:=ndT hs ht;refine vv (λU HW=>∃(us:List Nat) (c:Nat) (x3:Option V),U=[some (.ref d),some (.ref t),some (.ref p),x3]/\HW p=some (.lst ((us++[c]).map nV))/\us.length<=c/\c<ps.length+1/\lI ps (us++[c])/\(∀ x∈us++[c],x<ps.length+1)/\(∀ b o,b≠d->b≠p->H b=some o->HW b=some o)/\LS K L d HW)
  (λU HW=>∃(w:List Nat) (x3:Option V),U=[some (.ref d),some (.ref t),some (.ref p),x3]/\dB HW p ps w/\(∀ b o,b≠d->b≠p->H b=some o->HW b=some o)/\LS K L d HW)
  (λ_ H2=>match H2 p with|some (.lst xs)=>1000-xs.length|_=>0) ?_ ?_ ?_ ?_
 .refine #[[],k0,_,rfl,h3,cv _,hk0,λt ht=>?_,λx hx=>?_,λb o nb _ e=>k3 _ _ nb e,s3]
  .rw[List.nil_append,cS]at ht;lia
  .rw[bM.mp hx];exact hk0
 .rintro U HW ⟨us,c,x3,rfl,hw,hul,hc,hch,hkn,kw,sw⟩;have hwt:=kw _ _ htd htp ht;have done:∀{HX:Hp} {x3:Option V},(∀ b o,b≠d->HW b=some o->HX b=some o)->LS K L d HX->∃(w:List Nat) (x3':Option V),[some (V.ref d),some (.ref t),some (.ref p),x3]=[some (.ref d),some (.ref t),some (.ref p),x3']/\dB HX p ps w/\(∀ b o,b≠d->b≠p->H b=some o->HX b=some o)/\LS K L d HX:=λ{HX x3} k s=>
   #[us++[c],x3,rfl,#[k _ _ hpd hw,by rw[aS,cS];lia,by simp,hch,hkn],λb o n1 n2 e=>k _ _ n1 (kw _ _ n1 n2 e),s]
  refine #[_,rfl,_,rfl,_,rfl,_,_,_,_,rfl,rfl,SqL.of hw,xv,t,ps,c,rfl,hwt,by lia,λcl HX hcl sx hx=>?_];refine #[.(B),λe he=>?_];have se:=az he .(V);have sxe:=sx.trans se;have swe:=sw.same sxe;refine #[(bR ps c (ps.length+1)).map (λn:Nat=>(n:Int)),[],#[_,_,rfl,SqL.of (se _ _ hx),K7],#[_,_,rfl,SqL.of ag,.nil],_,rfl,?_];generalize upd HX e .(V)=HE at sxe swe ⊢;refine ite2 (λcne=>?_) .(fa)
  .refine #[_,rfl,d,L,6,rfl,by decide,swe,λv H4 _ _ k4 s4=>?_];have k04:∀ b o,b≠d->HW b=some o->H4 b=some o:=λb o nb e=>k4 _ _ nb (sxe _ _ e);refine #[_,_,rfl,rfl,_,rfl,?_];refine ite2 .(fa) .(fa)
   .have h4:=k04 _ _ hpd hw;have h4t:=k04 _ _ htd hwt;refine #[_,rfl,_,rfl,_,rfl,_,_,_,_,rfl,rfl,SqL.of h4,xv,t,ps,c,rfl,h4t,by lia,λc2 H5 hc2 s5 h5=>?_];have hcne:bR ps c (ps.length+1)≠[]:=λz=>by
     rw[z]at cne;cases cne
    have hcmem:=λm=>da (ps:=ps) (k:=c) (n:=ps.length+1) (j:=m);have hcl:=nk ps c (ps.length+1);generalize bR ps c (ps.length+1)=cs at hcne h5 hcmem hcl;have hpos:0<cs.length:=mn.mpr hcne;have h5p:=s5 _ _ h4;have s45:=s4.same s5;refine #[_,rfl,.inl #[rfl,_,SqL.of h5p],_,rfl,_,rfl,_,rfl,_,_,rfl,.inl (SqL.of h5),d,L,_,rfl,by rw[ai];lia,s45,λv2 H6 v20 v21 k6 s6=>?_];rw[ai]at v21;obtain ⟨j,rfl⟩:=wH v20;have hj:j<cs.length:=by lia
    have h6:=k6 _ _ hpd h5p;have hc2d:c2≠d:=nd s4 hc2;refine #[_,_,_,_,rfl,rfl,SqL.of (k6 _ _ hc2d h5),gW hj,?_];have hm:cs.getD j 0∈cs:=by
     rw[aF,aA hj];exact cC hj
    generalize cs.getD j 0=ch at hm ⊢;obtain ⟨hchn,hchp⟩:=(hcmem ch).mp hm;have hlt:=(bj hT hchp).1;refine #[_,_,_,rfl,rfl,h6,bh (by rw[ai,aS,cS];lia),?_];have k06:∀ b o,b≠d->HW b=some o->H6 b=some o:=λb o nb e=>k6 _ _ nb (s5 _ _ (k04 _ _ nb e));refine #[#[us++[c],ch,_,rfl,?_,?_,hchn,?_,?_,λb o n1 n2 e=>?_,?_],?_]
    .rw[ag,bw (l₂:=[ch])];rfl
    .rw[aS,cS];lia
    .exact MO hch hchp
    .intro x hx;rcases bX.mp hx with z|z
     .exact hkn x z
     .rw[bM.mp z];exact hchn
    .rw[aj n2];exact k06 _ _ n1 (kw _ _ n1 n2 e)
    .exact LS.put hs hp (λb o n1 n2 e=>k06 _ _ n1 (kw _ _ n1 n2 e)) s6
    .show (match upd H6 p _ p with|some (.lst xs)=>1000-xs.length|_=>0)<(match HW p with|some (.lst xs)=>1000-xs.length|_=>0)
     rw[ag,hw];show 1000-(((us++[c]).map nV)++[nV ch]).length<1000-((us++[c]).map nV).length;rw[aS,ai,aS,cS,cS];lia
   .exact done k04 s4
  .refine iteF ?_;exact done (λb o _ e=>sxe _ _ e) swe
 .refine BB (λU H Q Q' m h=>?_) (λU H Q Q' m h=>?_)
  .obtain ⟨y1,e1,y2,e2,y3,e3,y4,y5,y6,y7,e4,e5,e6,e7,t,ps,k,e8,e9,e10,q⟩:=h;refine #[y1,e1,y2,e2,y3,e3,y4,y5,y6,y7,e4,e5,e6,e7,t,ps,k,e8,e9,e10,λp H' a1 a2 a3=>?_];obtain ⟨z1,z2⟩:=q p H' a1 a2 a3;refine #[z1,λe he=>?_];obtain ⟨as,bs,g1,g2,b,g3,q⟩:=z2 e he;exact #[as,bs,g1,g2,b,g3,m _ _ q]
  .obtain ⟨y1,e1,d,L,z,e2,e3,e4,q⟩:=h;refine #[y1,e1,d,L,z,e2,e3,e4,λv H' a1 a2 a3 a4=>?_];obtain ⟨i,j,g1,g2,b,g3,q⟩:=q v H' a1 a2 a3 a4;exact #[i,j,g1,g2,b,g3,m _ _ q]
 rintro U HW ⟨w,x3,rfl,W,kw,sw⟩;refine .(A);exact q p w HW hp W (λb o nb e=>kw _ _ nb (aw e hp) e) sw
abbrev Ei:Str:=(envOfC ("search_for_key" : Str) (aE lp) 0 0 .none).qual ++ "<lambda>"
abbrev Ej:Pos:=#[220,48,220,89]
structure TabS (mF mS:Addr)(H:Hp):Prop where
 f:bB H mF j9 j8
 s:bB H mS Ej Ei
 n:mF≠mS
def TabS.ext (x:TabS mF mS H)(e:Ext H H'):TabS mF mS H':=#[x.f.ext e,x.s.ext e,x.n]
def MQ {bs:Heap}{g c' pf:Addr}{key:Int}{qs:List Addr}{nm:List Str}{qn:Str}(hV:FV P w K mg bs 2 g nm (jU 2 (tOp (rI0 λi j=>.bl (decide (i<j))) (tOp (rIxT K) (tOp (rIxL K) (tOp (rIxL K) (tVar 3) (tVar 0)) (tVar 1)) (tC (.int 0))) (tVar 2)) [.int key,.ref pf] c' qn))(hC:jf H4 c' qn)(t4:bB H4 mF j9 j8)(h4:H4 pf=some (.lst (qs.map V.ref)))(hF4:bI K H4 ps Re (List.range (ps.length+1)) qs):AskF P w K mg bs g [] mF (λb=>b≠mF/\H4 b≠none) (λ_ H'=>Gro mF H4 H') ps Re key:=by
 have nm1:∀{x:Addr} {o:HO},H4 x=some o->(∀ tab,o≠.tbl tab)->x≠mF:=λ{x o} e n z=>by
  obtain ⟨tab,e2⟩:=fR t4;rw[<-z,e]at e2;exact n _ (aJ e2)
 refine #[λL Ha Hb hR hk b o n e=>hk b o #[n,by rw[e];exact λz=>nomatch z] (hR b o n e),λL Ha b hR hb=>?_,λL Ha hR a ha=>absurd ha cJ,λz=>z.1 rfl,_,_,hV,λkn i L Ha Q hkn hi _ hR hQ=>#[rfl,hR _ _ (nm1 hC nofun) hC,?_]]
 .cases e:H4 b with
  | none=>exact absurd e hb.2
  | some o=>
   rw[hR b o hb.1 e];exact λz=>nomatch z
 .obtain ⟨qk,hqk,wk,hwk,hak⟩:=lR hF4 hkn;have hge:(af ps Re kn)[i]?=some ((af ps Re kn).getD i (0,0)):=by
   rw[aF,aA hi];rfl
  obtain ⟨v,hv,bb,x1,x2,rfl,hb,e1,e2⟩:∃ v,wk[i]?=some v/\hasP K H4 ((af ps Re kn).getD i (0,0)) v:=xn hak hge;have e1':x1=.int ((af ps Re kn).getD i (0,0)).1:=e1;subst e1';have ha:=hR _ _ (nm1 h4 nofun) h4;have hwa:=hR _ _ (nm1 hwk nofun) hwk;have hba:=hR _ _ (nm1 hb nofun) hb;refine #[_,rfl,_,rfl,_,_,_,_,rfl,rfl,SqL.of ha,c8 (v:=.ref qk) (by rw[aZ,hqk];rfl),_,rfl,_,_,_,_,rfl,rfl,SqL.of hwa,c8 hv,_,_,_,_,rfl,rfl,SqT.of hba,rfl,_,rfl,_,_,rfl,rfl,?_];exact hQ _ hR λ_ _ _ h=>h
def Kp2 (mF mS:Addr)(H H':Hp):Prop:=∀ b o,b≠mF->b≠mS->H b=some o->H' b=some o
def Kp2.kp0 (k:Kp2 mF mS H H')(x:TabS mF mS H):Kp0 H H':=λb o n e=>k b o (λz=>by
 obtain ⟨tab,e2⟩:=fR x.f;rw[<-z,e]at e2;exact n _ (aJ e2)) (λz=>by
 obtain ⟨tab,e2⟩:=fR x.s;rw[<-z,e]at e2;exact n _ (aJ e2)) e
inductive xH (K:Frag)(mF mS:Addr)(vs:List V)(H:Hp)(Q:VK)(w_1:XK):Prop
 | c:∀(st t rs pf wa:Addr) (key:Int) (ps:List Nat) (Re:List (List Int)) (as qs:List Addr) (wy:List Nat),vs=[.ref t,.ref pf,.ref wa,.int key]->dw H st ps Re t rs as->H pf=some (.lst (qs.map V.ref))->bI K H ps Re (List.range (ps.length+1)) qs->dB H wa ps wy->TabS mF mS H->(∀(D:Addr) (zs:List V) (H':Hp),H D=none->Kp2 mF mS H H'->TabS mF mS H'->H' D=some (.lst zs)->aD K H' (wy.map λk=>(((bc (af ps Re k) key:Nat):Int),((ownB Re k key:Nat):Int))) zs->Q (.ref D) H')->xH K mF mS vs H Q w_1
def MR (T:Txt K mg){mc mp:Addr}(ur:DFT K mg "search_for_key" lp rM mc mp)(hBM:BMAt mg base)(Pj:FC P w K mg base 2 "bridges_of" rG (xp K))(Pk:∀ b,Sub K mg base b->FC P w K mg b 6 "search" rL (xD P w K mg b mF)):FC P w K mg base 7 "search_for_key" rM (xH K mF mp):=by
 refine ur.ok JV .(c) (λf A outer s H vs Q E hr h=>?_)
 .obtain ⟨st,t,rs,pf,wa,key,ps,Re,as,qs,wy,rfl,_⟩:=h;rfl
 obtain ⟨st,t,rs,pf,wa,key,ps,Re,as,qs,wy,rfl,S,hpf,hF,W,TT,q⟩:=h;refine #[_,(au (aK (IW (kf:=1) Pk hr (aG Pj hr (aa (pv 0) (aa (pv 1) ae))) (pv 2) (vD (osc:=aE lp) (N:=["tree","fulls","way","key"]) (ps:=["knot","at"]) (caps:=["key","fulls"]) (cap:=[3,1]) #[rfl,rfl,rfl,by decide +kernel,by decide +kernel,by decide +kernel,by decide +kernel] .(Aa) .(Aa) rfl rfl rfl rfl (λ_ _ _ _ us hl=>match us,hl with|[_,_],_=>rfl) (λ_=>rfl)) rfl ur.hd hBM (λb _ _ _ _ _ _ _ S hr=>(oK fH (aH (bA (K:=K)) (aH (bg (K:=K)) (aH (bg (K:=K)) (pv 3) (pv 0) .(ma)) (pv 1) .(ma)) ah .(ma)) (pv 2) (bf _)))))),?_]
 refine #[_,rfl,_,rfl,st,ps,Re,t,rs,as,pf,qs,rfl,S,hpf,hF,λbr xs H3 hbr s3 h3 hB=>?_];have T3:=TT.ext s3.ext;refine #[_,rfl,T3.s,[.int key,.ref pf],rfl,?_,λbs g c' H4 hg hT4 hC SB hV=>?_]
 .intro j i v h1 h2;rcases j with _|_|j
  .cases h1;cases h2;rfl
  .cases h1;cases h2;rfl
  .cases h1
 have nmS:∀{x:Addr} {o:HO},H3 x=some o->(∀ tab,o≠.tbl tab)->x≠mp:=λ{x o} e n z=>by
  obtain ⟨tab,e2⟩:=fR T3.s;rw[<-z,e]at e2;exact n _ (aJ e2)
 have k34:Kp0 H3 H4:=λb o n e=>hg _ _ (nmS e n) e;have t4:bB H4 mF j9 j8:=T3.f.gro hg T3.n (fR T3.s);have nm1:∀{x:Addr} {o:HO},H4 x=some o->(∀ tab,o≠.tbl tab)->x≠mF:=λ{x o} e n z=>by
  obtain ⟨tab,e2⟩:=fR t4;rw[<-z,e]at e2;exact n _ (aJ e2)
 have kp04:Kp0 H H4:=Kp0.trans (.of s3) k34;have h4:=kp04.lst hpf;have hF4:=MJ kp04 hF;have AF:=MQ hV hC t4 h4 hF4;have SE:cI [] mF (λ_ H'=>Gro mF H4 H') ps Re br xs [] H4:=#[Gro.refl _ _,λa ha=>absurd ha cJ,k34.lst h3,cJ,MK k34 hB,t4];refine #[br,wa,g,xs,ps,Re,wy,key,[],_,_,[],rfl,AF,SE,S.T,S.R,S.few,xF kp04 W,cJ,cv _,(λk hk=>by have:=tL S.T S.len (Re:=Re) hk;have:=S.keys.k;lia),λD zs H5 L' S5 k5 hDn h5 hA _=>?_];have k45:Gro mF H4 H5:=λb o n e=>k5 b o cJ n e;have kp45:Kp0 H4 H5:=λb o n e=>k45 _ _ (nm1 e n) e;refine q D zs H5 ?_ (λb o n1 n2 e=>k45 _ _ n1 (hg _ _ n2 (s3 _ _ e))) #[S5.tb,hT4.gro k45 (bt TT.n) (fR t4),TT.n] h5 hA;cases e:H D with
 | none=>rfl
 | some o=>
  by_cases z:D=mp
  .obtain ⟨tab,e2⟩:=fR hT4;rw[z,e2]at hDn;cases hDn
  .have:=hg _ _ z (s3 _ _ e);rw[hDn]at this;cases this
def iM (row:List Int)(key:Int):Nat:=(row.filter λx=>decide (x<key)).length
def MS {row:List Int}{key:Int}{m:Nat}(hm:m<=row.length)(h1:∀ i,i<m->decide (row.getD i 0<key)=true)(h2:∀ i,m<=i->i<row.length->decide (row.getD i 0<key)=false):iM row key=m:=by
 unfold iM
 conv=>lhs;rw[<-eY m row]
 rw[dg,aS];have e1:(row.take m).filter (λx=>decide (x<key))=row.take m:=by
  rw[oo];intro x hx;obtain ⟨i,hi,rfl⟩:=cY hx;rw[bu]at hi;have:=h1 i .(a);rw[aF,aA .(a)]at this;rw[List.getElem_take];exact this
 have e2:(row.drop m).filter (λx=>decide (x<key))=[]:=by
  rw[iq];intro x hx;obtain ⟨i,hi,rfl⟩:=cY hx;rw[eU]at hi;have:=h2 (m+i) .(a) .(a);rw[aF,aA .(a)]at this;rw[List.getElem_drop];intro z;rw[show decide (row[m+i]<key)=false from this]at z;cases z
 rw[e1,e2,bu,ie];lia
abbrev lamQ:Str:=(envOfC ("place" : Str) (aE lj) 0 0 .none).qual ++ "<lambda>"
abbrev g5:Pos:=#[56,36,56,60]
inductive tZ (K:Frag)(mp:Addr)(vs:List V)(H:Hp)(Q:VK)(w_1:XK):Prop
 | c:∀(r:Addr) (row:List Int) (key:Int),vs=[.ref r,.int key]->H r=some (.tup (row.map V.int))->row.Pairwise (· < ·)->bB H mp g5 lamQ->(∀ H':Hp,Gro mp H H'->bB H' mp g5 lamQ->Q (.int (iM row key:Nat)) H')->tZ K mp vs H Q w_1
def MT (T:Txt K mg){mc mp:Addr}(uu:DFT K mg "place" lj mU mc mp)(hBM:BMAt mg base)(zg:∀ base,FC P w K mg base 4 "how_many_below" mT (tS P w K mg base)):FC P w K mg base 5 "place" mU (tZ K mp):=by
 refine uu.ok JJ .(c) (λf A outer s H vs Q E hr h=>?_)
 .obtain ⟨r,row,key,rfl,_⟩:=h;rfl
 obtain ⟨r,row,key,rfl,h0,hup,hT,q⟩:=h;refine #[_,(au (aK (IK (kf:=0) zg hr (aN (bF (K:=K)) rfl T.bD bz (aa (pv 0) ae)) (vD (osc:=aE lj) (N:=["row","key"]) (ps:=["at"]) (caps:=["key","row"]) (cap:=[1,0]) #[rfl,rfl,rfl,by decide +kernel,by decide +kernel,by decide +kernel,by decide +kernel] .(Aa) .(Aa) rfl rfl rfl rfl (λ_ _ _ _ us hl=>match us,hl with|[_],_=>rfl) (λ_=>rfl)) rfl uu.hd hBM (λ_ _ _ _ _ _ _ _ _=>(oK fH (aH (bA (K:=K)) (pv 2) (pv 0) .(ma)) (pv 1) (bf _)))))),?_]
 refine #[_,rfl,_,_,rfl,.inr (SqT.of h0),hT,[.int key,.ref r],rfl,?_,λbase f c' H2 hg hT2 hC hV=>?_]
 .intro j i v h1 h2;rcases j with _|_|j
  .cases h1;cases h2;rfl
  .cases h1;cases h2;rfl
  .cases h1
 have nmp:r≠mp:=λz=>by
  obtain ⟨tab,e,_⟩:=hT.ex;rw[<-z,h0]at e;cases e
 have h2r:=hg _ _ nmp h0;rw[ai];refine #[row.length,f,_,_,λi=>decide (row.getD i 0<key),λ_ H'=>H'=H2,rfl,FV.mono hV .(q),rfl,λi L1 H1 Q1 hi _ hR hQ=>?_,λi j hij hj hb=>?_,λm L1 H' hm hb1 hb2 _ hR=>?_]
 .subst hR;refine #[rfl,hC,?_];have hat:atI (row.map V.int) ((i:Nat):Int)=some (.int (row.getD i 0)):=c8 (by rw[aZ,aA hi,aF,aA hi];rfl);refine #[_,rfl,_,rfl,_,_,_,_,rfl,rfl,SqT.of h2r,hat,_,rfl,_,_,rfl,rfl,?_];exact hQ _ rfl
 .refine aV ?_;have hb:=bO hb;by_cases e:i=j
  .subst e;exact hb
  .have:=dU.mp hup i j .(a) hj .(a);rw[aF,aA .(a)]at hb ⊢;exact Int.lt_trans this hb
 .subst hR;have e:=MS hm hb1 hb2;have q2:=q _ hg hT2;rw[e]at q2;exact q2
def bp (a b:List En):List En:=a.filter λe=>decide (e∉b)
def fA {a:List En}{e:En}:e∈bp a b↔e∈a/\e∉b:=by
 unfold bp;rw[d6,decide_eq_true_iff]
def MU (a:List En):bp a a=[]:=iq.mpr λe h=>by
 rw[bx (λz=>z h)];decide
def Ek {a:List En}(h:a.Nodup):(bp a b).Nodup:=h.filter _
structure Led (f f' g c:List En):Prop where
 eq:f'=cT (bp f g++c)
 gone:g=bp f f'
 come:c=bp f' f
def xI (h1:Rise f)(h2:Rise f')(hg:Rise g)(hc:Rise c)(mg:∀ e,e∈g↔e∈f/\e∉f')(mc:∀ e,e∈c↔e∈f'/\e∉f):Led f f' g c:=by
 have nd:(bp f g++c).Nodup:=by
  refine fF.mpr #[Ek (tO h1),tO hc,λa ha b hb z=>?_];subst z;exact ((mc a).mp hb).2 (fA.mp ha).1
 refine #[jt h2 (pb nd) λe=>?_,jt hg (h1.filter _) λe=>?_,jt hc (h2.filter _) λe=>?_]
 .rw[mH,bX,fA,mg,mc];constructor
  .intro h;by_cases hf:e∈f
   .exact .inl #[hf,λz=>z.2 h]
   .exact .inr #[h,hf]
  .rintro (⟨h,n⟩|h)
   .exact Classical.byContradiction λz=>n #[h,z]
   .exact h.1
 .exact (mg e).trans fA.symm
 .exact (mc e).trans fA.symm
def El (h1:Rise f)(h2:Rise f'):Led f f' (bp f f') (bp f' f):=xI h1 h2 (h1.filter _) (h2.filter _) (λ_=>fA) (λ_=>fA)
def Em (h1:Rise f)(h2:Rise f')(hg:bp f f'=[])(hc:bp f' f=[]):f'=f:=jt h2 h1 λe=>by
 constructor
 .intro h;exact Classical.byContradiction λz=>absurd (fA.mpr #[h,z]) (by rw[hc];exact cJ)
 .intro h;exact Classical.byContradiction λz=>absurd (fA.mpr #[h,z]) (by rw[hg];exact cJ)
section
variable {ps:List Nat}{Re Rc:List .(h)}
def ju (k:Nat)(Re Rc:List .(h)):Prop:=∀ j,j≠k->ay Rc j=ay Re j
def Eo {k j:Nat}(h:ju k Re Rc)(n:j≠k):ownE Rc j=ownE Re j:=by
 unfold ownE;rw[h j n]
def t5 (T:aP ps){k:Nat}(hk:k<ps.length+1)(h:ju k Re Rc):∀(m j:Nat),ps.length+1-j<=m->j<ps.length+1->isB ps j k=false->af ps Rc j=af ps Re j
 | 0,j,hm,hj,_=>by lia
 | m+1,j,hm,hj,hb=>by
  rw[gY T hj,gY T hj];unfold gF;have njk:j≠k:=λz=>by
   rw[z,iI]at hb;cases hb
  rw[Eo h njk];congr 3;refine ou λc hc=>?_;obtain ⟨hcn,hcp⟩:=da.mp hc;have hlt:=(bj T hcp).1;rw[t5 T hk h m c .(a) hcn ?_];cases e:isB ps c k with
  | false=>rfl
  | true=>
   rw[(jq T _ k (aq _) hk).mpr (.inr #[c,hcp,e])]at hb;cases hb
def Ep (T:aP ps)(R:aX Re)(R':aX Rc){k p:Nat}(hk:k<ps.length+1)(h:ju k Re Rc)(hb:isB ps j k=true)(hp:par ps j=some p) :
  Led (af ps Re p) (af ps Rc p) (bp (bC .(E)) (bC .(M))) (bp (bC .(M)) (bC .(E))):=by
 have hlt:=bj T hp;have hpn:p<ps.length+1:=by lia
 have npk:p≠k:=λz=>by
  have:=fP T (show k<j by lia);rw[hb]at this;cases this
 have oth:∀ c,par ps c=some p->c≠j->af ps Rc c=af ps Re c:=λc hc n=>by
  refine t5 T hk h _ c (aq _) (bj T hc).2 ?_;cases e:isB ps c k with
  | false=>rfl
  | true=>exact (jY T hc hp n _ k (aq _) e hb).elim
 have hr:=λ{r:List (List Int)} (R:aX r)=>(cz T R hlt.2).sublist (cU _);have dis:∀{r r':List (List Int)},aX r->aX r'->(∀ c,par ps c=some p->c≠j->af ps r' c=af ps r c)->ownE r' p=ownE r p->∀ e,e∈bC (af ps r j)->e∉bC (af ps r' j)->e∉af ps r' p:=λ{r r'} Q Q' ho hw e he hn hf=>by
  obtain ⟨i,hi,hbi,ei,_⟩:=iL T Q hlt.2 e ((cU _).subset he);rcases (dQ T hpn).mp hf with z|⟨c,hc,z⟩
  .have:=(j5 hpn z).2;have eij:i=p:=by lia
   have:=fP T hlt.1;rw[<-eij,hbi]at this;cases this
  .by_cases cj:c=j
   .subst cj;exact hn z
   .obtain ⟨i2,hi2,hb2,e2,_⟩:=iL T Q' (bj T hc).2 e ((cU _).subset z);have eii:i2=i:=by lia
    subst eii;exact jY T hc hp cj _ i2 (aq _) hb2 hbi
 have up:∀{r r':List (List Int)},(∀ c,par ps c=some p->c≠j->af ps r' c=af ps r c)->ownE r' p=ownE r p->∀ e,e∈af ps r p->e∉af ps r' p->e∈bC (af ps r j)/\e∉bC (af ps r' j):=λ{r r'} ho hw e he hn=>by
  refine #[?_,λz=>hn ((dQ T hpn).mpr (.inr #[j,hp,z]))];rcases (dQ T hpn).mp he with z|⟨c,hc,z⟩
  .exact absurd ((dQ T hpn).mpr (.inl (by rw[hw];exact z))) hn
  .by_cases cj:c=j
   .subst cj;exact z
   .exact absurd ((dQ T hpn).mpr (.inr #[c,hc,by rw[ho c hc cj];exact z])) hn
 have ow:=Eo h npk;refine xI (cz T R hpn) (cz T R' hpn) ((hr R).filter _) ((hr R').filter _) (λe=>fA.trans #[λzq0=>(by obtain ⟨a,b⟩:=zq0;exact #[(dQ T hpn).mpr (.inr #[j,hp,a]),dis R R' oth ow e a b]),λzq1=>(by obtain ⟨a,b⟩:=zq1;exact up oth ow e a b)]) (λe=>fA.trans #[λzq2=>(by obtain ⟨a,b⟩:=zq2;exact #[(dQ T hpn).mpr (.inr #[j,hp,a]),dis R' R (λc hc n=>(oth c hc n).symm) ow.symm e a b]),λzq3=>(by obtain ⟨a,b⟩:=zq3;exact up (λc hc n=>(oth c hc n).symm) ow.symm e a b)])
def Er (T:aP ps)(R:aX Re)(R':aX Rc){k:Nat}(hk:k<ps.length+1)(h:ju k Re Rc):Led .(e) (af ps Rc k) (bp (ownE Re k) (ownE Rc k)) (bp (ownE Rc k) (ownE Re k)):=by
 have oth:∀ c,par ps c=some k->af ps Rc c=af ps Re c:=λc hc=>t5 T hk h _ c (aq _) (bj T hc).2 (fP T (bj T hc).1);have half:∀{r r':List (List Int)},aX r'->(∀ c,par ps c=some k->af ps r' c=af ps r c)->∀ e,(e∈ownE r k/\e∉ownE r' k)↔e∈af ps r k/\e∉af ps r' k:=λ{r r'} Q' ho e=>by
  constructor
  .rintro ⟨a,b⟩;refine #[(dQ T hk).mpr (.inl a),λz=>?_];rcases (dQ T hk).mp z with z|⟨c,hc,z⟩
   .exact b z
   .obtain ⟨i,hi,hbi,ei,_⟩:=iL T Q' (bj T hc).2 e ((cU _).subset z);have:=(j5 hk a).2;have eik:i=k:=by lia
    have:=fP T (bj T hc).1;rw[<-eik,hbi]at this;cases this
  .rintro ⟨a,b⟩;refine #[?_,λz=>b ((dQ T hk).mpr (.inl z))];rcases (dQ T hk).mp a with z|⟨c,hc,z⟩
   .exact z
   .exact absurd ((dQ T hk).mpr (.inr #[c,hc,by rw[ho c hc];exact z])) b
 have ori:∀{r:List (List Int)},aX r->Rise (ownE r k):=λ{r} Q=>by
  unfold ownE;exact List.Pairwise.map _ (R:=λa b:Int=>a<b) (λa b (h:a<b)=>fZ.mpr (.inl h)) (Q.at_up k)
 exact xI (cz T R hk) (cz T R' hk) ((ori R).filter _) ((ori R').filter _) (λe=>fA.trans (half R' oth e)) (λe=>fA.trans (half R (λc hc=>(oth c hc).symm) e))
end
def accL (ps:List Nat)(Re:List .(h)):Nat->Nat->List En
 | 0,j=>ownE Re j
 | i+1,j=>accL ps Re i j++(if par ps (ps.length-i)=some j then bC (af ps Re (ps.length-i)) else [])
def xJ (T:aP ps){e:En}:∀ i,i<=ps.length->(e∈accL ps Re i j↔e∈ownE Re j\/∃ c,ps.length-i<c/\par ps c=some j/\e∈bC .(z))
 | 0,_=>by
  unfold accL;constructor
  .exact .inl
  .rintro (h|⟨c,h1,h2,_⟩)
   .exact h
   .have:=(bj T h2).2;lia
 | i+1,hi=>by
  unfold accL;rw[bX,xJ T i .(a)];constructor
  .rintro ((h|⟨c,h1,h2,h3⟩)|h)
   .exact .inl h
   .exact .inr #[c,by lia,h2,h3]
   .by_cases z:par ps (ps.length-i)=some j
    .rw[ak z]at h;exact .inr #[_,by lia,z,h]
    .rw[ao z]at h;cases h
  .rintro (h|⟨c,h1,h2,h3⟩)
   .exact .inl (.inl h)
   .by_cases z:c=ps.length-i
    .subst z;rw[ak h2];exact .inr h3
    .exact .inl (.inr #[c,by lia,h2,h3])
def Es (T:aP ps)(R:aX Re){j:Nat}(hj:j<ps.length+1):∀ i,i<=ps.length->(accL ps Re i j).Nodup
 | 0,_=>DC R j
 | i+1,hi=>by
  unfold accL;have ih:=Es T R hj i .(a);by_cases z:par ps (ps.length-i)=some j
  .rw[ak z,fF];have hc:=(bj T z).2;refine #[ih,(lM T R hc).sublist (cU _),λa ha b hb hab=>?_];subst hab;obtain ⟨u,_,g2,g3,_⟩:=iL T R hc a ((cU _).mem hb);rcases (xJ T i .(a)).mp ha with h|⟨c,h1,h2,h3⟩
   .have:=(j5 hj h).2;have:u=j:=by lia
    subst this;rw[fP T (bj T z).1]at g2;cases g2
   .obtain ⟨v,_,f2,f3,_⟩:=iL T R (bj T h2).2 a ((cU _).mem h3);have:u=v:=by lia
    subst this;exact jY T h2 z .(a) u u (aq _) f2 g2
  .rw[ao z,bQ];exact ih
def xK (T:aP ps)(R:aX Re){k:Nat}(hk:k<ps.length+1):cT (accL ps Re (ps.length-k) k)=af ps Re k:=by
 refine jt (pb (Es T R hk _ .(a))) (cz T R hk) λe=>?_;rw[mH,xJ T _ .(a),dQ T hk];constructor
 .rintro (h|⟨c,_,h2,h3⟩)
  .exact .inl h
  .exact .inr #[c,h2,h3]
 .rintro (h|⟨c,h2,h3⟩)
  .exact .inl h
  .exact .inr #[c,by have:=(bj T h2).1;lia,h2,h3]
def Et {j:Nat}(i:Nat):∀ d,(accL ps Re i j).length<=(accL ps Re (i+d) j).length
 | 0=>aq _
 | d+1=>by
  refine bW (Et i d) ?_;show _<=(accL ps Re (i+d) j++_).length;rw[aS];lia
def nH (T:aP ps)(R:aX Re)(hz:ps.length<=40)(hl:Re.length=ps.length+1)(F:Fw Re){i j:Nat}(hj:j<ps.length+1)(hi:i<=ps.length-j):(accL ps Re i j).length<=63:=by
 obtain ⟨d,hd⟩:∃ d,ps.length-j=i+d:=#[ps.length-j-i,by lia];have h:=xK T R hj;rw[hd]at h;have h2:=congrArg List.length h;rw[o7]at h2;exact bW (Et i d) (by rw[h2];exact lN T R hz hl F hj)
def valL (ps:List Nat)(Re:List .(h))(i j:Nat):List En:=if ps.length-i<j then af ps Re j else accL ps Re i j
structure FA (K:Frag)(H:Hp)(p:Addr)(qs:List Addr)(n:Nat)(f:Nat->List En):Prop where
 at_:H p=some (.lst (qs.map V.ref))
 len:qs.length=n
 nd:qs.Nodup
 np:p∉qs
 get:∀(j:Nat) (q:Addr),qs[j]?=some q->∃ ws,H q=some (.lst ws)/\aD K H (f j) ws
section
variable {K:Frag}{H H':Hp}{p:Addr}{qs:List Addr}{n:Nat}{f g:Nat->List En}
def FA.ext (h:FA K H p qs n f)(e:Ext H H'):FA K H' p qs n f:=
 #[e _ _ h.at_ (λ_ z=>nomatch z),h.len,h.nd,h.np,λj q hq=>by
  obtain ⟨ws,h1,h2⟩:=h.get j q hq;exact #[ws,e _ _ h1 nofun,h2.mono e]]
def FA.congr (h:FA K H p qs n f)(e:∀ j,j<n->f j=g j):FA K H p qs n g:=
 #[h.at_,h.len,h.nd,h.np,λj q hq=>by
  rw[<-e j (by have:=(aT.mp hq).1;have:=h.len;lia)];exact h.get j q hq]
def FA.set (h:FA K H p qs n f){k:Nat}{q':Addr}{l:List En}{ws:List V}(hq:H q'=some (.lst ws))(hw:aD K H l ws)(hn:q'∉qs)(hp:q'≠p):FA K (upd H p (.lst ((qs.map V.ref).set k (.ref q')))) p (qs.set k q') n (λj=>if j=k then l else f j):=by
 refine #[?_,by rw[nY];exact h.len,?_,λz=>?_,λj q hj=>?_]
 .rw[ag,jI]
 .show List.Pairwise _ _;rw[dU];intro i j hi hj hij;rw[nY]at hi hj;rw[List.getElem_set,List.getElem_set];have old:=dU.mp h.nd i j hi hj hij;split
  .rw[ao .(a)];exact λz=>hn (z ▸ cC hj)
  .split
   .exact λz=>hn (z ▸ cC hi)
   .exact old
 .rcases iU z with y|y
  .exact h.np y
  .exact hp y.symm
 .rw[ip]at hj;show ∃ ws,_/\aD K _ (if j=k then l else f j) ws
  by_cases c:k=j
  .rw[ak c]at hj;by_cases c2:k<qs.length
   .rw[ak c2]at hj;have:=aJ hj;subst this;rw[ak c.symm];exact #[ws,by rw[aj hp];exact hq,dj h.at_ hw]
   .rw[ao c2]at hj;cases hj
  .rw[ao c]at hj;rw[ao (λz=>c z.symm)];obtain ⟨us,h1,h2⟩:=h.get j q hj;have hqp:q≠p:=λz=>h.np (by rw[<-z];exact cX hj);exact #[us,by rw[aj hqp];exact h1,dj h.at_ h2]
def FA.put (h:FA K H p qs n f){k:Nat}{q:Addr}{ws:List V}{e:En}{x:V}(hk:qs[k]?=some q)(hq:H q=some (.lst ws))(hx:Rep.has K H e x):FA K (upd H q (.lst (ws++[x]))) p qs n (λj=>if j=k then f j++[e] else f j):=by
 have hqp:p≠q:=λz=>h.np (z ▸ cX hk);refine #[by rw[aj hqp];exact h.at_,h.len,h.nd,h.np,λj q2 hj=>?_];obtain ⟨us,h1,h2⟩:=h.get j q2 hj;show ∃ ws,_/\aD K _ (if j=k then f j++[e] else f j) ws
 by_cases c:j=k
 .subst c;rw[hk]at hj;have:=aJ hj;subst this;rw[hq]at h1;cases h1
  rw[ak rfl];exact #[_,ag,(dj hq h2).append (dj hq (.one hx))]
 .rw[ao c];have hne:q2≠q:=λz=>by
   subst z;obtain ⟨i1,e1⟩:=aT.mp hj;obtain ⟨i2,e2⟩:=aT.mp hk;have old:=dU.mp h.nd;rcases Nat.lt_or_gt_of_ne c with z|z
   .exact old j k i1 i2 z (e1.trans e2.symm)
   .exact old k j i2 i1 z (e2.trans e1.symm)
  exact #[us,by rw[aj hne];exact h1,dj hq h2]
def FA.at (h:FA K H p qs n f){k:Nat}(hk:k<n):∃ q ws,qs[k]?=some q/\H q=some (.lst ws)/\aD K H (f k) ws:=by
 have e:qs[k]?=some (qs[k]'(by have:=h.len;lia)):=aA _;obtain ⟨ws,h1,h2⟩:=h.get k _ e;exact #[_,ws,e,h1,h2]
end
inductive xM (K:Frag)(vs:List V)(H:Hp)(Q:VK)(w_1:XK):Prop
 | c:∀(t r:Addr) (ps:List Nat) (Re:List (List Int)) (as:List Addr),vs=[.ref t,.ref r]->H t=some (.tup (bS ps))->H r=some (.tup (as.map V.ref))->bH H as Re->Re.length=ps.length+1->aP ps->aX Re->ps.length<=40->Fw Re->(∀(p:Addr) (qs:List Addr) (H':Hp),H p=none->Same H H'->FA K H' p qs (ps.length+1) (af ps Re)->(∀ q∈qs,H q=none)->Q (.ref p) H')->xM K vs H Q w_1
def MV (T:Txt K mg)(zm:DF K mg "_law_fulls" qy r6)(Pl:FC P w K mg base 2 "_law_marks" rZ (nA K)):FC P w K mg base 3 "_law_fulls" r6 (xM K):=by
 refine zm.ok lB .(c) .(b)
 .obtain ⟨t,r,ps,Re,as,rfl,_⟩:=h;rfl
 obtain ⟨t,r,ps,Re,as,rfl,ht,hr0,hA,hlen,hT,hR,hfew,hkeys,q⟩:=h;refine #[_,(cQ (Hw "_law_k" (i:=2) (N:=["_law_k","_law_rows_here"]) (own:=1) (cap:=[1]) lB.nd rfl rfl rfl (fb rfl T.de (aa (aN (bF (K:=K)) rfl T.bD bz (aa (pv 0) ae)) ae)) #[rfl,rfl,rfl,rfl,rfl,rfl] (λ_ _ _ _ _=>(aO (i:=0) (show List.Nodup (["_law_k","_law_rows_here"]:List Str) by decide +kernel) rfl (gh rfl))) (λ_ _ _ _ _=>fY) (λ_ _ _ _ _=>(fM (N:=["_law_key_here","_law_k"]) (own:=1) (cap:=[0]) rfl (Iy (K:=K) (aH (bA (K:=K)) (pv 1) (pv 0) (λ_ _=>rfl))) #[rfl,rfl,rfl,rfl,rfl,rfl] (λ_ _ _ _ _=>(aO (i:=0) (show List.Nodup (["_law_key_here","_law_k"]:List Str) by decide +kernel) rfl (av rfl))) (λ_ _ _ _ _=>fY) (λ_ _ _ _ _=>(cE (aa (pv 0) (aa (pv 1) ae)))))))
   (cQ (bU PassesOwn.never rfl (ID rfl T.de (aa (aC c6 (aN (bF (K:=K)) rfl T.bD bz (aa (pv 0) ae)) ah) (aa ah (aa (fe ff ah) ae)))) (aO (i:=3) lB.nd rfl (av rfl)) (cQ (gr (aN (px (Int×Int)) rfl T.lY boot_sorted (aa (aH (bg (K:=K)) (pv 2) (pv 3) (λ_ _=>rfl)) ae)) (iw (pv 2) (pv 3) iz))
   (cQ (aI (i:=4) lB.nd rfl (av rfl) (aH (bA (K:=K)) (pv 0) (pv 3) (λ_ _=>rfl)))
   (au (bU PassesOwn.never rfl (vk rfl T.yr (aa (aH (bg (K:=K)) (pv 2) (pv 3) (λ_ _=>rfl)) (aa (aG Pl hr (aa (aH (bg (K:=K)) (pv 2) (pv 3) (λ_ _=>rfl)) ae)) ae))) (iY rfl (dF (aO (i:=5) lB.nd rfl (av rfl)) (dF (aO (i:=6) lB.nd rfl (av rfl)) iX))) (au (bq (cL (pv 6)) (au (cM (dJ F.plainAttrs_list F.slot_list_append F.type_list_append dM (aH (bg (K:=K)) (pv 2) (pv 4) (λ_ _=>rfl)) (aa (pv 5) ae)))) bE)))))))
   (cQ (gr (aN (px (Int×Int)) rfl T.lY boot_sorted (aa (aH (bg (K:=K)) (pv 2) ah (λ_ _=>rfl)) ae)) (iw (pv 2) ah iz))
   (au (aK (pv 2)))))),?_]
 intro N0 n0;have el:((((bS ps).length:Nat):Int)).toNat=ps.length+1:=by rw[cy,fU]
 refine #[_,rfl,_,_,rfl,.inr (SqT.of ht),_,rfl,by lia,by rw[cy];lia,λD hD=>?_];rw[el];refine kZ (n:=ps.length+1) (λi U H2=>∃(qs:List Addr) (x0:Option V),U=[x0,some (.ref r)]/\FA K H2 D qs i (ownE Re)/\(∀ q∈qs,H q=none)/\But D H H2) ?_ ?_ ?_
 .exact #[[],_,rfl,#[ag,rfl,iP,nofun,λj q e=>by simp at e],(λq z=>nomatch z),λb o n e=>by rw[aj n];exact e]
 .rintro i m U H2 hm hi ⟨qs,x0,rfl,h2,hqs,k2⟩;rw[gk];have s2:Same H H2:=λb o e=>k2 b o (aw e hD) e;obtain ⟨b,hb1,hb2⟩:=(hA.ext s2).get (k:=i) (by rw[hlen];exact hi);refine fN ?_;refine #[_,rfl,_,rfl,_,_,_,_,rfl,rfl,SqT.of (s2 _ _ hr0),eB hb1,b,rfl,#[_,SqT.of hb2],λD3 hD3=>?_];refine jT (xs:=(ay Re i).map V.int) (λm U H5=>∃(us:List V) (x0:Option V),U=[x0,some (.int i)]/\H5 D3=some .(ia)/\aD K H5 ((ownE Re i).take m) us/\But D3 H2 H5) ?_ ?_ ?_ ?_
  .exact #[[],_,rfl,ag,.nil,λb o n e=>by rw[aj n];exact e]
  .rintro m U H5 _ ⟨us,x0,rfl,_,_,k5⟩;exact SqT.of (k5 _ _ (aw hb2 hD3) hb2)
  .rintro j m' x U H5 hx hm' ⟨us,x0,rfl,h5,hw5,k5⟩;rw[aZ]at hx;obtain ⟨y,hy,rfl⟩:=gI.mp hx;have hlow:=(aT.mp hy).1;have htk3:(ownE Re i).take (j+1)=(ownE Re i).take j++[(y,(i:Int))]:=by
    unfold ownE;rw[<-iQ,<-iQ,cG hlow,bw];rw[(aT.mp hy).2];rfl
   have hul:=hw5.length;rw[bu]at hul;rw[ai]at hm';have hrl:=hkeys.row i;refine fN ?_;refine #[_,rfl,_,rfl,.(l),λu hu=>?_];have su:=az hu (.tup [.int y,.int (i:Int)]);have h6:=su _ _ h5;have hut:upd H5 u (.tup [.int y,.int (i:Int)]) u=some (.tup [.int y,.int (i:Int)]):=ag;have k6:=k5.new' hu (.tup [.int y,.int (i:Int)]);have hw6:=hw5.mono su.ext;generalize upd H5 u (.tup [.int y,.int (i:Int)])=H6 at su h6 hut k6 hw6 ⊢;refine #[_,h6,bh .(a),m'-1,by lia,by rw[ai];lia,us++[.ref u],_,rfl,ag,?_,λb o n e=>by rw[aj n];exact k6 b o n e];rw[htk3];exact (dj h6 hw6).append (dj h6 (.cons #[u,.int y,.int (i:Int),rfl,hut,rfl,rfl] .nil))
  rintro U H5 ⟨us,x0,rfl,h5,hw5,k5⟩;rw[ai,bG (by unfold ownE;rw[ai];exact aq _)]at hw5;have s5:Same H2 H5:=λx o e=>k5 x o (aw e hD3) e;have F5:=h2.ext s5.ext;have hqn:D3∉qs:=λz=>by
   obtain ⟨j,hj,e⟩:=cY z;obtain ⟨ws,w1,_⟩:=h2.get j D3 (by rw[aA hj,e]);rw[hD3]at w1;cases w1
  have hDD:D3≠D:=λz=>by
   have:=h2.at_;rw[<-z,hD3]at this;cases this
  have hql:=h2.len;refine #[_,F5.at_,bh .(y),m-1,by lia,by lia,qs++[D3],_,rfl,#[?_,by rw[aS,cS,hql],?_,?_,?_],?_,?_]
  .rw[ag,bw];rfl
  .rw[fF];refine #[h2.nd,dD.mpr #[nofun,iP],λa ha b hb e=>?_];rw[bM.mp hb]at e;exact hqn (e ▸ ha)
  .intro z;rcases bX.mp z with y|y
   .exact h2.np y
   .exact hDD (bM.mp y).symm
  .intro j q0 hj;by_cases c:j<qs.length
   .rw[iO c]at hj;obtain ⟨ws,w1,w2⟩:=F5.get j q0 hj;have hne:q0≠D:=λz=>h2.np (by rw[<-z];exact cX hj);exact #[ws,by rw[aj hne];exact w1,dj F5.at_ w2]
   .rw[gi .(a)]at hj;have hj0:j-qs.length=0:=by
     have:=(aT.mp hj).1;rw[cS]at this;lia
    rw[hj0]at hj;have:=aJ (show some D3=some q0 from hj);subst this;have:j=i:=by lia
    subst this;exact #[us,by rw[aj hDD];exact h5,dj F5.at_ hw5]
  .intro q0 hq0;rcases bX.mp hq0 with y|y
   .exact hqs q0 y
   .rw[bM.mp y];exact s2.free hD3
  .exact λb o n e=>by
    rw[aj n];exact s5 _ _ (k2 b o n e)
 rintro U H2 ⟨qs,x0,rfl,F2,hqs2,k2⟩;refine n0 _ _ ?_;intro N1 n1;have s2:Same H H2:=λb o e=>k2 b o (aw e hD) e;have hD0:=hD;clear k2;have F0:FA K H2 D qs (ps.length+1) (valL ps Re 0):=F2.congr λj hj=>by
  unfold valL accL;rw[ao .(a)]
 clear F2;have h2t:=s2 _ _ ht;refine #[_,rfl,_,_,rfl,.inr (SqT.of h2t),_,_,rfl,rfl,?_];refine #[_,rfl,_,_,rfl,#[by rw[cy];lia,by rw[cy];lia,by lia,by lia],?_];have en:((((bS ps).length:Nat):Int)-1-0).toNat=ps.length:=by rw[cy];lia
 rw[en];refine IE (n:=ps.length) (λi U H3=>∃(qs:List Addr) (x3 x4 x5 x6:Option V),U=[some (.ref t),some (.ref r),some (.ref D),x3,x4,x5,x6]/\FA K H3 D qs (ps.length+1) (valL ps Re i)/\(∀ q∈qs,H q=none)/\Same H H3) ?_ ?_ ?_
 .exact #[qs,_,_,_,_,rfl,F0,hqs2,s2]
 .rintro i U H3 hi ⟨qs,x3,x4,x5,x6,rfl,F3,hqs,s3⟩;have ek:(((bS ps).length:Nat):Int)-1-(i:Int)=((ps.length-i:Nat):Int):=by rw[cy];lia
  rw[ek];have eI:i=ps.length-(ps.length-i):=by lia
  obtain ⟨k,hk⟩:∃ k,k=ps.length-i:= .(Ba);rw[<-hk]at eI ⊢;refine Dl λN B R hN hB hR'=>?_;intro N2 n2;have hkn:k<ps.length+1:=by lia
  have hk1:1<=k:=by lia
  obtain ⟨q0,ws,hq0,hq1,hq2⟩:=F3.at hkn;have ev:valL ps Re i k=accL ps Re i k:=by
   unfold valL;rw[ao .(a)]
  rw[ev]at hq2;have hfl:=lN hT hR hfew hlen hkeys hkn;refine #[_,rfl,_,rfl,_,_,_,_,rfl,rfl,SqL.of F3.at_,eB hq0,q0,ws,_,rfl,SqL.of hq1,hq2,(by first|exact mi (nH hT hR hfew hlen hkeys hkn (by lia))|exact mi (nH hT hR hfew hlen hkeys (j:=0) (by lia) (by lia))),λl us hl hus=>?_]
  have hsort:cT (accL ps Re i k)=af ps Re k:=by
   rw[eI];exact xK hT hR hkn
  rw[hsort]at hus;have sl:=az hl .(ia);have F4:=F3.ext sl.ext;have hl4:upd H3 l .(ia) l=some .(ia):=ag;have hus4:=hus.mono sl.ext;have s4:=s3.trans sl;have hlq:l∉qs:=λz=>by
   obtain ⟨j,hj,e⟩:=cY z;obtain ⟨ws,w1,_⟩:=F3.get j l (by rw[aA hj,e]);rw[hl]at w1;cases w1
  have hlD:l≠D:=λz=>by
   have:=F3.at_;rw[<-z,hl]at this;cases this
  have hl0:H l=none:=s3.free hl;clear sl;generalize upd H3 l .(ia)=H4 at F4 hl4 hus4 s4 ⊢;refine #[_,rfl,_,rfl,_,_,_,k,rfl,rfl,F4.at_,iK (by rw[ai,F4.len];exact hkn),n2 _ _ ?_];intro N3 n3;have F5:=F4.set (k:=k) hl4 hus4 hlq hlD;have hl5:upd H4 D (.lst ((qs.map V.ref).set k (.ref l))) l=some .(ia):=by rw[aj hlD];exact hl4
  have hus5:aD K (upd H4 D (.lst ((qs.map V.ref).set k (.ref l)))) .(e) us:=dj F4.at_ hus4;have s5:Same H (upd H4 D (.lst ((qs.map V.ref).set k (.ref l)))):=λb o e=>by
   rw[aj (aw e hD)];exact s4 _ _ e
  have hqs5:∀ q∈qs.set k l,H q=none:=λq hq=>by
   rcases iU hq with y|y
   .exact hqs q y
   .rw[y];exact hl0
  have hqk:(qs.set k l)[k]?=some l:=by
   rw[ip,ak rfl,ak (by rw[F4.len];exact hkn)]
  generalize upd H4 D (.lst ((qs.map V.ref).set k (.ref l)))=H5 at F5 hl5 hus5 s5 ⊢;generalize qs.set k l=qs' at F5 hqs5 hqk ⊢;obtain ⟨u,hu⟩:=sW (ps:=ps) (k:=k) .(a) hkn;have hlt:=(bj hT hu).1;refine #[_,rfl,_,rfl,_,_,_,_,rfl,rfl,SqT.of (s5 _ _ ht),jr hkn,?_];rw[j4 hu];refine n3 _ _ ?_;refine #[_,rfl,_,rfl,_,_,_,_,rfl,rfl,SqL.of F5.at_,eB hqk,?_];refine #[_,rfl,_,rfl,_,_,_,_,rfl,rfl,SqL.of F5.at_,eB hqk,?_];refine #[l,us,af ps Re k,rfl,hl5,hus5,by lia,j6 hT hR .(a) hkn,cz hT hR hkn,λpm H6 hpm s6 h6=>?_];refine #[l,pm,rfl,#[_,SqL.of (s6 _ _ hl5)],#[_,SqL.of h6],?_];have hul:=hus5.length;have hml:=gX .(e);have F6:=F5.ext s6.ext;have s06:=s5.trans s6;have hl6:=s6 _ _ hl5;have hus6:=hus5.mono s6.ext;have hpmq:pm∉qs':=λz=>by
   obtain ⟨j,hj,e⟩:=cY z;obtain ⟨ws,w1,_⟩:=F5.get j pm (by rw[aA hj,e]);rw[hpm]at w1;cases w1
  have F6':FA K H6 D qs' (ps.length+1) (λj=>if j=u then accL ps Re i u++ck (.(e).take 0) ((cm .(e)).take 0) else if j=k then af ps Re k else valL ps Re i j):=F6.congr λj hj=>by
   show (if j=k then _ else _)=_
   by_cases c:j=u
   .subst c;rw[ak rfl,ao .(a)];unfold valL;rw[ao .(a)];show _=_++[];rw[bQ]
   .rw[ao c]
  clear F5 F6;refine Ho (xs:=us) (ys:=(cm .(e)).map V.bl) (by rw[ai,hml];exact hul.symm) (λm U H7=>∃ x5 x6:Option V,U=[some (.ref t),some (.ref r),some (.ref D),some (.int k),some (.int u),x5,x6]/\FA K H7 D qs' (ps.length+1) (λj=>if j=u then accL ps Re i u++ck (.(e).take m) ((cm .(e)).take m) else if j=k then af ps Re k else valL ps Re i j)/\H7 l=some .(ia)/\aD K H7 .(e) us/\H7 pm=some (.lst ((cm .(e)).map V.bl))/\Same H H7) ?_ ?_ ?_ ?_
  .exact #[_,_,rfl,F6',hl6,hus6,h6,s06]
  .rintro m U H7 _ ⟨x5,x6,rfl,F7,hl7,hus7,hm7,s7⟩;exact #[SqL.of hl7,SqL.of hm7]
  .rintro m x y U H7 rr hx hy ⟨x5,x6,rfl,F7,hl7,hus7,hm7,s7⟩ hrr;obtain ⟨e,he,hex⟩:=hus7.get hx;rw[aZ]at hy;obtain ⟨b,hb,rfl⟩:=gI.mp hy;have hme:=(aT.mp he).1;have hmb:=(aT.mp hb).1;have tke: .(e).take (m+1)= .(e).take m++[e]:=by rw[cG hme,(aT.mp he).2]
   have tkb:(cm .(e)).take (m+1)=(cm .(e)).take m++[b]:=by rw[cG hmb,(aT.mp hb).2]
   have hhs:ck (.(e).take (m+1)) ((cm .(e)).take (m+1))=ck (.(e).take m) ((cm .(e)).take m)++(if b=true then [e] else []):=by
    rw[tke,tkb];exact wU (by rw[bu,bu];lia)
   rw[hhs];have sr:=az hrr (.tup [x,.bl b]);refine #[rr,_,rfl,SqT.of ag,rfl,_,_,rfl,_,_,rfl,rfl,?_];refine Dm λN4 B4 R4 hN4 hB4 hR4=>?_;have F8:=F7.ext sr.ext;have hl8:=sr _ _ hl7;have hus8:=hus7.mono sr.ext;have hm8:=sr _ _ hm7;have s8:=s7.trans sr;have hex8:=Rep.mono sr.ext hex;clear sr F7 hl7 hus7 hm7 s7 hex;generalize upd H7 rr (.tup [x,.bl b])=H8 at F8 hl8 hus8 hm8 s8 hex8 ⊢;refine #[_,rfl,b,rfl,?_];cases b with
   | false=>
    refine iteF ?_;refine hN4 _ _ #[_,_,rfl,?_,hl8,hus8,hm8,s8];rw[ao cH,bQ];exact F8
   | true=>
    refine iteT ?_;obtain ⟨qu,wu,hqu,hqu1,hqu2⟩:=F8.at (k:=u) .(a);have hqu2:aD K H8 (accL ps Re i u++ck (.(e).take m) ((cm .(e)).take m)) wu:=by
     have z:=hqu2;rw[ak rfl]at z;exact z
    have hwl:=hqu2.length;have hal:=nH hT hR hfew hlen hkeys (i:=i) (j:=u) .(a) .(a);have hhl:=Dw (.(e).take m) ((cm .(e)).take m);rw[bu]at hhl;rw[aS]at hwl;have hlu:l≠qu:=λz=>by
     subst z;obtain ⟨i1,e1⟩:=aT.mp hqk;obtain ⟨i2,e2⟩:=aT.mp hqu;exact dU.mp F8.nd u k i2 i1 hlt (e2.trans e1.symm)
    have hpu:pm≠qu:=λz=>hpmq (by rw[z];exact cX hqu);have hu0:=hqs5 qu (cX hqu);have F9:=F8.put hqu hqu1 hex8;refine #[_,rfl,_,rfl,_,_,_,_,rfl,rfl,SqL.of F8.at_,eB hqu,.inl #[rfl,_,SqL.of hqu1],_,rfl,_,_,_,rfl,rfl,hqu1,bh .(a),?_];refine hN4 _ _ #[_,_,rfl,F9.congr λj hj=>?_,by rw[aj hlu];exact hl8,dj hqu1 hus8,by rw[aj hpu];exact hm8,λb o e=>by rw[aj (aw e hu0)];exact s8 _ _ e];show (if j=u then (if j=u then _ else _)++[e] else (if j=u then _ else _))=_
    by_cases c:j=u
    .rw[ak c,ak c,ak c,ak rfl,il]
    .rw[ao c,ao c,ao c]
  rintro U H7 ⟨x5,x6,rfl,F7,hl7,hus7,hm7,s7⟩;refine hN _ _ #[qs',_,_,_,_,rfl,F7.congr λj hj=>?_,hqs5,s7];rw[<-hul,bG (aq _),bG (by rw[hml];exact aq _)];unfold valL;have e1:ps.length-(i+1)=k-1:=by lia
  have e2:ps.length-i=k:=by lia
  have eacc:accL ps Re (i+1) j=accL ps Re i j++(if par ps k=some j then bC .(e) else []):=by
   rw[accL,e2]
  rw[e1,e2,eacc,hu];by_cases c:j=u
  .subst c;rw[ak rfl,ao .(a),ak rfl];rfl
  .rw[ao c];by_cases c2:j=k
   .rw[ak c2,ak .(a),c2]
   .rw[ao c2];by_cases c3:k<j
    .rw[ak c3,ak .(a)]
    .rw[ao c3,ao .(a),ao (λz=>c (aJ z).symm),bQ]
 rintro U H3 ⟨qs,x3,x4,x5,x6,rfl,F3,hqs,s3⟩;refine n1 _ _ ?_;intro N5 n5;obtain ⟨q0,ws,hq0,hq1,hq2⟩:=F3.at (k:=0) .(a);have ev:valL ps Re ps.length 0=accL ps Re ps.length 0:=by
  unfold valL;rw[ao .(a)]
 rw[ev]at hq2;refine #[_,rfl,_,_,_,_,rfl,rfl,SqL.of F3.at_,eB hq0,q0,ws,_,rfl,SqL.of hq1,hq2,(by first|exact mi (nH hT hR hfew hlen hkeys hkn (by lia))|exact mi (nH hT hR hfew hlen hkeys (j:=0) (by lia) (by lia))),λl us hl hus=>?_]
 have hsort:cT (accL ps Re ps.length 0)=af ps Re 0:=xK hT hR (k:=0) .(a);rw[hsort]at hus;have sl:=az hl .(ia);have F4:=F3.ext sl.ext;have hl4:upd H3 l .(ia) l=some .(ia):=ag;have hus4:=hus.mono sl.ext;have s4:=s3.trans sl;have hlq:l∉qs:=λz=>by
  obtain ⟨j,hj,e⟩:=cY z;obtain ⟨ws,w1,_⟩:=F3.get j l (by rw[aA hj,e]);rw[hl]at w1;cases w1
 have hlD:l≠D:=λz=>by
  have:=F3.at_;rw[<-z,hl]at this;cases this
 have hl0:H l=none:=s3.free hl;clear sl;generalize upd H3 l .(ia)=H4 at F4 hl4 hus4 s4 ⊢;refine #[_,rfl,_,_,_,0,rfl,rfl,F4.at_,iK (k:=0) (by rw[ai,F4.len];exact Nat.succ_pos _),n5 _ _ ?_];refine .(A);refine q D (qs.set 0 l) _ hD0 (λb o e=>by rw[aj (aw e hD)];exact s4 _ _ e) ((F4.set (k:=0) hl4 hus4 hlq hlD).congr λj hj=>?_) λq hq=>?_
 .show (if j=0 then _ else _)=_
  by_cases c:j=0
  .rw[ak c,c]
  .rw[ao c];unfold valL;rw[ak .(a)]
 .rcases iU hq with y|y
  .exact hqs q y
  .rw[y];exact hl0
def Eu {K:Frag}{p:Addr}:∀{n:Nat} {qs:List Addr} (m:Nat),qs.length=n->(∀(j:Nat) (q:Addr),qs[j]?=some q->∃ ws,H q=some (.lst ws)/\aD K H (af ps Re (m+j)) ws)->bI K H ps Re (List.range' m n) qs
 | _,[],_,rfl,_=>.nil
 | _,q::qs,m,rfl,h=>by
  refine .cons (h 0 q rfl) (Eu (p:=p) (m+1) rfl λj q' hj=>?_);have:=h (j+1) q' hj;rwa[show m+(j+1)=m+1+j by lia]at this
def FA.fulls {K:Frag}{p:Addr}{Re:List .(h)}{n:Nat}(h:FA K H p qs n (af ps Re)):bI K H ps Re .(K) qs:=by
 rw[List.range_eq_range'];exact Eu (p:=p) 0 h.len λj q hj=>by
  rw[kK];exact h.get j q hj
structure cV (K:Frag)(CS:Addr)(H:Hp)(sh dx st p:Addr)(qs:List Addr)(ps:List Nat)(Re:List .(h))(t rs:Addr)(as:List Addr):Prop where
 own:H dx=some (.own sh)
 ins:H sh=some (.ins CS dx [("kept",.ref st),("fulls",.ref p)])
 stand:dw H st ps Re t rs as
 full:FA K H p qs (ps.length+1) (af ps Re)
def Tp (H H':Hp):Prop:=∀ b us,H b=some (.tup us)->H' b=some (.tup us)
def xN (e:Tp H H')(h:bH H as Re):bH H' as Re:=pImp (λ_ _=>e _ _) h
def ka {st t:Addr}(e:Tp H H')(S:dw H st ps Re t rs as):dw H' st ps Re t rs as:=
 #[e _ _ S.st,e _ _ S.tr,e _ _ S.rs,xN e S.at_,S.len,S.T,S.R,S.few,S.keys]
def But.tp {p:Addr}(k:But p H H')(n:∀ us,H p≠some (.tup us)):Tp H H':=λb us e=>k b _ (λz=>n us (z ▸ e)) e
def g7 {K:Frag}(k:Tp H H'){es:List (Int×Int)}{ws:List V}(h:aD K H es ws):aD K H' es ws:=pImp (λ_ _ h=>by
  obtain ⟨a,x1,x2,rfl,hT,e1,e2⟩:=(show hasP K H _ _ from h);exact #[a,x1,x2,rfl,k _ _ hT,e1,e2]) h
def FA.tp {K:Frag}{p:Addr}{n:Nat}{f:Nat->List En}(h:FA K H p qs n f)(e:Tp H H')(l:∀ b us,H b=some .(ia)->H' b=some .(ia)):FA K H' p qs n f:=
 #[l _ _ h.at_,h.len,h.nd,h.np,λj q hq=>by
  obtain ⟨ws,h1,h2⟩:=h.get j q hq;exact #[ws,l _ _ h1,g7 e h2]]
inductive t7 (K:Frag)(CS:Addr)(vs:List V)(H:Hp)(Q:VK)(w_1:XK):Prop
 | c:∀(sh dx st:Addr) (ps:List Nat) (Re:List (List Int)) (t rs:Addr) (as:List Addr),vs=[.ref sh,.ref st]->H dx=some (.own sh)->H sh=some (.ins CS dx [])->dw H st ps Re t rs as->(∀(p:Addr) (qs:List Addr) (H':Hp),H p=none->(∀ q∈qs,H q=none)->But sh H H'->cV K CS H' sh dx st p qs ps Re t rs as->Q .non H')->t7 K CS vs H Q w_1
def Ew {K:Frag}:∀{n:Nat} {qs:List Addr} (m:Nat),bI K H ps Re (List.range' m n) qs->qs.length=n/\∀(j:Nat) (q:Addr),qs[j]?=some q->∃ ws,H q=some (.lst ws)/\aD K H (af ps Re (m+j)) ws
 | 0,_,_,.nil=>#[rfl,λj q h=>by simp at h]
 | n+1,_,m,.cons (b:=q) h r=>by
  obtain ⟨l,g⟩:=Ew (m+1) r;refine #[by rw[dC,l],λj q' hj=>?_];cases j with
  | zero=>
   obtain rfl:=aJ hj;exact h
  | succ j=>
   have:=g j q' hj;rwa[show m+1+j=m+(j+1) by lia]at this
def bI.fa {K:Frag}{p:Addr}{Re:List .(h)}{n:Nat}{qs:List Addr}(h:bI K H ps Re .(K) qs)(hp:H p=some (.lst (qs.map V.ref)))(nd:qs.Nodup)(np:p∉qs):FA K H p qs n (af ps Re):=by
 rw[List.range_eq_range']at h;obtain ⟨l,g⟩:=Ew 0 h;exact #[hp,l,nd,np,λj q hj=>by
  have:=g j q hj;rwa[kK]at this]
def MW (T:Txt K mg)(O:OwnC K mg CS)(zo:DI K CS "Shelf.__init__" qF sv)(Pm:FC P w K mg base 8 "full_rows" rD (xf K)):FI P w K mg base CS 9 sv (t7 K CS):=by
 refine zo.ok JY .(c) .(b)
 .obtain ⟨sh,dx,st,ps,Re,t,rs,as,rfl,_⟩:=h;rfl
 obtain ⟨sh,dx,st,ps,Re,t,rs,as,rfl,h1,h2,S,q⟩:=h;refine #[_,(aB (oP (pv 0) (pv 1) rfl)
   (au (oP (pv 0) (aG Pm hr (aa (pv 1) ae)) rfl))),?_]
 refine #[_,rfl,_,rfl,sh,CS,dx,[],rfl,h2,O.cl,O.n_kept,by decide,?_];have k1:But sh H (upd H sh (.ins CS dx (putF "kept" (.ref st) []))):=λb o n e=>by rw[aj n];exact e
 have hsd:dx≠sh:=λz=>by rw[z,h2]at h1;cases h1
 have a1:=k1 _ _ hsd h1;have a2:upd H sh (.ins CS dx (putF "kept" (.ref st) [])) sh=some (.ins CS dx [("kept",.ref st)]):=ag;have S1:=ka (k1.tp λus z=>by rw[h2]at z;cases z) S
 have hn:∀ b,upd H sh (.ins CS dx (putF "kept" (.ref st) [])) b=none->H b=none:=λb e=>by
  by_cases z:b=sh
  .subst z;rw[a2]at e;cases e
  .rwa[aj z]at e
 generalize upd H sh (.ins CS dx (putF "kept" (.ref st) []))=H1 at k1 a1 a2 S1 hn ⊢;refine #[_,rfl,st,ps,Re,t,rs,as,rfl,S1,λp qs H2 hp s2 g2 nd hq np F=>?_];have b2:=s2 _ _ a2;refine #[_,rfl,sh,CS,dx,_,rfl,b2,O.cl,O.n_fulls,(by show 1<1000;decide),?_];have k2:But sh H2 (upd H2 sh (.ins CS dx (putF "fulls" (.ref p) [("kept",.ref st)]))):=λb o n e=>by rw[aj n];exact e
 have F2:FA K (upd H2 sh (.ins CS dx (putF "fulls" (.ref p) [("kept",.ref st)]))) p qs (ps.length+1) (af ps Re):=by
  exact (F.fa g2 nd np).tp (k2.tp λus z=>by rw[b2]at z;cases z) λb us e=>k2 b _ (λz=>by rw[z,b2]at e;cases e) e
 refine q p qs _ (hn _ hp) (λx hx=>hn _ (hq x hx)) (λb o n e=>k2 b o n (s2 _ _ (k1 b o n e))) #[k2 _ _ hsd (s2 _ _ a1),by rw[ag];rfl,ka (k2.tp λus z=>by rw[b2]at z;cases z) (S1.same s2),F2]
inductive xO (K:Frag)(vs:List V)(H:Hp)(Q:VK)(w_1:XK):Prop
 | c:∀(t:Addr) (kn:Nat) (ps:List Nat),vs=[.ref t,.int kn]->H t=some (.tup (bS ps))->ps.length<=900->kn<ps.length+1->Q .non H->xO K vs H Q w_1
inductive xP (CS:Addr)(vs:List V)(H:Hp)(Q:VK)(w_1:XK):Prop
 | c:∀(sh dx st p:Addr),vs=[.ref sh]->H sh=some (.ins CS dx [("kept",.ref st),("fulls",.ref p)])->Q (.ref st) H->xP CS vs H Q w_1
def MX (O:OwnC K mg CS)(zp:DM K CS "stand" "Shelf.stand" qK sG):FM P w K mg base CS 1 "stand" sG (xP CS):=by
 refine zp.ok J0 .(c) .(b)
 .obtain ⟨sh,dx,st,p,rfl,_⟩:=h;rfl
 obtain ⟨sh,dx,st,p,rfl,h2,q⟩:=h;refine #[_,(au (aK (fg (pv 0) rfl))),?_];exact #[_,rfl,sh,CS,dx,_,_,rfl,h2,O.cl,O.n_kept,rfl,q]
def MY (T:Txt K mg)(zq:DF K mg "need_knot" pQ rj)(nS:FC P w K mg base 2 "is_one_of_first" lC (tX K)):FC P w K mg base 3 "need_knot" rj (xO K):=by
 refine zq.ok JO .(c) .(b)
 .obtain ⟨t,kn,ps,rfl,_⟩:=h;rfl
 obtain ⟨t,kn,ps,rfl,ht,hl,hk,q⟩:=h;refine #[_,(au (bq (ee (cL (aG nS hr (aa (aN (bF (K:=K)) rfl T.bD bz (aa (pv 0) ae)) (aa (pv 1) ae))))) (au eh) bE)),?_];have el:=cy ps;refine #[_,rfl,_,_,rfl,.inr (SqT.of ht),_,rfl,_,_,rfl,by lia,by lia,_,rfl,?_];exact iteF q
def nI (x:Int):Prop:=-10^60<x/\x<10^60
inductive xQ (K:Frag)(vs:List V)(H:Hp)(Q:VK)(w_1:XK):Prop
 | c:∀(x:Int),vs=[.int x]->nI x->Q .non H->xQ K vs H Q w_1
def MZ (T:Txt K mg)(zr:DF K mg "need_key" pC qU)(zt:FC P w K mg base 2 "is_key" mR (tV K)):FC P w K mg base 3 "need_key" qU (xQ K):=by
 refine zr.ok JI .(c) .(b)
 .obtain ⟨x,rfl,_⟩:=h;rfl
 obtain ⟨x,rfl,hx,q⟩:=h;refine #[_,(au (bq (ee (cL (aG zt hr (aa (pv 0) ae)))) (au eh) bE)),?_];refine #[_,rfl,_,true,rfl,.int x _ (aV (p:=(if x<0 then -x else x)<10^60) ?_).symm,_,rfl,?_]
 .obtain ⟨h1,h2⟩:=hx;split<;>lia
 exact iteF q
inductive t8 (K:Frag)(CS:Addr)(vs:List V)(H:Hp)(Q:VK)(w_1:XK):Prop
 | c:∀(sh dx st p:Addr) (kn:Nat) (x:Int) (qs:List Addr) (ps:List Nat) (Re:List (List Int)) (t rs:Addr) (as:List Addr),vs=[.ref sh,.int kn,.int x]->cV K CS H sh dx st p qs ps Re t rs as->kn<ps.length+1->nI x->(∀(a:Addr),as[kn]?=some a->H a=some (.tup ((ay Re kn).map V.int))->Q (.ref a) H)->t8 K CS vs H Q w_1
def M0 (T:Txt K mg)(O:OwnC K mg CS)(zu:DM K CS "row_for" "Shelf.row_for" qG m7)(Po:FC P w K mg base 3 "need_knot" rj (xO K))(Pp:FC P w K mg base 3 "need_key" qU (xQ K)):FM P w K mg base CS 4 "row_for" m7 (t8 K CS):=by
 refine zu.ok JZ .(c) .(b)
 .obtain ⟨sh,dx,st,p,kn,x,qs,ps,Re,t,rs,as,rfl,_⟩:=h;rfl
 obtain ⟨sh,dx,st,p,kn,x,qs,ps,Re,t,rs,as,rfl,S,hk,hx,q⟩:=h;refine #[_,(aB (cM (aG Po hr (aa (aH (bA (K:=K)) (fg (pv 0) rfl) ah (λ_ _=>rfl)) (aa (pv 1) ae))))
   (aB (cM (aG Pp hr (aa (pv 2) ae)))
   (au (aK (aH (bA (K:=K)) (aH (bA (K:=K)) (fg (pv 0) rfl) ah (λ_ _=>rfl)) (pv 1) (λ_ _=>rfl)))))),?_]
 obtain ⟨a,g1,g2⟩:=S.stand.at_.get (k:=kn) (by rw[S.stand.len];exact hk);refine #[_,rfl,sh,CS,dx,_,_,rfl,S.ins,O.cl,O.n_kept,rfl,_,_,_,_,rfl,rfl,SqT.of S.stand.st,rfl,_,rfl,t,kn,ps,rfl,S.stand.tr,by have:=S.stand.few;lia,hk,?_];refine #[_,rfl,x,rfl,hx,?_];refine #[_,rfl,sh,CS,dx,_,_,rfl,S.ins,O.cl,O.n_kept,rfl,_,_,_,_,rfl,rfl,SqT.of S.stand.st,rfl,_,rfl,_,_,_,_,rfl,rfl,SqT.of S.stand.rs,eB g1,?_];exact q a g1 g2
def NoW (K:Frag)(ps:List Nat)(x:V)(H:Hp):Prop:=(∃ ty,TyOf K H x (.type ty)/\kitO ty "list" = some false)\/∃(a:Addr) (zs:List V),x=.ref a/\H a=some (.lst zs)/\zs.length<=2800/\(∀ z∈zs,AnyV K H z)/\wayB ps zs=false
inductive Ex (K:Frag)(C:Addr)(vs:List V)(H:Hp)(Q:VK)(E:XK):Prop
 | c:∀(t:Addr) (ps:List Nat) (x:V),vs=[.ref t,x]->H t=some (.tup (bS ps))->ps.length<=900->NoW K ps x H->(∀ H',Same H H'->E (.ref C) none H')->Ex K C vs H Q E
def Ey (K:Frag)(C:Addr):Sp:=λvs H Q E=>D8 K vs H Q E\/Ex K C vs H Q E
def M1 (T:Txt K mg){dS eF aR eG eJ eK eL eN eO eP eQ eR gf:Addr}(CL:Cls K mg dS eF aR eG eJ eK eL eN eO eP eQ eR gf)(zv:DF K mg "need_way" pU rp)(Pq:FC P w K mg base 3 "is_way" rm (xw K)):FX P w K mg base 4 "need_way" rp (Ey K aR):=by
 refine zv.okx JQ .(c) .(b)
 .rcases h with ⟨t,a,ps,w,rfl,_⟩|⟨t,ps,x,rfl,_⟩<;>rfl
 refine #[_,(au (bq (ee (cL (aG Pq hr (aa (pv 0) (aa (pv 1) ae))))) (au (Jv CL.OI thrX rfl rfl (aa fG ae))) bE)),?_];rcases h with ⟨t,a,ps,w,rfl,ht,hp,W,q⟩|⟨t,ps,x,rfl,ht,hp,hN,hE⟩
 .refine #[_,rfl,_,rfl,t,ps,_,rfl,ht,hp,.inr #[a,_,rfl,W.at_,by rw[ai];have:=W.len;lia,λz hz=>?_,_,rfl,?_]]
  .obtain ⟨n,_,rfl⟩:=cA.mp hz;exact .int _
  rw[MA W];exact iteF q
 have fin:=hE _ λ_ _ e=>e;rcases hN with ⟨ty,h1,h2⟩|⟨a,zs,rfl,ha,hl,hA,hb⟩
 .refine #[_,rfl,_,rfl,t,ps,x,rfl,ht,hp,.inl #[ty,h1,h2,_,rfl,?_]];exact iteT #[.(g),fin]
 .refine #[_,rfl,_,rfl,t,ps,_,rfl,ht,hp,.inr #[a,zs,rfl,ha,hl,hA,_,rfl,?_]];rw[hb];exact iteT #[.(g),fin]
inductive nJ (K:Frag)(CS mF mS:Addr)(vs:List V)(H:Hp)(Q:VK)(w_1:XK):Prop
 | c:∀(sh dx st p wa:Addr) (key:Int) (qs:List Addr) (ps:List Nat) (Re:List (List Int)) (t rs:Addr) (as:List Addr) (wy:List Nat),vs=[.ref sh,.ref wa,.int key]->cV K CS H sh dx st p qs ps Re t rs as->dB H wa ps wy->TabS mF mS H->(∀(D:Addr) (zs:List V) (H':Hp),H D=none->Kp2 mF mS H H'->TabS mF mS H'->H' D=some (.lst zs)->aD K H' (wy.map λk=>(((bc (af ps Re k) key:Nat):Int),((ownB Re k key:Nat):Int))) zs->Q (.ref D) H')->nJ K CS mF mS vs H Q w_1
def M3 (h:nJ K CS mF mS vs H Q E):nJ K CS mF mS vs H Q E':=by
 obtain ⟨sh,dx,st,p,wa,key,qs,ps,Re,t,rs,as,wy,e,S,W,TT,q⟩:=h;exact #[sh,dx,st,p,wa,key,qs,ps,Re,t,rs,as,wy,e,S,W,TT,q]
inductive Ez (K:Frag)(CS C:Addr)(vs:List V)(H:Hp)(Q:VK)(E:XK):Prop
 | c:∀(sh dx st p t rs:Addr) (ps:List Nat) (x key:V),vs=[.ref sh,x,key]->H sh=some (.ins CS dx [("kept",.ref st),("fulls",.ref p)])->H st=some (.tup [.ref t,.ref rs])->H t=some (.tup (bS ps))->ps.length<=900->NoW K ps x H->(∀ H',Same H H'->E (.ref C) none H')->Ez K CS C vs H Q E
def EA (K:Frag)(CS mF mS C:Addr):Sp:=λvs H Q E=>nJ K CS mF mS vs H Q E\/Ez K CS C vs H Q E
def M4 (T:Txt K mg)(O:OwnC K mg CS)(zw:DM K CS "find" "Shelf.find" qL m9)(Pr:FX P w K mg base 4 "need_way" rp (Ey K C))(Pu:FC P w K mg base 7 "search_for_key" rM (xH K mF mS)):FMX P w K mg base CS 8 "find" m9 (EA K CS mF mS C):=by
 refine zw.okx J1 .(c) .(b)
 .rcases h with ⟨sh,dx,st,p,wa,key,qs,ps,Re,t,rs,as,wy,rfl,_⟩|⟨sh,dx,st,p,t,rs,ps,x,key,rfl,_⟩<;>rfl
 refine #[_,(aB (cM (Jx Pr hr Jr (aa (aH (bA (K:=K)) (fg (pv 0) rfl) ah (λ_ _=>rfl)) (aa (pv 1) ae))))
   (au (aK (aG Pu hr (aa (aH (bA (K:=K)) (fg (pv 0) rfl) ah (λ_ _=>rfl)) (aa (fg (pv 0) rfl) (aa (pv 1) (aa (pv 2) ae)))))))),?_]
 rcases h with ⟨sh,dx,st,p,wa,key,qs,ps,Re,t,rs,as,wy,rfl,S,W,TT,q⟩|⟨sh,dx,st,p,t,rs,ps,x,key,rfl,hi,hst,ht,hp,hN,hE⟩
 .refine #[_,rfl,sh,CS,dx,_,_,rfl,S.ins,O.cl,O.n_kept,rfl,_,_,_,_,rfl,rfl,SqT.of S.stand.st,rfl,_,rfl,.inl #[t,wa,ps,wy,rfl,S.stand.tr,by have:=S.stand.few;lia,W,?_]];exact #[_,rfl,sh,CS,dx,_,_,rfl,S.ins,O.cl,O.n_kept,rfl,_,_,_,_,rfl,rfl,SqT.of S.stand.st,rfl,_,rfl,sh,CS,dx,_,_,rfl,S.ins,O.cl,O.n_fulls,rfl,_,rfl,_,rfl,st,t,rs,p,wa,key,ps,Re,as,qs,wy,rfl,S.stand,S.full.at_,S.full.fulls,W,TT,q]
 .exact #[_,rfl,sh,CS,dx,_,_,rfl,hi,O.cl,O.n_kept,rfl,_,_,_,_,rfl,rfl,SqT.of hst,rfl,_,rfl,.inr #[t,ps,x,rfl,ht,hp,hN,hE]]
abbrev kS (e:En):List Key:=[.inl e.1,.inl e.2]
def M5 (h:kS e=kS f):e=f:=by
 obtain ⟨a,b⟩:=e;obtain ⟨c,d⟩:=f;injection h with h1 h2;injection h2 with h2 _;have h1:a=c:=Sum.inl.inj h1;have h2:b=d:=Sum.inl.inj h2;rw[h1,h2]
def kvW (es:List En):List (List Key×V):=es.map λe=>(kS e,.bl true)
def xR (e:En):∀ es:List En,valV (kvW es) (kS e)=if e∈es then some (.bl true) else none
 | []=>rfl
 | f::es=>by
  show valV ((kS f,.bl true)::kvW es) (kS e)=_;by_cases z:f=e
  .subst z;rw[iA rfl,ak bZ]
  .rw[fL (λy=>z (M5 y)),xR e es];have hm:(e∈f::es)=(e∈es):=propext #[λh=>(aU.mp h).resolve_left λy=>z y.symm,λh=>bP _ h];by_cases y:e∈es
   .rw[ak y,ak (by rw[hm];exact y)]
   .rw[ao y,ao (by rw[hm];exact y)]
inductive xS (K:Frag)(vs:List V)(H:Hp)(Q:VK)(w_1:XK):Prop
 | c:∀(a c:Addr) (ws us:List V) (es cs:List En),vs=[.ref a,.ref c]->H a=some (.lst ws)->aD K H es ws->es.length<=900->H c=some (.lst us)->aD K H cs us->cs.length<=900->cs.Nodup->(∀(p:Addr) (ws':List V) (H':Hp),H p=none->Same H H'->H' p=some (.lst ws')->aD K H' (bp es cs) ws'->Q (.ref p) H')->xS K vs H Q w_1
def M8 (T:Txt K mg)(zx:DF K mg "without" qd rN):FC P w K mg base 1 "without" rN (xS K):=by
 refine zx.ok vU .(c) .(b)
 .obtain ⟨a,c,ws,us,es,cs,rfl,_⟩:=h;rfl
 obtain ⟨a,c,ws,us,es,cs,rfl,ha,hw,hz,hc,hu,hzc,hnd,q⟩:=h;have hwl:=hw.length;have hul:=hu.length;refine #[_,(aB (aI (i:=2) vU.nd rfl (gh rfl) A6)
   (aB (bU PassesOwn.never rfl (dW (pv 1)) (aO (i:=3) vU.nd rfl (av rfl)) (au (jO (dN hr) (pv 2) (pv 3) cZ rfl)))
   (au (aK (fM (N:=["entry","away"]) (own:=1) (cap:=[2]) rfl (dW (pv 0)) #[rfl,rfl,rfl,rfl,rfl,rfl] (λ_ _ _ _ _=>(aO (i:=0) (show List.Nodup (["entry","away"]:List Str) by decide +kernel) rfl (av rfl))) (λ_ _ _ _ _=>(gP (aW (Ja (dN hr)) (pv 0) (pv 1) (by with_unfolding_all rfl)))) (λ_ _ _ _ _=>(pv 0))))))),?_]
 intro D hD;have k0:But D H (upd H D (.dT [])):=λb o n e=>by rw[aj n];exact e
 have naD:a≠D:=aw ha hD;have ncD:c≠D:=aw hc hD;refine #[_,rfl,c,rfl,#[_,SqL.of (k0 _ _ ncD hc)],?_];refine iZ (xs:=us) (λi U H2=>∃ x3:Option V,U=[some (.ref a),some (.ref c),some (.ref D),x3]/\H2 D=some (.dT (kvW (cs.take i)))/\But D H H2) ?_ ?_ ?_ ?_
 .exact #[_,rfl,ag,k0]
 .rintro i U H2 _ ⟨x3,rfl,_,k2⟩;exact SqL.of (k2 _ _ ncD hc)
 .rintro i x U H2 hx ⟨x3,rfl,h2,k2⟩;obtain ⟨e,he,hhas⟩:=hu.get hx;obtain ⟨b,y1,y2,rfl,hb,hy1,hy2⟩:=(show hasP K H e x from hhas);have hy1:y1=.int e.1:=hy1;have hy2:y2=.int e.2:=hy2;subst hy1 hy2;have hi:=(aT.mp he).1;have htk:cs.take (i+1)=cs.take i++[e]:=by
   rw[cG hi,(aT.mp he).2]
  have h2b:=k2 _ _ (aw hb hD) hb;have hnot:e∉cs.take i:=λz=>by
   have hn2:=hnd;rw[<-eY (i+1) cs,htk]at hn2;have:=(fF.mp (fF.mp hn2).1).2.2 e z e (bM.mpr rfl);exact this rfl
  have hln:(kvW (cs.take i)).length<=1000:=by
   unfold kvW;rw[ai,bu];lia
  refine #[_,rfl,_,rfl,D,_,rfl,DPut.t (k:=kS e) h2 h2b (bh hln),?_];refine #[_,rfl,?_,λb o n e=>by rw[aj n];exact k2 b o n e];rw[ag,kO _ (by rw[xR,ao hnot]),htk];unfold kvW;rw[bw];rfl
 .rintro U H2 ⟨x3,rfl,h2,k2⟩;rw[bG .(a)]at h2;have s2:Same H H2:=λb o e=>k2 b o (aw e hD) e;have h2a:=s2 _ _ ha;refine #[_,rfl,a,rfl,#[_,SqL.of h2a],λp hp=>?_];have nDp:D≠p:=aw h2 hp;refine iC (xs:=ws) (λj U H5=>∃(x0:Option V) (us:List V),U=[x0,some (.ref D)]/\H5 p=some .(ia)/\aD K H5 (bp (es.take j) cs) us/\us.length<=j/\But p H2 H5) ?_ ?_ ?_ ?_
  .exact #[_,[],rfl,ag,.nil,aq _,λb o n e=>by rw[aj n];exact e]
  .rintro j U H5 _ ⟨x0,us,rfl,_,_,_,k5⟩;exact k5.sq (SqL.of h2a) hp
  .rintro j m x U H5 hx hm ⟨x0,us,rfl,h5,hv,hul,k5⟩;have hj:=(aT.mp hx).1;obtain ⟨e,he,bb,x1,x2,rfl,hb,e1,e2⟩:∃ e,es[j]?=some e/\hasP K H e x:=hw.get hx;have e1':x1=.int e.1:=e1;have e2':x2=.int e.2:=e2;subst e1' e2';have htk:bp (es.take (j+1)) cs=bp (es.take j) cs++bp [e] cs:=by
    unfold bp;rw[cG .(a),(aT.mp he).2,dg]
   have b2:=s2 _ _ hb;have b5:=k5 _ _ (aw b2 hp) b2;have h5D:=k5 _ _ nDp h2;refine #[_,rfl,_,rfl,D,_,rfl,DGet.t (k:=kS e) h5D b5,_,rfl,?_];rw[xR];by_cases c:e∈cs
   .rw[ak c];refine iteF #[m-1,by lia,by lia,_,_,rfl,h5,?_,by lia,k5];rw[htk,show bp [e] cs=[] from fE (p:=λe=>decide (e∉cs)) (by simpa using c),bQ];exact hv
   .rw[ao c];refine iteT #[_,rfl,_,h5,bh .(a),m-1,by lia,by lia,_,_,rfl,ag,?_,by rw[aS,cS];lia,λb o n e=>by rw[aj n];exact k5 b o n e];rw[htk,show bp [e] cs=[e] from dE (p:=λe=>decide (e∉cs)) (aV c)];exact (dj h5 hv).append (dj h5 (.cons #[bb,.int e.1,.int e.2,rfl,b5,rfl,rfl] .nil))
  rintro U H5 ⟨x0,us',rfl,h5,hv,_,k5⟩;rw[<-hwl,bG (aq _)]at hv;have hpH:H p=none:=by
   cases e:H p with
   | none=>rfl
   | some o=>
    rw[s2 _ _ e]at hp;cases hp
  exact q p us' H5 hpH (λb o e=>k5 b o (aw (s2 _ _ e) hp) (s2 _ _ e)) h5 hv
section
variable {ps:List Nat}{Re Rc:List .(h)}{k:Nat}
def upN (ps:List Nat)(k:Nat):Nat->Option Nat
 | 0=>some k
 | m+1=>(upN ps k m).bind (par ps)
def M9 {m j p:Nat}(h:upN ps k m=some j)(hp:par ps j=some p):upN ps k (m+1)=some p:=by
 show (upN ps k m).bind (par ps)=_;rw[h];exact hp
def EB {m j:Nat}(h:upN ps k m=some j):upN ps k (m+1)=par ps j:=by
 show (upN ps k m).bind (par ps)=_;rw[h];rfl
def ub {m p:Nat}(h:upN ps k (m+1)=some p):∃ j,upN ps k m=some j/\par ps j=some p:=by
 cases e:upN ps k m with
 | none=>
  have:(upN ps k m).bind (par ps)=some p:=h;rw[e]at this;cases this
 | some j=>
  have:(upN ps k m).bind (par ps)=some p:=h;rw[e]at this;exact #[j,rfl,this]
def xT (T:aP ps):∀{m j:Nat},upN ps k m=some j->j+m<=k
 | 0,j,h=>by
  have:k=j:=aJ h;lia
 | m+1,j,h=>by
  obtain ⟨i,h1,h2⟩:=ub h;have:=xT T h1;have:=(bj T h2).1;lia
def nK (T:aP ps)(hk:k<ps.length+1){m j:Nat}(h:upN ps k m=some j):j<ps.length+1:=by
 have:=xT T h;lia
def xU (T:aP ps){i j:Nat}:∀ d m,upN ps k (m+d)=some i->upN ps k m=some j->i+d<=j
 | 0,m,h1,h2=>by
  rw[jG,h2]at h1;have:=aJ h1;lia
 | d+1,m,h1,h2=>by
  obtain ⟨x,g1,g2⟩:=ub (m:=m+d) h1;have:=xU T d m g1 h2;have:=(bj T g2).1;lia
def uc (T:aP ps)(hk:k<ps.length+1):∀{m j:Nat},upN ps k m=some j->isB ps j k=true
 | 0,j,h=>by
  have:k=j:=aJ h;subst this;exact iI
 | m+1,j,h=>by
  obtain ⟨i,h1,h2⟩:=ub h;exact (jq T _ k (aq _) hk).mpr (.inr #[i,h2,uc T hk h1])
def EC (T:aP ps)(hk:k<ps.length+1):∀(n j:Nat),ps.length+1-j<=n->isB ps j k=true->∃ m,upN ps k m=some j
 | 0,j,hn,h=>by
  rcases (jq T _ k (aq _) hk).mp h with z|⟨c,hc,_⟩
  .exact #[0,congrArg some z]
  .have:=bj T hc;lia
 | n+1,j,hn,h=>by
  rcases (jq T _ k (aq _) hk).mp h with z|⟨c,hc,hb⟩
  .exact #[0,congrArg some z]
  .have:=bj T hc;obtain ⟨m,hm⟩:=EC T hk n c .(a) hb;exact #[m+1,M9 hm hc]
def stL (ps:List Nat)(Re Rc:List .(h))(k:Nat):Nat->Nat->List En
 | 0,i=>af ps Re i
 | m+1,i=>if upN ps k m=some i then af ps Rc i else stL ps Re Rc k m i
def ED:∀{m i m':Nat},m'<m->upN ps k m'=some i->stL ps Re Rc k m i=af ps Rc i
 | m+1,i,m',h,e=>by
  unfold stL;by_cases z:upN ps k m=some i
  .rw[ak z]
  .rw[ao z];refine ED (m':=m') ?_ e;rcases kL m' m with y|y
   .exact y
   .have:m'=m:=by lia
    subst this;exact absurd e z
def ud:∀{m i:Nat},(∀ m',m'<m->upN ps k m'≠some i)->stL ps Re Rc k m i=af ps Re i
 | 0,_,_=>rfl
 | m+1,i,h=>by
  unfold stL;rw[ao (h m .(a))];exact ud λm' hm=>h m' .(a)
def Na (T:aP ps){m j:Nat}(h:upN ps k m=some j):stL ps Re Rc k m j=af ps Re j:=ud λm' hm e=>by
 have:=xU T (m-m') m' (by rw[show m'+(m-m')=m by lia];exact h) e;lia
def EE (T:aP ps)(R:aX Re)(R':aX Rc)(hk:k<ps.length+1)(h:ju k Re Rc){m j:Nat}(hm:upN ps k m=some j)(e:af ps Rc j=af ps Re j):∀{d i:Nat},upN ps k (m+d)=some i->af ps Rc i=af ps Re i
 | 0,i,hi=>by
  rw[jG,hm]at hi;have:=aJ hi;subst this;exact e
 | d+1,i,hi=>by
  obtain ⟨x,g1,g2⟩:=ub (m:=m+d) hi;have ih:=EE T R R' hk h hm e g1;have L:=Ep T R R' hk h (uc T hk g1) g2;rw[ih,MU]at L;exact Em (cz T R (nK T hk hi)) (cz T R' (nK T hk hi)) L.gone.symm L.come.symm
def Nb (T:aP ps)(R:aX Re)(R':aX Rc)(hk:k<ps.length+1)(h:ju k Re Rc){m:Nat}(hm:upN ps k m=none\/∃ j,upN ps k m=some j/\af ps Rc j=af ps Re j){i:Nat}(hi:i<ps.length+1):stL ps Re Rc k m i=af ps Rc i:=by
 cases e:isB ps i k with
 | false=>
  rw[ud λm' _ z=>by rw[uc T hk z]at e;cases e]
  exact (t5 T hk h _ i (aq _) hi e).symm
 | true=>
  obtain ⟨m',e'⟩:=EC T hk _ i (aq _) e;rcases kL m' m with y|y
  .exact ED y e'
  ·rw[ud λx hx z=>by
    have:=xU T (m'-x) x (by rw[show x+(m'-x)=m' by lia];exact e') z;lia]
   rcases hm with hm|⟨j,hm,hj⟩
   .exfalso;have:∀ d,upN ps k (m+d)=none:=λd=>by
     induction d with
     | zero=>exact hm
     | succ d ih=>
      show (upN ps k (m+d)).bind (par ps)=none;rw[ih];rfl
    have:=this (m'-m);rw[show m+(m'-m)=m' by lia,e']at this;cases this
   .exact (EE T R R' hk h hm hj (d:=m'-m) (by rw[show m+(m'-m)=m' by lia];exact e')).symm
end
def xV (ps:List Nat)(Re Rc:List .(h))(j:Nat):Tri Int (List En) (List En):=#[(j:Int),bp .(E) .(M),bp .(M) .(E)]
def iN (ps:List Nat)(Re Rc:List .(h))(k:Nat):Nat->List (Tri Int (List En) (List En))
 | 0=>[]
 | m+1=>iN ps Re Rc k m++((upN ps k m).map (xV ps Re Rc)).toList
structure eE (K:Frag)(CS:Addr)(H:Hp)(sh dx st p:Addr)(qs:List Addr)(ps:List Nat)(Re Rc:List .(h))(t rs:Addr)(as:List Addr)(k m:Nat):Prop where
 own:H dx=some (.own sh)
 ins:H sh=some (.ins CS dx [("kept",.ref st),("fulls",.ref p)])
 stand:dw H st ps Rc t rs as
 full:FA K H p qs (ps.length+1) (stL ps Re Rc k m)
def EF (ps:List Nat)(Re Rc:List .(h))(k m:Nat):Prop:=(∀ m' j,m'<m->upN ps k m'=some j->¬(bp .(E) .(M)=[]/\bp .(M) .(E)=[]))/\
 (upN ps k m=none\/∃ j,upN ps k m=some j/\bp .(E) .(M)=[]/\bp .(M) .(E)=[])
structure EG (K:Frag)(H:Hp)(D:Addr)(Fr:Addr->Prop)(e:Tri Int (List En) (List En))(v:V):Prop where
 ex:∃(u g c:Addr) (gw cw:List V),v=.ref u/\H u=some (.tup [.int e.a,.ref g,.ref c])/\H g=some (.lst gw)/\aD K H e.b gw/\H c=some (.lst cw)/\aD K H e.c cw/\g≠D/\c≠D/\Fr g/\Fr c
def dR (K:Frag)(H:Hp)(D:Addr)(Fr:Addr->Prop):List (Tri Int (List En) (List En))->List V->Prop:=Paired (EG K H D Fr)
def EH {R S:Tri Int (List En) (List En)->V->Prop}(h:∀ e v,R e v->S e v){es:List (Tri Int (List En) (List En))}{us:List V}(p:Paired R es us):Paired S es us:=by
 induction p with
 | nil=>exact .nil
 | cons a _ ih=>exact .cons (h _ _ a) ih
def dR.keep {K:Frag}{H H':Hp}{D:Addr}{Fr:Addr->Prop}(k:∀ b o,b≠D->Fr b->H b=some o->H' b=some o)(tp:Tp H H'){es:List (Tri Int (List En) (List En))}{us:List V}(h:dR K H D Fr es us):dR K H' D Fr es us:=EH (λe v z=>by
 obtain ⟨u,g,c,gw,cw,e1,e2,e3,e4,e5,e6,n1,n2,n3,n4⟩:=z.ex;exact #[u,g,c,gw,cw,e1,tp _ _ e2,k _ _ n1 n3 e3,g7 tp e4,k _ _ n2 n4 e5,g7 tp e6,n1,n2,n3,n4]) h
def dR.imp {K:Frag}{H:Hp}{Fr Fr':Addr->Prop}(k:∀ b o,H b=some o->Fr b->Fr' b){es:List (Tri Int (List En) (List En))}{us:List V}(h:dR K H D Fr es us):dR K H D Fr' es us:=EH (λe v z=>by
 obtain ⟨u,g,c,gw,cw,e1,e2,e3,e4,e5,e6,n1,n2,n3,n4⟩:=z.ex;exact #[u,g,c,gw,cw,e1,e2,e3,e4,e5,e6,n1,n2,k _ _ e3 n3,k _ _ e5 n4]) h
def dR.snoc {K:Frag}{Fr:Addr->Prop}{es:List (Tri Int (List En) (List En))}{us:List V}(h:dR K H D Fr es us)(g:EG K H D Fr e v):dR K H D Fr (es++[e]) (us++[v]):=by
 induction h with
 | nil=>exact .cons g .nil
 | cons a _ ih=>exact .cons a ih
inductive ue (K:Frag)(CS:Addr)(vs:List V)(H:Hp)(Q:VK)(w_1:XK):Prop
 | c:∀(sh dx st p g c:Addr) (gw cw:List V) (kn:Nat) (qs:List Addr) (ps:List Nat) (Re Rc:List (List Int)) (t rs:Addr) (as:List Addr) (Fr:Addr->Prop),vs=[.ref sh,.int kn,.ref g,.ref c]->eE K CS H sh dx st p qs ps Re Rc t rs as kn 0->kn<ps.length+1->ju kn Re Rc->aX Re->Re.length=ps.length+1->Fw Re->H g=some (.lst gw)->aD K H (bp (af ps Re kn) (af ps Rc kn)) gw->H c=some (.lst cw)->aD K H (bp (af ps Rc kn) (af ps Re kn)) cw->Fr g->Fr c->g∉qs->c∉qs->¬Fr p->(∀ b,H b=none->Fr b)->(∀(D:Addr) (us:List V) (m:Nat) (qs':List Addr) (H':Hp),EF ps Re Rc kn m->H D=none->(∀ q∈qs',q∈qs\/H q=none)->But p H H'->cV K CS H' sh dx st p qs' ps Rc t rs as->H' D=some (.lst us)->dR K H' D (λb=>Fr b/\b∉qs') (iN ps Re Rc kn m) us->Q (.ref D) H')->ue K CS vs H Q w_1
def upV:Option Nat->V
 | none=>.non
 | some j=>.int j
def Goes (ps:List Nat)(Re Rc:List .(h))(k m:Nat):Prop:=∀ m' j,m'<m->upN ps k m'=some j->¬(bp .(E) .(M)=[]/\bp .(M) .(E)=[])
structure CarI (K:Frag)(CS:Addr)(Fr:Addr->Prop)(H H2:Hp)(sh dx st p g c D:Addr)(gw cw us:List V)(qs qs':List Addr)(ps:List Nat)(Re Rc:List .(h))(t rs:Addr)(as:List Addr)(k m:Nat):Prop where
 half:eE K CS H2 sh dx st p qs' ps Re Rc t rs as k m
 hg:H2 g=some (.lst gw)
 hc:H2 c=some (.lst cw)
 cur:∀ j,upN ps k m=some j->aD K H2 (bp .(E) .(M)) gw/\aD K H2 (bp .(M) .(E)) cw
 goes:Goes ps Re Rc k m
 hD:H2 D=some .(ia)
 told:dR K H2 D (λb=>Fr b/\b∉qs') (iN ps Re Rc k m) us
 gD:g≠D
 cD:c≠D
 gp:Fr g
 cp:Fr c
 gq:g∉qs'
 cq:c∉qs'
 nD:H D=none
 nqs:∀ q∈qs',q∈qs\/H q=none
 but:But p H H2
 dp:D≠p
 dqs:D∉qs'
def eE.keep {K:Frag}{st p:Addr}{Re:List .(h)}{t rs:Addr}{k:Nat}(S:eE K CS H sh dx st p qs ps Re Rc t rs as k m)(kp:But D H H')(hD:∀ o,H D=some o->∃ us,o=.lst us)(dp:D≠p)(dq:D∉qs):eE K CS H' sh dx st p qs ps Re Rc t rs as k m:=by
 have nl:∀{b:Addr} {o:HO},H b=some o->(∀ us,o≠.lst us)->H' b=some o:=λ{b o} e n=>kp b o (λz=>by
  subst z;obtain ⟨us,z⟩:=hD _ e;exact n us z) e
 have tp:Tp H H':=λb us e=>nl e nofun;refine #[nl S.own nofun,nl S.ins nofun,ka tp S.stand,kp _ _ dp.symm S.full.at_,S.full.len,S.full.nd,S.full.np,λj q hq=>?_];obtain ⟨ws,h1,h2⟩:=S.full.get j q hq;exact #[ws,kp _ _ (λz=>dq (z ▸ cX hq)) h1,g7 tp h2]
def EI {k:Nat}(T:aP ps):∀ m:Nat,(iN ps Re Rc k m).length<=m
 | 0=>aq _
 | m+1=>by
  unfold iN;rw[aS];have:=EI (Re:=Re) (Rc:=Rc) (k:=k) T m;cases upN ps k m with
  | none=>exact Nat.le_succ_of_le this
  | some j=>exact Nat.succ_le_succ this
def EJ (ps:List Nat)(j:Nat):parV ps j=upV (par ps j):=by
 unfold parV;cases par ps j<;>rfl
def Nc (T:Txt K mg)(O:OwnC K mg CS)(zy:DM K CS "carry_up" "Shelf.carry_up" qH m8)(um:FC P w K mg base 6 "handed" mX (tm K))(yT:FC P w K mg base 1 "joined_up" mV (tH K))(zz:FC P w K mg base 1 "without" rN (xS K)):FM P w K mg base CS 7 "carry_up" m8 (ue K CS):=by
 refine zy.ok jX .(c) .(b)
 .obtain ⟨sh,dx,st,p,g,c,gw,cw,kn,qs,ps,Re,Rc,t,rs,as,Fr,rfl,_⟩:=h;rfl
 obtain ⟨sh,dx,st,p,g,c,gw,cw,kn,qs,ps,Re,Rc,t,rs,as,Fr,rfl,S,hk,hB,R,hlen,hkeys,hg,hgw,hc,hcw,ngp,ncp,ngq,ncq,hFp,hF0,q⟩:=h;refine #[_,(cQ (aI (i:=4) jX.nd rfl (av rfl) (bN ae))
   (cQ (mr PassesOwn.never (PW.pt (iW (aW Al (pv 1) jK (bf _)) (iV (aW ix (aC bY (aN (bF (K:=K)) rfl T.bD bz (aa (pv 2) ae)) (aN (bF (K:=K)) rfl T.bD bz (aa (pv 3) ae))) ah (bf _))))) (cQ (cM (dJ F.plainAttrs_list F.slot_list_append F.type_list_append dM (pv 4) (aa (cE (aa (pv 1) (aa (pv 2) (aa (pv 3) ae)))) ae)))
   (cQ (aI (i:=5) jX.nd rfl (av rfl) (aG um hr (aa (aH (bg (K:=K)) (fg (pv 0) rfl) (pv 1) (λ_ _=>rfl)) ae)))
   (cQ (gr (aG yT hr (aa (bN (aa (aG zz hr (aa (aH (bg (K:=K)) (fg (pv 0) rfl) (pv 1) (λ_ _=>rfl)) (aa (pv 2) ae))) (aa (pv 3) ae))) ae)) (iw (fg (pv 0) rfl) (pv 1) iz))
   (cQ (aI (i:=6) jX.nd rfl (av rfl) (aG um hr (aa (aH (bg (K:=K)) (fg (pv 0) rfl) (pv 1) (λ_ _=>rfl)) ae)))
   (cQ (aI (i:=2) jX.nd rfl (av rfl) (aG zz hr (aa (pv 5) (aa (pv 6) ae))))
   (cQ (aI (i:=3) jX.nd rfl (av rfl) (aG zz hr (aa (pv 6) (aa (pv 5) ae))))
   (au (aI (i:=1) jX.nd rfl (av rfl) (aH (bA (K:=K)) (aH (bA (K:=K)) (fg (pv 0) rfl) ah (λ_ _=>rfl)) (pv 1) (λ_ _=>rfl)))))))))))
   (au (aK (pv 4))))),?_]
 intro N0 n0;refine #[.(B),λD hD=>n0 _ _ ?_];intro Nw nw;have T':=S.stand.T;have R':=S.stand.R;have s0:=az hD .(V);refine vv (λU H2=>∃(g c:Addr) (gw cw us:List V) (qs':List Addr) (m:Nat) (x5 x6:Option V),U=[some (.ref sh),some (upV (upN ps kn m)),some (.ref g),some (.ref c),some (.ref D),x5,x6]/\CarI K CS Fr H H2 sh dx st p g c D gw cw us qs qs' ps Re Rc t rs as kn m)
  (λU H2=>∃(g c:Addr) (gw cw us:List V) (qs':List Addr) (m:Nat) (x5 x6:Option V),U=[some (.ref sh),some (upV (upN ps kn m)),some (.ref g),some (.ref c),some (.ref D),x5,x6]/\CarI K CS Fr H H2 sh dx st p g c D gw cw us qs qs' ps Re Rc t rs as kn m/\(upN ps kn m=none\/∃ j,upN ps kn m=some j/\bp .(E) .(M)=[]/\bp .(M) .(E)=[]))
  (λU _=>match U with|_::some (.int j)::_=>j.toNat+1|_=>0) ?_ ?_ ?_ ?_
 .refine #[g,c,gw,cw,[],qs,0,_,_,rfl,#[s0 _ _ S.own,s0 _ _ S.ins,S.stand.same s0,S.full.ext s0.ext],s0 _ _ hg,s0 _ _ hc,λj e=>?_,λm' j h=>absurd h (iR _),ag,.nil,aw hg hD,aw hc hD,ngp,ncp,ngq,ncq,hD,λq h=>.inl h,λb o _ e=>s0 b o e,(λz=>by rw[z,S.full.at_]at hD;cases hD),λz=>?_]
  .have:kn=j:=aJ e;subst this;exact #[hgw.mono s0.ext,hcw.mono s0.ext]
  .obtain ⟨j,hj,e⟩:=cY z;obtain ⟨ws,w1,_⟩:=S.full.get j D (by rw[aA hj,e]);rw[hD]at w1;cases w1
 .rintro U H2 ⟨g,c,gw,cw,us,qs',m,x5,x6,rfl,I⟩;cases eu:upN ps kn m with
  | none=>
   refine #[_,rfl,rfl,_,rfl,?_];refine iteF ?_;refine iteF ?_;exact #[g,c,gw,cw,us,qs',m,x5,x6,by rw[eu],I,.inl eu]
  | some j=>
   refine #[_,rfl,rfl,_,rfl,?_];refine iteT ?_;refine #[_,rfl,_,_,rfl,.inl (SqL.of I.hg),_,rfl,_,_,rfl,.inl (SqL.of I.hc),_,_,rfl,rfl,_,_,rfl,rfl,_,rfl,?_];obtain ⟨cg,cc⟩:=I.cur j eu;have lg:=cg.length;have lc:=cc.length;refine ite2 (λhpos=>?_) (λhneg=>?_)
   .have hmj:=xT T' eu;have hjn:=nK T' hk eu;have hfew:=S.stand.few;have hul:us.length<=m:=by
     have:=Paired.length I.told;have:=EI (Re:=Re) (Rc:=Rc) (k:=kn) T' m;lia
    refine Dm λN B' R0 hN hB' hR'=>?_;intro N1 n1;refine #[_,rfl,.inl #[rfl,_,SqL.of I.hD],?_];refine #[_,rfl,_,rfl,_,rfl,.(Z),λu hu=>?_];have su:=az hu (.tup [upV (some j),.ref g,.ref c]);have huT:upd H2 u (.tup [upV (some j),.ref g,.ref c]) u=some (.tup [.int (j:Int),.ref g,.ref c]):=ag;generalize upd H2 u (.tup [upV (some j),.ref g,.ref c])=H3 at su huT ⊢;refine #[_,_,_,rfl,rfl,su _ _ I.hD,bh .(a),n1 _ _ ?_];intro N2 n2;have hDq:∀ o,H3 D=some o->∃ us,o=.lst us:=λo e=>#[us,by rw[su _ _ I.hD]at e;exact (aJ e).symm];have k4:But D H3 (upd H3 D (.lst (us++[.ref u]))):=λb o n e=>by rw[aj n];exact e
    have S4:eE K CS (upd H3 D (.lst (us++[.ref u]))) sh dx st p qs' ps Re Rc t rs as kn m:=eE.keep #[su _ _ I.half.own,su _ _ I.half.ins,I.half.stand.same su,I.half.full.ext su.ext] k4 hDq I.dp I.dqs;have tp4:Tp H3 (upd H3 D (.lst (us++[.ref u]))):=k4.tp λus' z=>by rw[su _ _ I.hD]at z;cases z
    have tpS:Tp H2 H3:=λb us e=>su _ _ e;have g4:=k4 _ _ I.gD (su _ _ I.hg);have c4:=k4 _ _ I.cD (su _ _ I.hc);have cg4:=g7 tp4 (g7 tpS cg);have cc4:=g7 tp4 (g7 tpS cc);have D4:upd H3 D (.lst (us++[.ref u])) D=some (.lst (us++[.ref u])):=ag;have t4:dR K (upd H3 D (.lst (us++[.ref u]))) D (λb=>Fr b/\b∉qs') (iN ps Re Rc kn (m+1)) (us++[.ref u]):=by
     have e:iN ps Re Rc kn (m+1)=iN ps Re Rc kn m++[xV ps Re Rc j]:=by
      show _++((upN ps kn m).map (xV ps Re Rc)).toList=_;rw[eu];rfl
     rw[e];refine dR.snoc (dR.keep (λb o n1 _ e=>k4 b o n1 (su _ _ e)) (λb us e=>tp4 _ _ (tpS _ _ e)) I.told) #[u,g,c,gw,cw,rfl,tp4 _ _ huT,g4,cg4,c4,cc4,I.gD,I.cD,#[I.gp,I.gq],#[I.cp,I.cq]]
    have b4:But p H (upd H3 D (.lst (us++[.ref u]))):=λb o n e=>k4 b o (aw e hD) (su _ _ (I.but b o n e));clear k4 hDq tp4;generalize upd H3 D (.lst (us++[.ref u]))=H4 at S4 g4 c4 cg4 cc4 D4 t4 b4 ⊢;obtain ⟨qj,ws,f1,f2,f3⟩:=S4.full.at hjn;rw[Na T' eu]at f3;have hle:=lN T' R hfew hlen hkeys hjn;have hle':=lN T' S.stand.R hfew S.stand.len S.stand.keys hjn;refine #[_,rfl,sh,CS,dx,_,_,rfl,S4.ins,O.cl,O.n_fulls,rfl,_,rfl,_,_,_,_,rfl,rfl,SqL.of S4.full.at_,eB f1,qj,ws,_,rfl,f2,f3,by lia,j6 T' R hfew hjn,cz T' R hjn,λB H5 hB5 s5 h5=>n2 _ _ ?_];intro N3 n3;have hh5:aD K H5 (bC .(E)) (ck ws (cm .(E))):=tq (f3.mono s5.ext);have tp5:Tp H4 H5:=λb us e=>s5 _ _ e;have S5:eE K CS H5 sh dx st p qs' ps Re Rc t rs as kn m:=#[s5 _ _ S4.own,s5 _ _ S4.ins,S4.stand.same s5,S4.full.ext s5.ext];have ndg:(bp .(E) .(M)).Nodup:=Ek (lM T' R hjn);refine #[_,rfl,sh,CS,dx,_,_,rfl,S5.ins,O.cl,O.n_fulls,rfl,_,rfl,_,_,_,_,rfl,rfl,SqL.of S5.full.at_,eB f1,_,rfl,qj,g,ws,gw,_,_,rfl,s5 _ _ f2,f3.mono s5.ext,by lia,s5 _ _ g4,cg4.mono s5.ext,?_,ndg,λW ww H6 hW s6 h6 hw6=>?_]
    .exact bW (eX _ _) .(a)
    refine #[_,rfl,.(l),λL hL=>?_];have s7:=az hL (.lst [.ref W,.ref c]);have c7:=s7 _ _ (s6 _ _ (s5 _ _ c4));have hL7:upd H6 L (.lst [.ref W,.ref c]) L=some (.lst ([W,c].map V.ref)):=ag;have W7:=s7 _ _ h6;have w7:=hw6.mono s7.ext;generalize upd H6 L (.lst [.ref W,.ref c])=H7 at s7 c7 hL7 W7 w7 ⊢;have s47:Same H4 H7:=s5.trans (s6.trans s7);have cl:(bp .(M) .(E)).length<= .(M).length:=eX _ _;have gl:(bp .(E) (bp .(E) .(M))).length<= .(E).length:=eX _ _;refine #[L,[W,c],[bp .(E) (bp .(E) .(M)),bp .(M) .(E)],rfl,hL7,.cons #[ww,W7,w7] (.cons #[cw,c7,cc4.mono s47.ext] .nil),?_,λJ jw H8 hJ s8 h8 hw8=>?_]
    .rw[kJ,kJ,List.flatten_nil,bQ];have e:=congrArg List.length (El (cz T' R hjn) (cz T' R' hjn)).eq;rw[(jQ _).length_eq]at e;lia
    rw[kJ,kJ,List.flatten_nil,bQ,<-(El (cz T' R hjn) (cz T' R' hjn)).eq]at hw8;have s48:Same H4 H8:=s47.trans s8;have S8:eE K CS H8 sh dx st p qs' ps Re Rc t rs as kn m:=#[s48 _ _ S4.own,s48 _ _ S4.ins,S4.stand.same s48,S4.full.ext s48.ext];refine #[_,rfl,sh,CS,dx,_,_,rfl,S8.ins,O.cl,O.n_fulls,rfl,_,rfl,p,_,_,j,rfl,rfl,S8.full.at_,iK (by rw[ai,S8.full.len];exact hjn),n3 _ _ ?_];intro N4 n4;have nn:∀{b:Addr},H7 b=none->H4 b=none:=λ{b} e=>by
     cases e4:H4 b with
     | none=>rfl
     | some o=>
      rw[s47 _ _ e4]at e;cases e
    have hJ4:=nn hJ;have hJp:J≠p:=λz=>by rw[z,S4.full.at_]at hJ4;cases hJ4
    have hJq:J∉qs':=λz=>by
     obtain ⟨i,hi,e⟩:=cY z;obtain ⟨ws,w1,_⟩:=S4.full.get i J (by rw[aA hi,e]);rw[hJ4]at w1;cases w1
    have hJD:D≠J:=λz=>by rw[<-z,D4]at hJ4;cases hJ4
    have hBp:B≠p:=λz=>by rw[z,S4.full.at_]at hB5;cases hB5
    have F9:=S8.full.set (k:=j) h8 hw8 hJq hJp;have k9:But p H8 (upd H8 p (.lst ((qs'.map V.ref).set j (.ref J)))):=λb o n e=>by rw[aj n];exact e
    have tp9:Tp H8 (upd H8 p (.lst ((qs'.map V.ref).set j (.ref J)))):=k9.tp λus' z=>by rw[S8.full.at_]at z;cases z
    have F9':FA K (upd H8 p (.lst ((qs'.map V.ref).set j (.ref J)))) p (qs'.set j J) (ps.length+1) (stL ps Re Rc kn (m+1)):=F9.congr λi hi=>by
     show _=if upN ps kn m=some i then af ps Rc i else stL ps Re Rc kn m i
     rw[eu];by_cases z:i=j
     .rw[ak z,ak (by rw[z]),z]
     .rw[ao z,ao (λy=>z (aJ y).symm)]
    have nlp:∀{b:Addr} {o:HO},H8 b=some o->(∀ us,o≠.lst us)->upd H8 p (.lst ((qs'.map V.ref).set j (.ref J))) b=some o:=λ{b o} e n=>k9 b o (λz=>by
     rw[z,S8.full.at_]at e;exact n _ (aJ e).symm) e
    have S9:eE K CS (upd H8 p (.lst ((qs'.map V.ref).set j (.ref J)))) sh dx st p (qs'.set j J) ps Re Rc t rs as kn (m+1):=#[nlp S8.own (λ_ z=>nomatch z),nlp S8.ins (λ_ z=>nomatch z),ka tp9 S8.stand,F9'];have s58:Same H5 H8:=s6.trans (s7.trans s8);have B9:=k9 _ _ hBp (s58 _ _ h5);have hB9:=g7 tp9 (hh5.mono s58.ext);have J9:=k9 _ _ hJp h8;have hJ9:=g7 tp9 hw8;have D9:=k9 _ _ I.dp (s48 _ _ D4);have t4':=t4.imp (Fr':=λb=>Fr b/\b∉qs'.set j J) λb o e n=>#[n.1,λz=>by
     rcases iU z with y|y
     .exact n.2 y
     .rw[y,hJ4]at e;cases e]
    have t9:=dR.keep (λb o _ n e=>k9 b o (λz=>hFp (z ▸ n.1)) (s48 _ _ e)) (λb us e=>tp9 _ _ (s48 _ _ e)) t4';have b9:But p H (upd H8 p (.lst ((qs'.map V.ref).set j (.ref J)))):=λb o n e=>k9 b o n (s48 _ _ (b4 b o n e));clear k9 tp9 nlp F9 F9';generalize upd H8 p (.lst ((qs'.map V.ref).set j (.ref J)))=H9 at S9 B9 hB9 J9 hJ9 D9 t9 b9 ⊢;have fJ:(qs'.set j J)[j]?=some J:=by
     have:=I.half.full.len;rw[ip,ak rfl,ak .(a)]
    refine #[_,rfl,sh,CS,dx,_,_,rfl,S9.ins,O.cl,O.n_fulls,rfl,_,rfl,_,_,_,_,rfl,rfl,SqL.of S9.full.at_,eB fJ,J,jw,_,rfl,J9,hJ9,by lia,j6 T' R' hfew hjn,cz T' R' hjn,λA' H10 hA10 s10 h10=>n4 _ _ ?_];intro N5 n5;have hh10:aD K H10 (bC .(M)) (ck jw (cm .(M))):=tq (hJ9.mono s10.ext);have hl1:=(cU .(E)).length_le;have hl2:=(cU .(M)).length_le;have nd1:=(lM T' R hjn).sublist (cU .(E));have nd2:=(lM T' R' hjn).sublist (cU .(M));refine #[_,rfl,_,rfl,B,A',_,_,_,_,rfl,s10 _ _ B9,hB9.mono s10.ext,by lia,h10,hh10,by lia,nd2,λG gw' H11 hG s11 h11 hw11=>n5 _ _ ?_];intro N6 n6;refine #[_,rfl,_,rfl,A',B,_,_,_,_,rfl,s11 _ _ h10,hh10.mono s11.ext,by lia,s11 _ _ (s10 _ _ B9),(hB9.mono s10.ext).mono s11.ext,by lia,nd1,λC cw' H12 hC s12 h12 hw12=>n6 _ _ ?_];have s92:Same H9 H12:=s10.trans (s11.trans s12);have S12:eE K CS H12 sh dx st p (qs'.set j J) ps Re Rc t rs as kn (m+1):=#[s92 _ _ S9.own,s92 _ _ S9.ins,S9.stand.same s92,S9.full.ext s92.ext];refine #[_,rfl,sh,CS,dx,_,_,rfl,S12.ins,O.cl,O.n_kept,rfl,_,_,_,_,rfl,rfl,SqT.of S12.stand.st,rfl,_,rfl,_,_,_,_,rfl,rfl,SqT.of S12.stand.tr,jr hjn,?_];have tp92:Tp H9 H12:=λb us e=>s92 _ _ e;have hnH:∀{b:Addr},H9 b=none->H b=none\/b=p:=λ{b} e=>by
     by_cases z:b=p
     .exact .inr z
     .refine .inl ?_;cases e4:H b with
      | none=>rfl
      | some o=>
       rw[b9 _ _ z e4]at e;cases e
    have nG:H9 G=none:=s10.free hG;have nC:H9 C=none:=s10.free (s11.free hC);have nqs:∀{b:Addr},H9 b=none->b∉qs'.set j J:=λ{b} e z=>by
     obtain ⟨i,hi,ei⟩:=cY z;obtain ⟨ws,w1,_⟩:=S9.full.get i b (by rw[aA hi,ei]);rw[e]at w1;cases w1
    refine hN _ _ #[#[G,C,gw',cw',us++[.ref u],qs'.set j J,m+1,some (.ref B),some (.ref A'),?_,S12,s12 _ _ h11,h12,λi hi=>?_,λm' i hm' hi=>?_,s92 _ _ D9,dR.keep (λb o _ _ e=>s92 _ _ e) tp92 t9,?_,?_,?_,?_,nqs nG,nqs nC,hD,λx hx=>?_,λb o n e=>s92 _ _ (b9 b o n e),I.dp,λz=>?_],?_]
    .rw[EB eu,EJ];rfl
    .have L:=Ep T' R R' hk hB (uc T' hk eu) ((EB eu).symm.trans hi);rw[<-L.gone,<-L.come];exact #[hw11.mono s12.ext,hw12]
    .rcases kL m' m with y|y
     .exact I.goes m' i y hi
     .have:m'=m:=by lia
      subst this;rw[eu]at hi;have:=aJ hi;subst this;rintro ⟨z1,z2⟩;rw[z1]at lg;rw[z2]at lc;have:(0:Int)<(gw.length:Int)+cw.length:=bO hpos;rw[ie]at lg lc;lia
    .exact λz=>by rw[z,D9]at nG;cases nG
    .exact λz=>by rw[z,D9]at nC;cases nC
    .exact (hnH nG).elim (hF0 _) λz=>by rw[z,S9.full.at_]at nG;cases nG
    .exact (hnH nC).elim (hF0 _) λz=>by rw[z,S9.full.at_]at nC;cases nC
    .rcases iU hx with y|y
     .exact I.nqs x y
     .rw[y];refine .inr ?_;cases e4:H J with
      | none=>rfl
      | some o=>
       rw[b4 _ _ hJp e4]at hJ4;cases hJ4
    .rcases iU z with y|y
     .exact I.dqs y
     .exact hJD y
    .rw[EJ];cases ep:par ps j with
     | none=>exact Nat.succ_pos _
     | some i=>
      have:=(bj T' ep).1;show ((i:Int)).toNat+1<((j:Int)).toNat+1;lia
   .have e0:gw.length=0/\cw.length=0:=by
     have:¬ (0:Int)<(gw.length:Int)+cw.length:=λz=>hneg (aV z);lia
    exact #[g,c,gw,cw,us,qs',m,x5,x6,by rw[eu],I,.inr #[j,eu,uF.mp .(a),uF.mp .(a)]]
 .refine BB (λU H Q Q' m h=>?_) (λU H Q Q' m h=>?_)
  .obtain ⟨y1,e1,e3,b,e4,q⟩:=h;exact #[y1,e1,e3,b,e4,m _ _ q]
  .obtain ⟨y1,e1,p1,z1,e2,e3,y2,e4,p2,z2,e5,e6,i1,j1,e7,e8,i2,j2,e9,e10,b,e11,q⟩:=h;exact #[y1,e1,p1,z1,e2,e3,y2,e4,p2,z2,e5,e6,i1,j1,e7,e8,i2,j2,e9,e10,b,e11,m _ _ q]
 .rintro U H2 ⟨g,c,gw,cw,us,qs',m,x5,x6,rfl,I,hm⟩;have hm':upN ps kn m=none\/∃ j,upN ps kn m=some j/\af ps Rc j=af ps Re j:=hm.imp id λ⟨j,h1,h2,h3⟩=>#[j,h1,Em (cz T' R (nK T' hk h1)) (cz T' R' (nK T' hk h1)) h2 h3];refine nw _ _ ?_;refine .(A);exact q D us m qs' H2 #[I.goes,hm] hD I.nqs I.but #[I.half.own,I.half.ins,I.half.stand,I.half.full.congr λi hi=>Nb T' R R' hk hB hm' hi] I.hD I.told
def loN (row:List Int)(x:Int):Nat:=(row.filter λy=>decide (y<x)).length
def putR (row:List Int)(x:Int):List Int:=row.take .(ta)++[x]++row.drop .(ta)
def outR (row:List Int)(x:Int):List Int:=row.take .(ta)++row.drop (loN row x+1)
def xW {x:Int}:∀{row:List Int},row.Pairwise .(Ca)->(∀ y∈row.take (loN row x),y<x)/\∀ y∈row.drop (loN row x),x<=y
 | [],_=>#[(λ_ h=>by simp at h),λ_ h=>by simp at h]
 | a::r,h=>by
  obtain ⟨h1,h2⟩:=oE.mp h;by_cases c:a<x
  .have e:loN (a::r) x=loN r x+1:=by
    unfold loN;rw[dE (p:=λy=>decide (y<x)) (aV c),dC]
   obtain ⟨i1,i2⟩:=xW (x:=x) h2;rw[e];refine #[λy hy=>?_,λy hy=>i2 y hy];rcases aU.mp hy with z|z
   .rw[z];exact c
   .exact i1 y z
  .have e:loN (a::r) x=0:=by
    unfold loN;rw[iq.mpr,ie];intro y hy z;have z:=bO z;rcases aU.mp hy with w|w
    .omega
    .have:=h1 y w;lia
   rw[e];refine #[(λy hy=>by simp at hy),λy hy=>?_];rcases aU.mp hy with w|w
   .omega
   .have:=h1 y w;lia
def xX {row:List Int}{y:Int}:y∈putR row x↔y∈row\/y=x:=by
 unfold putR;rw[bX,bX,bM];constructor
 .rintro ((h|h)|h)
  .exact .inl (uG h)
  .exact .inr h
  .exact .inl (oG h)
 .rintro (h|h)
  .rw[<-eY .(ta) row]at h;rcases bX.mp h with h|h
   .exact .inl (.inl h)
   .exact .inr h
  .exact .inl (.inr h)
def EK {row:List Int}{x:Int}(h:row.Pairwise .(Ca))(n:x∉row):(putR row x).Pairwise .(Ca):=by
 obtain ⟨h1,h2⟩:=xW (x:=x) h;have h3:∀ y∈row.drop (loN row x),x<y:=λy hy=>by
  have:=h2 y hy;have:y≠x:=λz=>n (z ▸ oG hy);lia
 have hp:=h;rw[<-eY .(ta) row]at hp;obtain ⟨p1,p2,_⟩:=oC.mp hp;unfold putR;refine oC.mpr #[oC.mpr #[p1,uE _ _,λa ha b hb=>?_],p2,λa ha b hb=>?_]
 .rw[bM.mp hb];exact h1 a ha
 .have:=h3 b hb;rcases bX.mp ha with z|z
  .have:=h1 a z;lia
  .rw[bM.mp z];exact this
def lT (row:List Int)(x:Int):(outR row x).Sublist row:=by
 unfold outR;have:(row.take .(ta)++row.drop (loN row x+1)).Sublist (row.take .(ta)++row.drop .(ta)):=by
  refine List.Sublist.append (List.Sublist.refl _) ?_;rw[<-List.drop_drop];exact List.drop_sublist _ _
 rwa[eY]at this
def EL {row:List Int}{x y:Int}(h:row.Pairwise .(Ca))(hx:x∈row):y∈outR row x↔y∈row/\y≠x:=by
 obtain ⟨h1,h2⟩:=xW (x:=x) h;have hd:∃ r,row.drop .(ta)=x::r:=by
  have hm:x∈row.drop .(ta):=by
   have hx':=hx;rw[<-eY .(ta) row]at hx';rcases bX.mp hx' with z|z
   .exact absurd (h1 x z) .(a)
   .exact z
  cases e:row.drop .(ta) with
  | nil=>rw[e]at hm;cases hm
  | cons a r=>
   have ha:=h2 a (by rw[e];exact bZ);rw[e]at hm;rcases aU.mp hm with z|z
   .exact #[r,by rw[z]]
   .have hs:=h.sublist (List.drop_sublist .(ta) row);rw[e]at hs;have:=(oE.mp hs).1 x z;lia
 obtain ⟨r,hr⟩:=hd;have hr1:row.drop (loN row x+1)=r:=by
  rw[<-List.drop_drop,hr];rfl
 have hs:=h.sublist (List.drop_sublist .(ta) row);rw[hr]at hs;have hlt:=(oE.mp hs).1;unfold outR;rw[bX,hr1];constructor
 .rintro (z|z)
  .exact #[uG z,λe=>absurd (h1 y z) .(a)]
  .refine #[oG (by rw[hr];exact bP _ z),λe=>?_];have:=hlt y z;lia
 .rintro ⟨z,n⟩;rw[<-eY .(ta) row,hr]at z;rcases bX.mp z with z|z
  .exact .inl z
  .rcases aU.mp z with z|z
   .exact absurd z n
   .exact .inr z
section
variable {Re:List .(h)}{kn:Nat}{x:Int}{r:List Int}
def lU (h:kn<Re.length):ay (Re.set kn r) kn=r:=by
 unfold ay;rw[aF,ip,ak rfl,ak h];rfl
def lV:ju kn Re (Re.set kn r):=λj n=>by
 unfold ay;rw[aF,ip,ao (λz=>n z.symm),aF]
def jv {k:Nat}{e:En}:e∈ownE Re k↔e.1∈ay Re k/\e.2=(k:Int):=by
 unfold ownE;rw[cA];constructor
 .rintro ⟨y,hy,rfl⟩;exact #[hy,rfl]
 .rintro ⟨h1,h2⟩;exact #[e.1,h1,by rw[<-h2]]
def Nd (h:kn<Re.length):bp (ownE Re kn) (ownE (Re.set kn (putR .(p) x)) kn)=[]:=by
 refine iq.mpr λe he z=>?_;have z:=bO z;obtain ⟨h1,h2⟩:=jv.mp he;exact z (jv.mpr #[by rw[lU h];exact xX.mpr (.inl h1),h2])
def Nf (h:kn<Re.length):bp (ownE (Re.set kn (outR .(p) x)) kn) (ownE Re kn)=[]:=by
 refine iq.mpr λe he z=>?_;have z:=bO z;obtain ⟨h1,h2⟩:=jv.mp he;rw[lU h]at h1;exact z (jv.mpr #[(lT _ _).mem h1,h2])
def EM {e:En}(h:Rise l)(m:∀ f,f∈l↔f=e):l=[e]:=jt h (uE _ _) λf=>by rw[m f,bM]
def Ng (h:kn<Re.length)(hup: .(p).Pairwise .(Ca))(hr:Rise (ownE (Re.set kn (putR .(p) x)) kn))(n:x∉ay Re kn):bp (ownE (Re.set kn (putR .(p) x)) kn) (ownE Re kn)=[(x,(kn:Int))]:=by
 refine EM (hr.filter _) λe=>?_;rw[fA,jv,jv,lU h,xX];constructor
 .rintro ⟨⟨h1|h1,h2⟩,h3⟩
  .exact absurd #[h1,h2] h3
  .exact Prod.ext h1 h2
 .rintro rfl;exact #[#[.inr rfl,rfl],λz=>n z.1]
def Nh (h:kn<Re.length)(hup: .(p).Pairwise .(Ca))(hr:Rise (ownE Re kn))(hx:x∈ay Re kn):bp (ownE Re kn) (ownE (Re.set kn (outR .(p) x)) kn)=[(x,(kn:Int))]:=by
 refine EM (hr.filter _) λe=>?_;rw[fA,jv,jv,lU h,EL hup hx];constructor
 .rintro ⟨⟨h1,h2⟩,h3⟩;exact Prod.ext (Classical.byContradiction λz=>h3 #[#[h1,z],h2]) h2
 .rintro rfl;exact #[#[hx,rfl],λz=>z.1.2 rfl]
def EN (R:aX Re)(hup:r.Pairwise .(Ca))(hk:∀ y∈r,-(10^60)<y/\y<10^60):aX (Re.set kn r):=by
 refine #[λrow hrow=>?_,λrow hrow=>?_]
 .rcases iU hrow with z|z
  .exact R.1 row z
  .rw[z]
   first|exact hup|exact hk
 .rcases iU hrow with z|z
  .exact R.2 row z
  .rw[z]
   first|exact hup|exact hk
end
def Ni :atI (bS ps) 0=some .non:=by
 have h:=jr (ps:=ps) (k:=0) .(a);rw[tI rfl]at h;exact h
inductive xY (K:Frag)(vs:List V)(H:Hp)(Q:VK)(w_1:XK):Prop
 | c:∀(t:Addr) (ps:List Nat),vs=[.ref t]->H t=some (.tup (bS ps))->aP ps->ps.length<=39->(∀ H',Same H H'->Q (.ref t) H')->xY K vs H Q w_1
def Nj (T:Txt K mg)(zA:DF K mg "tree_of" pP rh)(nS:FC P w K mg base 2 "is_one_of_first" lC (tX K)):FC P w K mg base 3 "tree_of" rh (xY K):=by
 refine zA.ok Cq .(c) .(b)
 .obtain ⟨t,ps,rfl,_⟩:=h;rfl
 obtain ⟨t,ps,rfl,ht,hT,hz,q⟩:=h;refine #[_,(cx (bq (ee (cL (aN vx rfl T.fS boot_isinstance (aa (pv 0) (aa (cE (aa (eZ (v:=.ty "list") rfl T.g9 boot_list rfl) (aa (eZ (v:=.ty "tuple") rfl T.fB boot_tuple rfl) ae))) ae))))) (au eh) bE)
   (cx (bq (ee (FJ uL uL ah (aN (bF (K:=K)) rfl T.bD bz (aa (pv 0) ae)) (kY rfl T.Ou))) (au eh) bE)
   (cx (bq (aW Al (aH (bA (K:=K)) (pv 0) ah (λ_ _=>rfl)) jK (bf _)) (au eh) bE)
   (aB (bU PassesOwn.never rfl (kM rfl T.de (aa ah (aa (aN (bF (K:=K)) rfl T.bD bz (aa (pv 0) ae)) ae))) (aO (i:=1) Cq.nd rfl (av rfl)) (au (bq (ee (cL (aG nS hr (aa (pv 1) (aa (aH (bA (K:=K)) (pv 0) (pv 1) (λ_ _=>rfl)) ae))))) (au eh) bE)))
   (au (aK (dI (gQ (K:=K)) rfl T.fB boot_tuple (aa (pv 0) ae)))))))),?_]
 refine #[λU' H'=>U'=[some (.ref t),none]/\Same H H',?_,?_]
 .refine #[_,rfl,.(l),λp hp=>?_];have sp:=az hp (.tup [.ty "list",.ty "tuple"]);refine #[t,p,rfl,ag,.inr #[_,sp _ _ ht],_,rfl,?_];refine iteF ?_;exact #[rfl,sp]
 rintro U' H1 ⟨rfl,s1⟩;have h1:=s1 _ _ ht;refine #[λU' H'=>U'=[some (.ref t),none]/\H1=H',?_,?_]
 .refine #[_,rfl,_,_,rfl,.inr (SqT.of h1),_,_,rfl,rfl,_,rfl,?_];refine Bd (by rw[cy];lia) ?_;refine #[_,_,rfl,rfl,_,rfl,?_];rw[aV (by rw[cy];lia)];refine iteF ?_;exact .(pa)
 rintro U' H' ⟨rfl,rfl⟩;refine #[λU' H'=>U'=[some (.ref t),none]/\H1=H',?_,?_]
 .refine #[_,rfl,_,_,_,_,rfl,rfl,SqT.of h1,Ni,rfl,_,rfl,?_];refine iteF ?_;exact .(pa)
 rintro U' H' ⟨rfl,rfl⟩;refine #[_,rfl,_,_,rfl,.inr (SqT.of h1),1,_,rfl,#[by lia,by lia,by rw[cy];lia,by rw[cy];lia],?_];have en:((((bS ps).length:Nat):Int)-1).toNat=ps.length:=by rw[cy];lia
 rw[en];refine fc (n:=ps.length) (λi U H2=>∃ x1:Option V,U=[some (.ref t),x1]/\H2=H1) ?_ ?_ ?_
 .exact #[_,rfl,rfl]
 .rintro i U H2 hi ⟨x1,rfl,rfl⟩;have ek:(1:Int)+(i:Int)=((i+1:Nat):Int):=by lia
  rw[ek];obtain ⟨u,hu⟩:=sW (ps:=ps) (k:=i+1) .(a) .(a);have hlt:=(bj hT hu).1;have hat:=jr (ps:=ps) (k:=i+1) .(a);rw[j4 hu]at hat;refine #[_,rfl,_,rfl,_,rfl,_,_,_,_,rfl,rfl,SqT.of h1,hat,_,_,rfl,by lia,by lia,_,rfl,?_];refine iteF ?_;exact #[_,rfl,rfl]
 .rintro U H2 ⟨x1,rfl,rfl⟩;refine #[_,rfl,t,_,rfl,.inr #[SqT.of h1,?_]];exact q H2 s1
inductive xZ (K:Frag)(vs:List V)(H:Hp)(Q:VK)(w_1:XK):Prop
 | c:∀(a:Addr) (row:List Int),vs=[.ref a]->H a=some (.tup (row.map V.int))->row.Pairwise (· < ·)->(∀ x∈row,-(10^60)<x/\x<10^60)->row.length<=63->(∀(b:Addr) (H':Hp),H b=none->Same H H'->H' b=some (.tup (row.map V.int))->Q (.ref b) H')->xZ K vs H Q w_1
def Nk (T:Txt K mg)(zB:DF K mg "row_of" pV rq)(zt:FC P w K mg base 2 "is_key" mR (tV K)):FC P w K mg base 3 "row_of" rq (xZ K):=by
 refine zB.ok Cr .(c) .(b)
 .obtain ⟨a,row,rfl,_⟩:=h;rfl
 obtain ⟨a,row,rfl,ha,hup,hky,hz,q⟩:=h;refine #[_,(cx (bq (ee (cL (aN vx rfl T.fS boot_isinstance (aa (pv 0) (aa (cE (aa (eZ (v:=.ty "list") rfl T.g9 boot_list rfl) (aa (eZ (v:=.ty "tuple") rfl T.fB boot_tuple rfl) ae))) ae))))) (au eh) bE)
   (aB (bU PassesOwn.never rfl (gx (pv 0)) (aO (i:=1) Cr.nd rfl (av rfl)) (au (bq (ee (cL (aG zt hr (aa (pv 1) ae)))) (au eh) bE)))
   (cx (bq (aW fH (aN HS rfl T.bD bz (aa (dI (Ir rfl) rfl T.Oo boot_set (aa (pv 0) ae)) ae)) (aN (bF (K:=K)) rfl T.bD bz (aa (pv 0) ae)) (bf _)) (au eh) bE)
   (au (aK (dI (gQ (K:=K)) rfl T.fB boot_tuple (aa (aN (Cf Int) rfl T.lY boot_sorted (aa (pv 0) ae)) ae))))))),?_]
 refine #[λU' H'=>U'=[some (.ref a),none]/\Same H H',?_,?_]
 .refine #[_,rfl,.(l),λp hp=>?_];have sp:=az hp (.tup [.ty "list",.ty "tuple"]);refine #[a,p,rfl,ag,.inr #[_,sp _ _ ha],_,rfl,?_];refine iteF ?_;exact #[rfl,sp]
 rintro U' H1 ⟨rfl,s1⟩;have h1:=s1 _ _ ha;refine #[_,rfl,a,rfl,#[_,SqT.of h1],?_];refine mx (xs:=row.map V.int) (λi U H2=>∃ x1:Option V,U=[some (.ref a),x1]/\H2=H1) ?_ ?_ ?_ ?_
 .exact #[_,rfl,rfl]
 .rintro i U H2 _ ⟨x1,rfl,rfl⟩;exact SqT.of h1
 .rintro i x U H2 hx ⟨x1,rfl,rfl⟩;rw[aZ]at hx;obtain ⟨y,hy,rfl⟩:=gI.mp hx;have hb:=hky y (cX hy);refine #[_,rfl,_,true,rfl,.int y true ?_,_,rfl,?_]
  .rw[aV (by split<;>lia)]
  refine iteF ?_;exact #[_,rfl,rfl]
 .rintro U H2 ⟨x1,rfl,rfl⟩;have hnd:row.Nodup:=List.Pairwise.imp (λ{a b} (q:a<b)=>by lia) hup;refine #[λU' H'=>U'=[some (.ref a),x1]/\Same H2 H',?_,?_]
  .refine #[_,rfl,a,row,rfl,SqT.of h1,by lia,λl hl=>?_];have sl:=az hl (.set (λk=>(metI row).any (· == k)) (metI row).length);refine #[l,_,_,rfl,ag,by rw[BA hnd];lia,_,rfl,_,_,rfl,.inr (SqT.of (sl _ _ h1)),_,_,rfl,rfl,_,rfl,?_];refine oX (by rw[BA hnd,ai];lia) ?_;exact #[rfl,sl]
  rintro U' H3 ⟨rfl,s3⟩;have h3:=s3 _ _ h1;refine #[_,rfl,a,_,row,rfl,SqT.of h3,aD.ints,by lia,λl ws hl hw=>?_];rw[hw.toInts,Bu (List.Pairwise.imp (λ{a b} (h:a<b)=>bx .(a)) hup)];have sl:=az hl (.lst (row.map V.int));refine #[l,_,rfl,.inl #[SqL.of ag,λb hb=>?_]];have sb:=az hb (.tup (row.map V.int));have s03:Same H H3:=s1.trans s3;exact q b _ (s03.free (sl.free hb)) (s03.trans (sl.trans sb)) ag
def lW (H:Hp)(q:Addr)(n:Nat):Prop:=∃ xs,(H q=some (.lst xs)\/H q=some (.tup xs))/\xs.length=n
def Nl (l:List Nat):(l.map λn:Nat=>(n:Int)).sum=((l.sum:Nat):Int):=by
 induction l with
 | nil=>rfl
 | cons a l ih=>
  rw[bL,cK,ih,cK,oy]
inductive ug (K:Frag)(vs:List V)(H:Hp)(Q:VK)(w_1:XK):Prop
 | c:∀(a:Addr) (qs:List Addr) (ls:List Nat),vs=[.ref a]->(H a=some (.lst (qs.map V.ref))\/H a=some (.tup (qs.map V.ref)))->Paired (lW H) qs ls->ls.length<=900->(∀ H',Same H H'->Q (.int ((ls.sum:Nat):Int)) H')->ug K vs H Q w_1
def Nm (T:Txt K mg)(zC:DF K mg "long_together" pW mZ):FC P w K mg base 1 "long_together" mZ (ug K):=by
 refine zC.ok JR .(c) .(b)
 .obtain ⟨a,qs,ls,rfl,_⟩:=h;rfl
 obtain ⟨a,qs,ls,rfl,ha,hP,hz,q⟩:=h;have hl:=Paired.length hP;refine #[_,(au (aK (aN (HZ rfl) rfl T.Oq boot_sum (aa (fM (N:=["each"]) (own:=1) (cap:=[]) rfl (Il (pv 0)) #[rfl,rfl,rfl,rfl,rfl,rfl] (λ_ _ _ _ _=>(aO (i:=0) (show List.Nodup (["each"]:List Str) by decide +kernel) rfl (av rfl))) (λ_ _ _ _ _=>fY) (λ_ _ _ _ _=>(aN (bF (K:=K)) rfl T.bD bz (aa (pv 0) ae)))) ae)))),?_];have step:∀{D:Addr} (hD:H D=none) {i m:Nat} {x:V} {U:L2.St} {H2:Hp} {fin:Nat->L2.St->Hp->Prop},(qs.map V.ref)[i]?=some x->i+m=(qs.map V.ref).length->(∀ b o,b≠D->H b=some o->H2 b=some o)->H2 D=some (.lst ((ls.take i).map nV))->∃ xs,(SqL K H2 (match x with|.ref q=>q|_=>0) xs\/SqT K H2 (match x with|.ref q=>q|_=>0) xs)/\(∃ q,x=.ref q)/\ls.take (i+1)=ls.take i++[xs.length]/\i<ls.length:=by
  intro D hD i m x U H2 fin hx hm k2 h2;rw[aZ]at hx;obtain ⟨qq,hq,rfl⟩:=gI.mp hx;obtain ⟨n,hn,hL⟩:∃ n,ls[i]?=some n/\lW H qq n:=by
   have:∀{qs:List Addr} {ls:List Nat} {i:Nat},Paired (lW H) qs ls->qs[i]?=some qq->∃ n,ls[i]?=some n/\lW H qq n:=by
    intro qs ls i r
    induction r generalizing i with
    | nil=>intro h;simp at h
    | cons a _ ih=>
     intro h;cases i with
     | zero=>
      have e:=aJ (show some _=some qq from h);subst e;exact #[_,rfl,a]
     | succ i=>
      obtain ⟨n,h1,h2⟩:=ih (i:=i) (by simpa using h);exact #[n,by simpa using h1,h2]
   exact this hP hq
  have hi:=(aT.mp hn).1;obtain ⟨xs,hxs,hxl⟩:=hL;refine #[xs,?_,#[qq,rfl],?_,hi]
  .rcases hxs with hxs|hxs
   .exact .inl (SqL.of (k2 _ _ (aw hxs hD) hxs))
   .exact .inr (SqT.of (k2 _ _ (aw hxs hD) hxs))
  .rw[cG hi,(aT.mp hn).2,hxl]
 have end_:∀{D:Addr} {H2:Hp},H D=none->H2 D=some (.lst (ls.map nV))->But D H H2->(λxs H Q=>∃(p:Addr) (ns:List Int),xs=[V.ref p]/\SqL K H p .(H)/\Q (.int ns.sum) H) [V.ref D] H2 Q:=λ{D H2} hD h2 k2=>by
  refine #[D,ls.map λn:Nat=>(n:Int),rfl,?_,?_]
  .rw[ig];exact SqL.of h2
  .rw[Nl];exact q H2 (λb o e=>k2 b o (aw e hD) e)
 rcases ha with ha|ha
 .refine #[_,rfl,a,rfl,.inl #[#[_,SqL.of ha],λD hD=>?_]];refine iC (xs:=qs.map V.ref) (λi U H2=>∃ x0:Option V,U=[x0]/\H2 D=some (.lst ((ls.take i).map nV))/\But D H H2) ?_ ?_ ?_ ?_
  .exact .(m)
  .rintro i U H2 _ ⟨x0,rfl,_,k2⟩;exact k2.sq (SqL.of ha) hD
  .rintro i m x U H2 hx hm ⟨x0,rfl,h2,k2⟩;obtain ⟨xs,hS,⟨qq,rfl⟩,htk,hi⟩:=step hD (U:=[x0]) (fin:=λ_ _ _=>True) hx hm k2 h2;rw[ai]at hm;refine fN ?_;refine #[_,rfl,qq,xs,rfl,hS,_,h2,bh (by rw[ai,bu];lia),m-1,by lia,by rw[ai];lia,_,rfl,?_,λb o n e=>by rw[aj n];exact k2 b o n e];rw[ag,htk,bw];rfl
  .rintro U H2 ⟨x0,rfl,h2,k2⟩;rw[ai,bG .(a)]at h2;exact end_ hD h2 k2
 .refine #[_,rfl,a,rfl,.inr #[#[_,SqT.of ha],λD hD=>?_]];refine jT (xs:=qs.map V.ref) (λi U H2=>∃ x0:Option V,U=[x0]/\H2 D=some (.lst ((ls.take i).map nV))/\But D H H2) ?_ ?_ ?_ ?_
  .exact .(m)
  .rintro i U H2 _ ⟨x0,rfl,_,k2⟩;exact SqT.of (k2 _ _ (aw ha hD) ha)
  .rintro i m x U H2 hx hm ⟨x0,rfl,h2,k2⟩;obtain ⟨xs,hS,⟨qq,rfl⟩,htk,hi⟩:=step hD (U:=[x0]) (fin:=λ_ _ _=>True) hx hm k2 h2;rw[ai]at hm;refine fN ?_;refine #[_,rfl,qq,xs,rfl,hS,_,h2,bh (by rw[ai,bu];lia),m-1,by lia,by rw[ai];lia,_,rfl,?_,λb o n e=>by rw[aj n];exact k2 b o n e];rw[ag,htk,bw];rfl
  .rintro U H2 ⟨x0,rfl,h2,k2⟩;rw[ai,bG .(a)]at h2;exact end_ hD h2 k2
inductive ya (K:Frag)(vs:List V)(H:Hp)(Q:VK)(w_1:XK):Prop
 | c:∀(t r:Addr) (ps:List Nat) (Re:List (List Int)) (as:List Addr),vs=[.ref t,.ref r]->H t=some (.tup (bS ps))->H r=some (.tup (as.map V.ref))->bH H as Re->Re.length=ps.length+1->aP ps->aX Re->ps.length<=40->Fw Re->(∀(st rs:Addr) (bs:List Addr) (H':Hp),H st=none->Same H H'->dw H' st ps Re t rs bs->Q (.ref st) H')->ya K vs H Q w_1
def bH.lens :∀{as:List Addr} {Re:List (List Int)},bH H as Re->Paired (lW H) as (Re.map List.length)
 | _,_,.nil=>.nil
 | _,_,.cons h t=>.cons #[_,.inr h,by rw[ai]] (bH.lens t)
def Np (T:Txt K mg)(zD:DF K mg "stand_of" pX rA)(Pw:FC P w K mg base 3 "row_of" rq (xZ K))(zE:FC P w K mg base 1 "long_together" mZ (ug K)):FC P w K mg base 4 "stand_of" rA (ya K):=by
 refine zD.ok Cs .(c) .(b)
 .obtain ⟨t,r,ps,Re,as,rfl,_⟩:=h;rfl
 obtain ⟨t,r,ps,Re,as,rfl,ht,hr0,hA,hlen,hT,hR,hfew,hkeys,q⟩:=h;have hal:=hA.length;refine #[_,(cx (bq (ee (cL (aN vx rfl T.fS boot_isinstance (aa (pv 1) (aa (cE (aa (eZ (v:=.ty "list") rfl T.g9 boot_list rfl) (aa (eZ (v:=.ty "tuple") rfl T.fB boot_tuple rfl) ae))) ae))))) (au eh) bE)
   (cx (bq (aW uK (aN (bF (K:=K)) rfl T.bD bz (aa (pv 1) ae)) (aN (bF (K:=K)) rfl T.bD bz (aa (pv 0) ae)) (bf _)) (au eh) bE)
   (aB (aI (i:=2) Cs.nd rfl (av rfl) (dI (gQ (K:=K)) rfl T.fB boot_tuple (aa (fM (N:=["row"]) (own:=1) (cap:=[]) rfl (gx (pv 1)) #[rfl,rfl,rfl,rfl,rfl,rfl] (λ_ _ _ _ _=>(aO (i:=0) (show List.Nodup (["row"]:List Str) by decide +kernel) rfl (av rfl))) (λ_ _ _ _ _=>fY) (λ_ _ _ _ _=>(aG Pw hr (aa (pv 0) ae)))) ae)))
   (cx (bq (aW ix (aG zE hr (aa (pv 2) ae)) (kY rfl T.E5) (bf _)) (au eh) bE)
   (au (aK (cE (aa (pv 0) (aa (pv 2) ae))))))))),?_]
 refine #[λU' H'=>U'=[some (.ref t),some (.ref r),none]/\Same H H',?_,?_]
 .refine #[_,rfl,.(l),λp hp=>?_];have sp:=az hp (.tup [.ty "list",.ty "tuple"]);refine #[r,p,rfl,ag,.inr #[_,sp _ _ hr0],_,rfl,?_];refine iteF ?_;exact #[rfl,sp]
 rintro U' H1 ⟨rfl,s1⟩;have h1t:=s1 _ _ ht;have h1r:=s1 _ _ hr0;have A1:=hA.ext s1;refine #[λU' H'=>U'=[some (.ref t),some (.ref r),none]/\H1=H',?_,?_]
 .refine #[_,rfl,_,_,rfl,.inr (SqT.of h1r),_,rfl,_,_,rfl,.inr (SqT.of h1t),rfl,_,rfl,?_];refine kU (by rw[ai,cy,hal,hlen]) ?_;exact .(pa)
 rintro U' H' ⟨rfl,rfl⟩;refine #[_,rfl,r,rfl,#[_,SqT.of h1r],λD hD=>?_];refine jT (xs:=as.map V.ref) (λi U H2=>∃(bs:List Addr) (x0:Option V),U=[x0]/\H2 D=some (.lst (bs.map V.ref))/\bH H2 bs (Re.take i)/\But D H1 H2) ?_ ?_ ?_ ?_
 .exact #[[],_,rfl,ag,.nil,λb o n e=>by rw[aj n];exact e]
 .rintro i U H2 _ ⟨bs,x0,rfl,_,_,k2⟩;exact SqT.of (k2 _ _ (aw h1r hD) h1r)
 .rintro i m x U H2 hx hm ⟨bs,x0,rfl,h2,hB,k2⟩;have hbl:=hB.length;rw[bu]at hbl;rw[ai]at hm;have hi:i<Re.length:=by
   have:=(aT.mp hx).1;rw[ai]at this;lia
  obtain ⟨b,hb1,hb2⟩:=A1.get hi;rw[aZ,hb1]at hx;have:=aJ hx;subst this;have hmem:ay Re i∈Re:=by
   unfold ay;rw[aF,aA hi];exact cC hi
  have hrl:=hkeys.row i;have htk:Re.take (i+1)=Re.take i++[ay Re i]:=by
   rw[cG hi];unfold ay;rw[aF,aA hi];rfl
  have h2b:=k2 _ _ (aw hb2 hD) hb2;refine fN ?_;refine #[_,rfl,b,ay Re i,rfl,h2b,hR.at_up i,hR.at_key i,by lia,λc H3 hc s3 h3=>?_];have h3D:=s3 _ _ h2;have ncD:∀{x:Addr} {o:List V},H3 x=some (.tup o)->x≠D:=λ{x o} e z=>by
   rw[z,h3D]at e;cases e
  have kD:∀ b o,b≠D->H3 b=some o->upd H3 D (.lst (bs.map V.ref++[.ref c])) b=some o:=λb o n e=>by rw[aj n];exact e
  refine #[_,h3D,bh .(y),m-1,by lia,by rw[ai];lia,bs++[c],_,rfl,?_,?_,λb o n e=>kD _ _ n (s3 _ _ (k2 b o n e))]
  .rw[ag,bw];rfl
  .rw[htk];exact bH.snoc (bH.keep (p:=D) (d:=D) (λa row e=>ncD e) kD (hB.ext s3)) (kD _ _ (ncD h3) h3)
 rintro U H2 ⟨bs,x0,rfl,h2,hB,k2⟩;rw[ai,bG .(a)]at hB;have s2:Same H1 H2:=λb o e=>k2 b o (aw e hD) e;refine #[D,_,rfl,.inl #[SqL.of h2,λrs hrs=>?_]];have s3:=az hrs (.tup (bs.map V.ref));have h3:upd H2 rs (.tup (bs.map V.ref)) rs=some (.tup (bs.map V.ref)):=ag;have s13:=s2.trans s3;have B3:=hB.ext s3;generalize upd H2 rs (.tup (bs.map V.ref))=H3 at s3 h3 s13 B3 ⊢;refine #[λU' H'=>U'=[some (.ref t),some (.ref r),some (.ref rs)]/\Same H3 H',?_,?_]
 .refine #[_,rfl,rs,bs,Re.map List.length,rfl,.inr h3,B3.lens,by rw[ai];lia,λH4 s4=>?_];have hk:(Re.map List.length).sum=dA Re:=rfl;rw[hk];refine #[_,_,rfl,rfl,_,rfl,?_];have hK:=hkeys.k;refine oX .(a) ?_;exact #[rfl,s4]
 rintro U' H4 ⟨rfl,s4⟩;have s04:=s1.trans (s13.trans s4);refine #[_,rfl,_,rfl,.(l),λst hst=>?_];have ss:=az hst (.tup [.ref t,.ref rs]);exact q st rs bs _ (s04.free hst) (s04.trans ss) #[ag,ss _ _ (s04 _ _ ht),ss _ _ (s4 _ _ h3),(B3.ext s4).ext ss,hlen,hT,hR,hfew,hkeys]
def EO {zs:List V}{k:Nat}{x:V}(h:k<zs.length):zs.set k x=zs.take k++[x]++zs.drop (k+1):=by
 rw[List.set_eq_take_append_cons_drop,ak h,il];rfl
inductive uh (K:Frag)(vs:List V)(H:Hp)(Q:VK)(w_1:XK):Prop
 | c:∀(st t rs:Addr) (zs:List V) (k:Nat) (x:V),vs=[.ref st,.int k,x]->H st=some (.tup [.ref t,.ref rs])->H rs=some (.tup zs)->k<zs.length->zs.length<=60->(∀(st' rs':Addr) (H':Hp),Same H H'->H' st'=some (.tup [.ref t,.ref rs'])->H' rs'=some (.tup (zs.set k x))->Q (.ref st') H')->uh K vs H Q w_1
def Nq (T:Txt K mg)(zF:DF K mg "with_row" pY m6):FC P w K mg base 1 "with_row" m6 (uh K):=by
 refine zF.ok Ct .(c) .(b)
 .obtain ⟨st,t,rs,zs,k,x,rfl,_⟩:=h;rfl
 obtain ⟨st,t,rs,zs,k,x,rfl,hst,hrs,hk,hz,q⟩:=h;refine #[_,(aB (aI (i:=3) Ct.nd rfl (av rfl) (aH (bA (K:=K)) (pv 0) ah (λ_ _=>rfl)))
   (au (aK (cE (aa (aH (bA (K:=K)) (pv 0) ah (λ_ _=>rfl)) (aa (aC oV (aC vz (fI (lb (K:=K)) (pv 3) i4 (dr (pv 1))) (cE (aa (pv 2) ae))) (fI (lb (K:=K)) (pv 3) (dr (aC bY (pv 1) ah)) i4)) ae)))))),?_]
 refine #[_,rfl,_,_,_,_,rfl,rfl,SqT.of hst,rfl,?_];refine #[_,rfl,_,_,_,_,rfl,rfl,SqT.of hst,rfl,?_];refine #[_,rfl,_,rfl,_,rfl,rs,zs,rfl,SqT.of hrs,.(ua),λ_ p hp=>?_]
 .have:=z.2;rw[gM]at this;lia
 rw[Ec];have g1:=az hp (.tup (zs.take k));have w1:upd H p (.tup (zs.take k)) p=some (.tup (zs.take k)):=ag;generalize upd H p (.tup (zs.take k))=H1 at g1 w1 ⊢;refine #[_,rfl,.(g),λm hm=>?_];have g2:=az hm (.tup [x]);have w2:upd H1 m (.tup [x]) m=some (.tup [x]):=ag;have w12:=g2 _ _ w1;generalize upd H1 m (.tup [x])=H2 at g2 w2 w12 ⊢;have hl1:(zs.take k).length=k:=by rw[bu];lia
 have rest:∀(u:Addr) (H3:Hp),Same H2 H3->H3 u=some (.tup (zs.take k++[x]))->∀{Q':VK},(∀(v:Addr) (H':Hp),Same H3 H'->H' v=some (.tup (zs.set k x))->Q' (.ref v) H')->∀(p2:Addr) (H4:Hp),Same H3 H4->H4 p2=some (.tup (zs.drop (k+1)))->oU K (.ref u) (.ref p2) H4 Q':=λu H3 _ hu Q' q' p2 H4 s4 hp2=>by
  refine #[u,p2,_,_,rfl,rfl,SqT.of (s4 _ _ hu),SqT.of hp2,by simp,?_,λz=>?_,λz v hv=>?_]
  .refine eS (bh ?_);rw[aS,hl1,eU,cS];lia
  .refine q' u H4 s4 ?_;rw[EO hk,z,bQ];exact s4 _ _ hu
  .refine q' v _ (s4.trans (az hv _)) ?_;rw[ag,EO hk]
 have fin:∀(u:Addr) (H3:Hp),Same H2 H3->H3 u=some (.tup (zs.take k++[x]))->∀(v:Addr) (H':Hp),Same H3 H'->H' v=some (.tup (zs.set k x))->∀ p,H' p=none->Q (.ref p) (upd H' p (.tup [.ref t,.ref v])):=λu H3 s3 _ v H' s' hv p hp=>by
  have gp:=az hp (.tup [.ref t,.ref v]);exact q p v _ (g1.trans (g2.trans (s3.trans (s'.trans gp)))) ag (gp _ _ hv)
 have e1k:(k:Int)+1=((k+1:Nat):Int):=by lia
 refine #[p,m,_,_,rfl,rfl,SqT.of w12,SqT.of w2,by simp,eS (bh (by rw[hl1];show k+1<=1000;lia)),λz=>?_,λz u hu=>?_]
 .have e0:zs.take k++[x]=[x]:=by rw[z];rfl
  refine #[_,rfl,_,rfl,_,_,rfl,rfl,_,rfl,rs,zs,rfl,SqT.of (g2 _ _ (g1 _ _ hrs)),.(ua),λ_ p2 hp2=>?_]
  .have:=z.1;rw[e1k,gM]at this;lia
  rw[e1k,tY];exact rest m H2 (λ_ _ e=>e) (by rw[e0];exact w2) (λv H' s' hv=>#[.(l),fin m H2 (λ_ _ e=>e) (by rw[e0];exact w2) v H' s' hv]) p2 _ (az hp2 _) ag
 .have gu:=az hu (.tup (zs.take k++[x]));have wu:upd H2 u (.tup (zs.take k++[x])) u=some (.tup (zs.take k++[x])):=ag;generalize upd H2 u (.tup (zs.take k++[x]))=H3 at gu wu ⊢;refine #[_,rfl,_,rfl,_,_,rfl,rfl,_,rfl,rs,zs,rfl,SqT.of (gu _ _ (g2 _ _ (g1 _ _ hrs))),.(ua),λ_ p2 hp2=>?_]
  .have:=z.1;rw[e1k,gM]at this;lia
  rw[e1k,tY];exact rest u H3 gu wu (λv H' s' hv=>#[.(l),fin u H3 gu wu v H' s' hv]) p2 _ (az hp2 _) ag
def yb {r:List Int}:∀{Re:List (List Int)} {kn:Nat},kn<Re.length->dA (Re.set kn r)+ .(p).length=dA Re+r.length
 | [],_,h=>absurd h (iR _)
 | a::Re,0,_=>by
  unfold dA;rw[List.set_cons_zero,bL,cK,bL,cK];show r.length+_+a.length=_;lia
 | a::Re,kn+1,h=>by
  have ih:=yb (r:=r) (Re:=Re) (kn:=kn) (Nat.lt_of_succ_lt_succ h);unfold dA at ih ⊢;rw[List.set_cons_succ,bL,cK,bL,cK];have e:ay (a::Re) (kn+1)=ay Re kn:=rfl;rw[e];lia
def yc (n:Int)(xs:List Int):inV (.int n) (xs.map V.int)=decide (n∈xs):=by
 unfold inV
 induction xs with
 | nil=>rfl
 | cons x xs ih=>
  rw[bL,hZ,ih];show (x==n||decide (n∈xs))=decide (n∈x::xs);by_cases h:x=n
  .subst h;simp
  .have h2:¬ n=x:=λz=>h z.symm;simp[h,h2]
def ER :∀{as:List Addr} {Re:List (List Int)},bH H as Re->Paired (lW H) as (Re.map List.length)
 | _,_,.nil=>.nil
 | _,_,.cons h t=>.cons #[_,.inr h,by rw[ai]] (ER t)
section
variable {K:Frag}{H:Hp}{a b:Addr}{xs ys:List V}{n:Nat}{Q:VK}
def ES (h:H a=some (.tup xs))(q:∀ v H',Same H H'->H' v=some (.tup (xs.take n))->Q (.ref v) H'):rSlX K (.ref a) none (some (n:Int)) H Q:=
 #[a,xs,rfl,SqT.of h,λz=>q a H (λ_ _ e=>e) (by
  have:=z.2;rw[gM]at this;rw[bG (by lia)];exact h),λ_ p hp=>q p _ (az hp _) (by rw[ag,Ec])]
def ET (h:H a=some (.tup xs))(q:∀ v H',Same H H'->H' v=some (.tup (xs.drop n))->Q (.ref v) H'):rSlX K (.ref a) (some (n:Int)) none H Q:=
 #[a,xs,rfl,SqT.of h,λz=>q a H (λ_ _ e=>e) (by
  have:=z.1;rw[gM]at this;have e:xs.drop n=xs:=by
   rcases Nat.eq_zero_or_pos n with y|y
   .rw[y];rfl
   .have:xs=[]:=uF.mp .(a);rw[this];exact List.drop_nil
  rw[e];exact h),λ_ p hp=>q p _ (az hp _) (by rw[ag,tY])]
def EU (ha:H a=some (.tup xs))(hb:H b=some (.tup ys))(hy:ys≠[])(hl:xs.length+ys.length<=sizeLine)(q:∀ v H',Same H H'->H' v=some (.tup (xs++ys))->Q (.ref v) H'):vy K (.ref a) (.ref b) H Q:=
 #[a,b,xs,ys,rfl,rfl,SqT.of ha,SqT.of hb,hy,hl,λz=>q b H (λ_ _ e=>e) (by rw[z];exact hb),λ_ p hp=>q p _ (az hp _) ag]
def Nr (ha:H a=some (.tup xs))(hb:H b=some (.tup ys))(hx:xs≠[])(hl:xs.length+ys.length<=sizeLine)(q:∀ v H',Same H H'->H' v=some (.tup (xs++ys))->Q (.ref v) H'):oU K (.ref a) (.ref b) H Q:=
 #[a,b,xs,ys,rfl,rfl,SqT.of ha,SqT.of hb,hx,hl,λz=>q a H (λ_ _ e=>e) (by rw[z,bQ];exact ha),λ_ p hp=>q p _ (az hp _) ag]
end
def yd {H:Hp}{v:Addr}{r:List Int}(hv:H v=some (.tup (r.map V.int))):∀{as:List Addr} {Re:List (List Int)} (kn:Nat),bH H as Re->bH H (as.set kn v) (Re.set kn r)
 | _,_,_,.nil=>.nil
 | _,_,0,.cons _ t=>.cons hv t
 | _,_,kn+1,.cons h t=>.cons h (yd hv kn t)
def Nt {row:List Int}:(putR row x).length=row.length+1:=by
 unfold putR;rw[aS,aS,bu,eU];have:loN row x<=row.length:=eX _ _;show _+1+_=_;lia
def ui (x:bB H Pt pos q)(k:But b H H')(h1:∀ tab,H b≠some (.tbl tab))(h2:∀ f,H b≠some (.ext f)):bB H' Pt pos q:=by
 obtain ⟨tab,e1,e2,e3⟩:=x.ex;refine #[tab,k _ _ (λz=>h1 tab (z ▸ e1)) e1,e2,?_];rcases e3 with e3|⟨c,e3,e4⟩
 .exact .inl e3
 .exact .inr #[c,e3,k _ _ (λz=>h2 _ (z ▸ (show H c=_ from e4))) e4]
def EV (Q:aX r)(k:Nat):Rise (ownE r k):=by
 unfold ownE;exact List.Pairwise.map _ (R:=λa b:Int=>a<b) (λa b (h:a<b)=>fZ.mpr (.inl h)) (Q.at_up k)
def Kd (sh p mp:Addr)(H H':Hp):Prop:=∀ b o,b≠sh->b≠p->b≠mp->H b=some o->H' b=some o
inductive nM (K:Frag)(CS mp:Addr)(f:List Int->Int->List Int)(ok:List .(h)->Nat->Int->Prop)(vs:List V)(H:Hp)(Q:VK)(w_1:XK):Prop
 | c:∀(sh dx st p:Addr) (kn:Nat) (x:Int) (qs:List Addr) (ps:List Nat) (Re:List (List Int)) (t rs:Addr) (as:List Addr),vs=[.ref sh,.int kn,.int x]->cV K CS H sh dx st p qs ps Re t rs as->kn < ps.length+1->nI x->ok Re kn x->bB H mp g5 lamQ->(∀(D:Addr) (us:List V) (m:Nat) (qs':List Addr) (st' rs':Addr) (as':List Addr) (H':Hp),EF ps Re (Re.set kn (f (ay Re kn) x)) kn m->H D=none->(∀ q∈qs',q∈qs\/H q=none)->Kd sh p mp H H'->cV K CS H' sh dx st' p qs' ps (Re.set kn (f (ay Re kn) x)) t rs' as'->bB H' mp g5 lamQ->H' D=some (.lst us)->
  dR K H' D (λb=>H b=none/\b∉qs') (iN ps Re (Re.set kn (f (ay Re kn) x)) kn m) us->Q (.ref D) H')->nM K CS mp f ok vs H Q w_1
def EW (Re:List .(h))(kn:Nat)(x:Int):Prop:=x∉ay Re kn/\Fw (Re.set kn (putR .(p) x))
def EX (Re:List .(h))(kn:Nat)(x:Int):Prop:=x∈ay Re kn
def EY {K:Frag}{st st' rs' v7 t:Addr}{kn:Nat}{r:List Int}(S:cV K CS H sh dx st p qs ps Re t rs as)(S2:cV K CS H2 sh dx st p qs ps Re t rs as)(hT2:bB H2 mp g5 lamQ)
  (g:∀ b o,b≠mp->H b=some o->H2 b=some o) (s28:Same H2 H8) (h7:H8 v7=some (.tup (r.map V.int))) (h8:H8 st'=some (.tup [.ref t,.ref rs'])) (r8:H8 rs'=some (.tup (.(D).set kn (.ref v7)))) (R':aX (Re.set kn r)) (hk:Fw (Re.set kn r)) :
  eE K CS (upd H8 sh .(j)) sh dx st' p qs ps Re (Re.set kn r) t rs' (as.set kn v7) kn 0/\bB (upd H8 sh .(j)) mp g5 lamQ/\(∀ b o,b≠sh->b≠mp->H b=some o->upd H8 sh .(j) b=some o)/\
  (∀{b},upd H8 sh .(j) b=none->H b=none)/\∀{b},upd H8 sh .(j) b=none->b∉qs:=by
 have i8:=s28 _ _ S2.ins;have i9:upd H8 sh .(j) sh=some (.ins CS dx [("kept",.ref st'),("fulls",.ref p)]):=ag;have k9:But sh H8 (upd H8 sh .(j)):=λb o n e=>by rw[aj n];exact e
 generalize upd H8 sh .(j)=H9 at i9 k9 ⊢;have tp9:Tp H8 H9:=k9.tp λus' z=>by rw[i8]at z;cases z
 have l9:∀ b us,H8 b=some .(ia)->H9 b=some .(ia):=λb us e=>k9 b _ (λz=>by rw[z,i8]at e;cases e) e
 have o9:=k9 _ _ (λz=>by have:=S.own;rw[z,S.ins]at this;cases this) (s28 _ _ S2.own)
 have S9:eE K CS H9 sh dx st' p qs ps Re (Re.set kn r) t rs' (as.set kn v7) kn 0:=by
  refine #[o9,i9,#[tp9 _ _ h8,tp9 _ _ (s28 _ _ S2.stand.tr),?_,yd (tp9 _ _ h7) kn (xN (λb us e=>tp9 _ _ (s28 _ _ e)) S2.stand.at_),by rw[nY];exact S.stand.len,S.stand.T,R',S.stand.few,hk],(S2.full.ext s28.ext).tp tp9 l9];rw[jI];exact tp9 _ _ r8
 have T9:=ui (hT2.ext s28.ext) k9 (λtab z=>by rw[i8]at z;cases z) (λf z=>by rw[i8]at z;cases z)
 refine #[S9,T9,λb o n1 n2 e=>k9 b o n1 (s28 _ _ (g b o n2 e)),λ{b} e=>?_,λ{b} e z=>?_]
 .cases eb:H b with
  | none=>rfl
  | some o=>
   by_cases z1:b=sh
   .rw[z1,S9.ins]at e;cases e
   .by_cases z2:b=mp
    .obtain ⟨tab,e1,_⟩:=T9.ex;rw[z2,e1]at e;cases e
    .rw[k9 b o z1 (s28 _ _ (g b o z2 eb))]at e;cases e
 .obtain ⟨i,hi,ei⟩:=cY z;obtain ⟨ws,w1,_⟩:=S9.full.get i b (by rw[aA hi,ei]);rw[e]at w1;cases w1
def Nu (T:Txt K mg)(O:OwnC K mg CS)(zG:DM K CS "put" "Shelf.put" qI sA)(zH:FM P w K mg base CS 4 "row_for" m7 (t8 K CS))(zE:FC P w K mg base 1 "long_together" mZ (ug K))(zI:FC P w K mg base 5 "place" mU (tZ K mp))(zJ:FC P w K mg base 1 "with_row" m6 (uh K))(zK:FM P w K mg base CS 7 "carry_up" m8 (ue K CS)):FM P w K mg base CS 8 "put" sA (nM K CS mp putR EW):=by
 refine zG.ok vY .(c) .(b)
 .obtain ⟨sh,dx,st,p,kn,x,qs,ps,Re,t,rs,as,rfl,_⟩:=h;rfl
 obtain ⟨sh,dx,st,p,kn,x,qs,ps,Re,t,rs,as,rfl,S,hk,hx,⟨hnx,hroom⟩,hT,q⟩:=h;refine #[_,(aB (aI (i:=3) vY.nd rfl (av rfl) (jW zH O.cl hr (pv 0) (aa (pv 1) (aa (pv 2) ae))))
   (cx (bq (aW (BC (K:=K)) (pv 2) (pv 3) (by with_unfolding_all rfl)) (au eh) bE)
   (cx (bq (aW uM (aG zE hr (aa (aH (bA (K:=K)) (fg (pv 0) rfl) ah (λ_ _=>rfl)) ae)) (kY rfl T.E5) (bf _)) (au eh) bE)
   (aB (aI (i:=4) vY.nd rfl (av rfl) (aG zI hr (aa (pv 3) (aa (pv 2) ae))))
   (aB (oP (pv 0) (aG zJ hr (aa (fg (pv 0) rfl) (aa (pv 1) (aa (aC oV (aC vz (fI (lb (K:=K)) (pv 3) i4 (dr (pv 4))) (cE (aa (pv 2) ae))) (fI (lb (K:=K)) (pv 3) (dr (pv 4)) i4)) ae)))) rfl)
   (au (aK (jW zK O.cl hr (pv 0) (aa (pv 1) (aa (bN ae) (aa (bN (aa (cE (aa (pv 2) (aa (pv 1) ae))) ae)) ae))))))))))),?_]
 refine #[_,rfl,sh,dx,_,rfl,S.ins,rfl,_,rfl,_,rfl,sh,dx,st,p,kn,x,qs,ps,Re,t,rs,as,rfl,S,hk,hx,λa ha hrow=>?_];have hfl: .(Ea).all fK=true:=eW.mpr λy hy=>by
  obtain ⟨z,_,rfl⟩:=cA.mp hy;rfl
 refine #[λU' H'=>U'=[some (.ref sh),some (.int kn),some (.int x),some (.ref a),none]/\H=H',?_,?_]
 .refine #[_,rfl,_,rfl,a,_,rfl,.inr (SqT.of hrow),rfl,hfl,_,rfl,?_];show if inV (.int x) .(Ea)=true then _ else _
  rw[yc,bx hnx];exact iteF .(pa)
 rintro _ _ ⟨rfl,rfl⟩;have hfew:=S.stand.few;have hK:=S.stand.keys.k;refine #[λU' H1=>U'=[some (.ref sh),some (.int kn),some (.int x),some (.ref a),none]/\Same H H1,?_,?_]
 .refine #[_,rfl,sh,CS,dx,_,_,rfl,S.ins,O.cl,O.n_kept,rfl,_,_,_,_,rfl,rfl,SqT.of S.stand.st,rfl,rs,as,_,rfl,.inr S.stand.rs,ER S.stand.at_,by rw[ai,S.stand.len];lia,λH1 s1=>?_];refine #[_,_,rfl,rfl,_,rfl,?_];exact oX (show ¬ (300:Int)<=((dA Re:Nat):Int) by lia) #[rfl,s1]
 rintro _ H1 ⟨rfl,s1⟩;have hrow1:=s1 _ _ hrow;refine #[_,rfl,_,rfl,a,ay Re kn,x,rfl,hrow1,S.stand.R.at_up kn,hT.ext s1.ext,λH2 g2 hT2=>?_];obtain ⟨tab,hmp⟩:∃ tab,H1 mp=some (.tbl tab):=by
  obtain ⟨tab,e,_⟩:=(hT.ext s1.ext).ex;exact #[tab,e]
 have keep2:∀{b:Addr} {o:HO},H b=some o->(∀ tab,o≠.tbl tab)->H2 b=some o:=λ{b o} e n=>g2 b o (λz=>by
  rw[z]at e;have:=s1 _ _ e;rw[hmp]at this;exact n _ (aJ this).symm) (s1 _ _ e)
 have tp2:Tp H H2:=λb us e=>keep2 e nofun;have S2:cV K CS H2 sh dx st p qs ps Re t rs as:=#[keep2 S.own nofun,keep2 S.ins nofun,ka tp2 S.stand,S.full.tp tp2 λb us e=>keep2 e nofun];have row2:=tp2 _ _ hrow;refine #[_,rfl,sh,CS,dx,_,_,rfl,S2.ins,O.cl,O.n_kept,rfl,_,rfl,?_];refine #[_,rfl,_,rfl,_,rfl,ES row2 λv3 H3 s3 h3=>?_];refine #[_,rfl,.(g),λv4 hv4=>?_];have s4:=az hv4 (.tup [.int x]);have h4:upd H3 v4 (.tup [.int x]) v4=some (.tup [.int x]):=ag;have h34:=s4 _ _ h3;have row4:=s4 _ _ (s3 _ _ row2);generalize upd H3 v4 (.tup [.int x])=H4 at s4 h4 h34 row4 ⊢;have hrl: .(p).length<=63:=S.stand.keys.row kn;refine EU h34 h4 nofun (eS (bh (by rw[bu,ai];show _+1<=1000;lia))) λv5 H5 s5 h5=>?_;refine #[_,rfl,_,rfl,_,rfl,?_];unfold uT;dsimp only;refine ET (s5 _ _ row4) λv6 H6 s6 h6=>?_;refine Nr (s6 _ _ h5) h6 .(k) (eS (bh (by rw[aS,bu,eU,ai];show _+1+_<=1000;lia))) λv7 H7 s7 h7=>?_;have s27:Same H2 H7:=s3.trans (s4.trans (s5.trans (s6.trans s7)));have er: .(Ea).take (iM .(p) x)++[V.int x]++ .(Ea).drop (iM .(p) x)=(putR .(p) x).map V.int:=by
  unfold putR;rw[bw,bw,iQ,mh];rfl
 rw[er]at h7;have hal:=S.stand.at_.length;refine #[st,t,rs,as.map V.ref,kn,.ref v7,rfl,s27 _ _ S2.stand.st,s27 _ _ S2.stand.rs,by rw[ai,hal,S.stand.len];exact hk,by rw[ai,hal,S.stand.len];lia,λst' rs' H8 s8 h8 r8=>?_];have s28:Same H2 H8:=s27.trans s8;have hkr:kn<Re.length:=by rw[S.stand.len];exact hk
 have R':aX (Re.set kn (putR .(p) x)):=EN S.stand.R (EK (S.stand.R.at_up kn) hnx) λy hy=>by
  rcases xX.mp hy with z|z
  .exact S.stand.R.at_key kn y z
  .rw[z];exact hx
 refine #[_,rfl,sh,CS,dx,_,rfl,s28 _ _ S2.ins,O.cl,O.n_kept,(by show 2<1000;decide),?_];obtain ⟨S9,T9,kd9,al,nq9⟩:=EY (r:=putR .(p) x) S S2 hT2 (λb o n e=>g2 b o n (s1 _ _ e)) s28 (s8 _ _ h7) h8 r8 R' hroom;generalize upd H8 sh .(j)=H9 at S9 T9 kd9 al nq9 ⊢;refine #[_,rfl,sh,dx,_,rfl,S9.ins,rfl,_,rfl,.(B),λg hg=>?_];have s10:=az hg .(V);have g10:upd H9 g .(V) g=some .(V):=ag;generalize upd H9 g .(V)=H10 at s10 g10 ⊢;refine #[_,rfl,_,rfl,.(l),λu hu=>?_];have s11:=az hu .(ya);have u11:upd H10 u .(ya) u=some .(ya):=ag;generalize upd H10 u .(ya)=H11 at s11 u11 ⊢;refine #[.(g),λc hc=>?_];have s12:=az hc (.lst [.ref u]);have c12:upd H11 c (.lst [.ref u]) c=some (.lst [.ref u]):=ag;generalize upd H11 c (.lst [.ref u])=H12 at s12 c12 ⊢;have s92:Same H9 H12:=s10.trans (s11.trans s12);have S12:eE K CS H12 sh dx st' p qs ps Re (Re.set kn (putR .(p) x)) t rs' (as.set kn v7) kn 0:=#[s92 _ _ S9.own,s92 _ _ S9.ins,S9.stand.same s92,S9.full.ext s92.ext];have L:=Er S.stand.T S.stand.R R' hk (lV (Re:=Re) (r:=putR .(p) x));refine #[sh,dx,st',p,g,c,[],[.ref u],kn,qs,ps,Re,Re.set kn (putR .(p) x),t,rs',as.set kn v7,(λb=>H b=none),rfl,S12,hk,lV,S.stand.R,S.stand.len,S.stand.keys,s12 _ _ (s11 _ _ g10),?_,c12,?_,al hg,al (s10.free (s11.free hc)),(nq9 hg),(nq9 (s10.free (s11.free hc))),(λz=>by have z:H p=none:=z;rw[S.full.at_]at z;cases z),(λb z=>al (s92.free z)),λD us m qs' H' st hD hq bb sh' hDl told=>?_]
 .rw[<-L.gone,Nd hkr];exact .nil
 .rw[<-L.come,Ng hkr (S.stand.R.at_up kn) (EV R' kn) hnx];exact .cons #[u,.int x,.int kn,rfl,s12 _ _ u11,rfl,rfl] .nil
 .refine q D us m qs' st' rs' (as.set kn v7) H' st (al (s92.free hD)) (λy hy=>(hq y hy).imp id λz=>al (s92.free z)) (λb o n1 n2 n3 e=>bb b o n2 (s92 _ _ (kd9 b o n1 n3 e))) sh' ?_ hDl told;have:=S12.full.at_;exact ui (T9.ext s92.ext) bb (λtab z=>by rw[this]at z;cases z) (λf z=>by rw[this]at z;cases z)
def Fw.less {Re:List .(h)}{kn:Nat}{r:List Int}(F:Fw Re)(hk:kn<Re.length)(h:r.length<= .(p).length):Fw (Re.set kn r):=λj=>by
 have e:=yb (r:=r) hk;by_cases z:j=kn
 .rw[z,lU hk];have:=F kn;lia
 .rw[lV (Re:=Re) (r:=r) j z];have:=F j;lia
section
variable {K:Frag}{H:Hp}{a b:Addr}{xs ys:List V}{Q:VK}
def Nv (ha:H a=some (.tup xs))(hb:H b=some (.tup ys))(hl:xs.length+ys.length<=sizeLine)(q:∀ v H',Same H H'->H' v=some (.tup (xs++ys))->Q (.ref v) H'):vG K (.ref a) (.ref b) H Q:=
 #[a,b,xs,ys,rfl,rfl,SqT.of ha,SqT.of hb,hl,λz=>q b H (λ_ _ e=>e) (by rw[z];exact hb),λ_=>#[λz=>q a H (λ_ _ e=>e) (by rw[z,bQ];exact ha),λ_ p hp=>q p _ (az hp _) ag]]
end
def Nx (T:Txt K mg)(O:OwnC K mg CS)(zL:DM K CS "out" "Shelf.out" qJ sE)(zH:FM P w K mg base CS 4 "row_for" m7 (t8 K CS))(zI:FC P w K mg base 5 "place" mU (tZ K mp))(zJ:FC P w K mg base 1 "with_row" m6 (uh K))(zK:FM P w K mg base CS 7 "carry_up" m8 (ue K CS)):FM P w K mg base CS 8 "out" sE (nM K CS mp outR EX):=by
 refine zL.ok vZ .(c) .(b)
 .obtain ⟨sh,dx,st,p,kn,x,qs,ps,Re,t,rs,as,rfl,_⟩:=h;rfl
 obtain ⟨sh,dx,st,p,kn,x,qs,ps,Re,t,rs,as,rfl,S,hk,hx,hin,hT,q⟩:=h;refine #[_,(aB (aI (i:=3) vZ.nd rfl (av rfl) (jW zH O.cl hr (pv 0) (aa (pv 1) (aa (pv 2) ae))))
   (cx (bq (aW (la (K:=K)) (pv 2) (pv 3) (by with_unfolding_all rfl)) (au eh) bE)
   (aB (aI (i:=4) vZ.nd rfl (av rfl) (aG zI hr (aa (pv 3) (aa (pv 2) ae))))
   (aB (oP (pv 0) (aG zJ hr (aa (fg (pv 0) rfl) (aa (pv 1) (aa (aC Jb (fI (lb (K:=K)) (pv 3) i4 (dr (pv 4))) (fI (lb (K:=K)) (pv 3) (dr (aC bY (pv 4) ah)) i4)) ae)))) rfl)
   (au (aK (jW zK O.cl hr (pv 0) (aa (pv 1) (aa (bN (aa (cE (aa (pv 2) (aa (pv 1) ae))) ae)) (aa (bN ae) ae)))))))))),?_]
 refine #[_,rfl,sh,dx,_,rfl,S.ins,rfl,_,rfl,_,rfl,sh,dx,st,p,kn,x,qs,ps,Re,t,rs,as,rfl,S,hk,hx,λa ha hrow=>?_];have hfl: .(Ea).all fK=true:=eW.mpr λy hy=>by
  obtain ⟨z,_,rfl⟩:=cA.mp hy;rfl
 refine #[λU' H'=>U'=[some (.ref sh),some (.int kn),some (.int x),some (.ref a),none]/\H=H',?_,?_]
 .refine #[_,rfl,_,rfl,a,_,rfl,.inr (SqT.of hrow),rfl,hfl,_,rfl,?_];show if (!inV (.int x) .(Ea))=true then _ else _
  rw[yc,aV (show x∈ay Re kn from hin)];exact iteF .(pa)
 rintro _ _ ⟨rfl,rfl⟩;have hfew:=S.stand.few;have s1:Same H H:=λ_ _ e=>e;have hrow1:=s1 _ _ hrow;refine #[_,rfl,_,rfl,a,ay Re kn,x,rfl,hrow1,S.stand.R.at_up kn,hT.ext s1.ext,λH2 g2 hT2=>?_];obtain ⟨tab,hmp⟩:∃ tab,H mp=some (.tbl tab):=by
  obtain ⟨tab,e,_⟩:=(hT.ext s1.ext).ex;exact #[tab,e]
 have keep2:∀{b:Addr} {o:HO},H b=some o->(∀ tab,o≠.tbl tab)->H2 b=some o:=λ{b o} e n=>g2 b o (λz=>by
  rw[z]at e;have:=s1 _ _ e;rw[hmp]at this;exact n _ (aJ this).symm) (s1 _ _ e)
 have tp2:Tp H H2:=λb us e=>keep2 e nofun;have S2:cV K CS H2 sh dx st p qs ps Re t rs as:=#[keep2 S.own nofun,keep2 S.ins nofun,ka tp2 S.stand,S.full.tp tp2 λb us e=>keep2 e nofun];have row2:=tp2 _ _ hrow;refine #[_,rfl,sh,CS,dx,_,_,rfl,S2.ins,O.cl,O.n_kept,rfl,_,rfl,?_];refine #[_,rfl,_,rfl,_,rfl,ES row2 λv3 H3 s3 h3=>?_];have hrl: .(p).length<=63:=S.stand.keys.row kn;refine #[_,rfl,_,rfl,_,_,rfl,rfl,_,rfl,?_];unfold uT;dsimp only;rw[show ((iM .(p) x:Nat):Int)+1=((iM .(p) x+1:Nat):Int) from rfl];refine ET (s3 _ _ row2) λv6 H6 s6 h6=>?_;refine Nv (s6 _ _ h3) h6 (eS (bh (by rw[bu,eU,ai];lia))) λv7 H7 s7 h7=>?_;have s27:Same H2 H7:=s3.trans (s6.trans s7);have er: .(Ea).take (iM .(p) x)++ .(Ea).drop (iM .(p) x+1)=(outR .(p) x).map V.int:=by
  unfold outR;rw[bw,iQ,mh];rfl
 rw[er]at h7;have hal:=S.stand.at_.length;refine #[st,t,rs,as.map V.ref,kn,.ref v7,rfl,s27 _ _ S2.stand.st,s27 _ _ S2.stand.rs,by rw[ai,hal,S.stand.len];exact hk,by rw[ai,hal,S.stand.len];lia,λst' rs' H8 s8 h8 r8=>?_];have s28:Same H2 H8:=s27.trans s8;have hkr:kn<Re.length:=by rw[S.stand.len];exact hk
 have R':aX (Re.set kn (outR .(p) x)):=EN S.stand.R ((S.stand.R.at_up kn).sublist (lT _ _)) λy hy=>S.stand.R.at_key kn y ((lT _ _).mem hy);have hol:=(lT .(p) x).length_le;refine #[_,rfl,sh,CS,dx,_,rfl,s28 _ _ S2.ins,O.cl,O.n_kept,(by show 2<1000;decide),?_];obtain ⟨S9,T9,kd9,al,nq9⟩:=EY (r:=outR .(p) x) S S2 hT2 (λb o n e=>g2 b o n (s1 _ _ e)) s28 (s8 _ _ h7) h8 r8 R' (S.stand.keys.less hkr hol);generalize upd H8 sh .(j)=H9 at S9 T9 kd9 al nq9 ⊢;refine #[_,rfl,sh,dx,_,rfl,S9.ins,rfl,_,rfl,_,rfl,_,rfl,.(l),λu hu=>?_];have s10:=az hu .(ya);have u10:upd H9 u .(ya) u=some .(ya):=ag;generalize upd H9 u .(ya)=H10 at s10 u10 ⊢;refine #[.(g),λg hg=>?_];have s11:=az hg (.lst [.ref u]);have g11:upd H10 g (.lst [.ref u]) g=some (.lst [.ref u]):=ag;generalize upd H10 g (.lst [.ref u])=H11 at s11 g11 ⊢;refine #[.(B),λc hc=>?_];have s12:=az hc .(V);have c12:upd H11 c .(V) c=some .(V):=ag;generalize upd H11 c .(V)=H12 at s12 c12 ⊢;have s92:Same H9 H12:=s10.trans (s11.trans s12);have S12:eE K CS H12 sh dx st' p qs ps Re (Re.set kn (outR .(p) x)) t rs' (as.set kn v7) kn 0:=#[s92 _ _ S9.own,s92 _ _ S9.ins,S9.stand.same s92,S9.full.ext s92.ext];have L:=Er S.stand.T S.stand.R R' hk (lV (Re:=Re) (r:=outR .(p) x));refine #[sh,dx,st',p,g,c,[.ref u],[],kn,qs,ps,Re,Re.set kn (outR .(p) x),t,rs',as.set kn v7,(λb=>H b=none),rfl,S12,hk,lV,S.stand.R,S.stand.len,S.stand.keys,s12 _ _ g11,?_,c12,?_,al (s10.free hg),al (s10.free (s11.free hc)),(nq9 (s10.free hg)),(nq9 (s10.free (s11.free hc))),(λz=>by have z:H p=none:=z;rw[S.full.at_]at z;cases z),(λb z=>al (s92.free z)),λD us m qs' H' st hD hq bb sh' hDl told=>?_]
 .rw[<-L.gone,Nh hkr (S.stand.R.at_up kn) (EV S.stand.R kn) hin];exact .cons #[u,.int x,.int kn,rfl,s12 _ _ (s11 _ _ u10),rfl,rfl] .nil
 .rw[<-L.come,Nf hkr];exact .nil
 .refine q D us m qs' st' rs' (as.set kn v7) H' st (al (s92.free hD)) (λy hy=>(hq y hy).imp id λz=>al (s92.free z)) (λb o n1 n2 n3 e=>bb b o n2 (s92 _ _ (kd9 b o n1 n3 e))) sh' ?_ hDl told;have:=S12.full.at_;exact ui (T9.ext s92.ext) bb (λtab z=>by rw[this]at z;cases z) (λf z=>by rw[this]at z;cases z)
def Ny {c A B:Prop}[Decidable c](hc:¬ c)(h:A):if (!decide c)=true then A else B:=by
 rw[bx hc];exact h
def nN (b:Bool)(row:List Int)(x:Int):List Int:=if b then putR row x else outR row x
def uj (Re:List .(h))(kn:Nat)(x:Int)(b:Bool):List .(h):=Re.set kn (nN b .(p) x)
structure gG (H:Hp)(r:Addr)(as:List Addr)(Re:List .(h)):Prop where
 at_:H r=some (.tup .(D))
 Re:bH H as Re
def gG.tp {r:Addr}{Re:List .(h)}(h:gG H r as Re)(e:Tp H H'):gG H' r as Re:=#[e _ _ h.at_,xN e h.Re]
def gG.get {r:Addr}{Re:List .(h)}(h:gG H r as Re){k:Nat}(hk:k<Re.length):∃ a,atI .(D) (k:Int)=some (.ref a)/\H a=some (.tup ((ay Re k).map V.int)):=by
 obtain ⟨a,h1,h2⟩:=h.Re.get hk;exact #[a,eB h1,h2]
def Nz {p:Addr}{o:List V}(s:LS K L d H')(hp:H' p=some (.tup o)):p≠d:=λz=>by
 obtain ⟨_,_,_,e,_⟩:=s.ex;rw[<-z,hp]at e;cases e
def NF {p:Addr}(s:LS K L d H')(hp:H' p=none):p≠d:=λz=>by
 obtain ⟨_,_,_,e,_⟩:=s.ex;rw[<-z,hp]at e;cases e
def gH (s:LS K L d H)(k:Keep d H H'):Tp H H':=λb us e=>k b _ (Nz s e) e
inductive ye (K:Frag)(vs:List V)(H:Hp)(Q:VK)(w_1:XK):Prop
 | c:∀(d L t r:Addr) (ps:List Nat) (Re:List (List Int)) (as:List Addr),vs=[.ref d,.ref t,.ref r]->H t=some (.tup (bS ps))->ps.length<=40->gG H r as Re->Re.length=ps.length+1->aX Re->(∀ k,(ay Re k).length<=62)->LS K L d H->(∀(u:Addr) (kn:Nat) (x:Int) (H':Hp),H u=none->kn<ps.length+1->nI x->H' u=some (.tup [.int kn,.int x,.bl (!decide (x∈ay Re kn))])->Keep d H H'->LS K L d H'->Q (.ref u) H')->ye K vs H Q w_1
def NG (T:Txt K mg)(zM:DF K mg "_law_step" qz r9)(bV:FC P w K mg base 2 "_law_take" gA (gO K))(nR:FC P w K mg base 3 "_law_key" lD (nq K)):FC P w K mg base 4 "_law_step" r9 (ye K):=by
 refine zM.ok qR .(c) .(b)
 .obtain ⟨d,L,t,r,ps,Re,as,rfl,_⟩:=h;rfl
 obtain ⟨d,L,t,r,ps,Re,as,rfl,ht,hps,hR,hlen,R,hz,hs,q⟩:=h;refine #[_,(aB (aI (i:=3) qR.nd rfl (av rfl) (aG bV hr (aa (pv 0) (aa (aN (bF (K:=K)) rfl T.bD bz (aa (pv 1) ae)) ae))))
   (aB (aI (i:=4) qR.nd rfl (av rfl) (aG nR hr (aa (pv 0) ae)))
   (cx (bq (PW.pt (iW (aW ix (aN (bF (K:=K)) rfl T.bD bz (aa (aH (bA (K:=K)) (pv 2) (pv 3) (λ_ _=>rfl)) ae)) ah (bf _)) (iV (aW dH (aG bV hr (aa (pv 0) (aa ah ae))) ah (bf _))))) (au (aI (i:=4) qR.nd rfl (av rfl) (aH (bA (K:=K)) (aH (bA (K:=K)) (pv 2) (pv 3) (λ_ _=>rfl)) (aG bV hr (aa (pv 0) (aa (aN (bF (K:=K)) rfl T.bD bz (aa (aH (bA (K:=K)) (pv 2) (pv 3) (λ_ _=>rfl)) ae)) ae))) (λ_ _=>rfl)))) bE)
   (au (aK (cE (aa (pv 3) (aa (pv 4) (aa (oK (la (K:=K)) (pv 4) (aH (bA (K:=K)) (pv 2) (pv 3) (λ_ _=>rfl)) (by with_unfolding_all rfl)) ae))))))))),?_]
 have el:=cy ps;refine #[_,rfl,_,rfl,_,_,rfl,.inr (SqT.of ht),?_];rw[el];refine #[d,L,((ps.length+1:Nat):Int),rfl,.(ka),hs,λn H1 n0 n1 k1 s1=>?_];obtain ⟨kn,rfl⟩:∃ kn:Nat,n=kn:=#[n.toNat,by lia];have hkn:kn<ps.length+1:=by lia
 refine #[_,rfl,d,L,rfl,s1,λx H2 x0 x1 k2 s2=>?_];have k02:=k1.trans k2;have R2:=hR.tp (gH hs k02);obtain ⟨a,ha,hrow⟩:=R2.get (k:=kn) .(a);have hl:=hz kn;refine #[λU' H'=>∃ x:Int,U'=[some (.ref d),some (.ref t),some (.ref r),some (.int kn),some (.int x)]/\nI x/\Keep d H H'/\LS K L d H',?_,?_]
 .refine #[_,rfl,_,rfl,_,_,_,_,rfl,rfl,SqT.of R2.at_,ha,_,_,rfl,.inr (SqT.of hrow),_,_,rfl,rfl,_,rfl,?_];refine ite2 .(t) .(t)
  .have c':(0:Int)<(.(Ea).length:Int):=bO c;rw[ai]at c';refine #[_,rfl,d,L,2,rfl,by decide,s2,λv H3 _ _ k3 s3=>#[rfl,_,rfl,?_]];have R3:=R2.tp (gH s2 k3);have hrow3:=gH s2 k3 _ _ hrow;refine ite2 .(fa) .(fa)
   .refine #[_,rfl,_,rfl,_,_,_,_,rfl,rfl,SqT.of R3.at_,ha,_,rfl,_,rfl,_,rfl,_,_,_,_,rfl,rfl,SqT.of R3.at_,ha,_,_,rfl,.inr (SqT.of hrow3),?_];rw[ai];refine #[d,L,((.(p).length:Nat):Int),rfl,.(ka),s3,λn H4 n0 n1 k4 s4=>?_];obtain ⟨i,rfl⟩:∃ i:Nat,n=i:=#[n.toNat,by lia];have hi:i< .(p).length:=by lia
    have hrow4:=gH s3 k4 _ _ hrow3;refine #[_,_,_,_,rfl,rfl,SqT.of hrow4,c8 (v:=.int (.(p)[i])) (by rw[aZ,aA hi];rfl),?_];exact #[_,rfl,R.at_key kn _ (cC hi),k02.trans (k3.trans k4),s4]
   .exact #[x,rfl,#[x0,x1],k02.trans k3,s3]
  .refine iteF ?_;exact #[x,rfl,#[x0,x1],k02,s2]
 rintro _ H3 ⟨x,rfl,hx,k3,s3⟩;have R3:=hR.tp (gH hs k3);obtain ⟨a,ha,hrow⟩:=R3.get (k:=kn) .(a);have hfl: .(Ea).all fK=true:=eW.mpr λy hy=>by
  obtain ⟨z,_,rfl⟩:=cA.mp hy;rfl
 refine #[_,rfl,_,rfl,_,rfl,_,rfl,_,rfl,_,_,_,_,rfl,rfl,SqT.of R3.at_,ha,a,_,rfl,.inr (SqT.of hrow),rfl,hfl,.(Z),λu hu=>?_];rw[yc];have su:=az hu (.tup [.int kn,.int x,.bl (!decide (x∈ay Re kn))]);have hu0:H u=none:=by
  cases e:H u with
  | none=>rfl
  | some o=>
   have:=k3 u o (NF s3 hu) e;rw[hu]at this;cases this
 exact q u kn x _ hu0 hkn hx ag (λb o n e=>su _ _ (k3 b o n e)) (s3.same su)
def yf {l:List Int}(h:l.Pairwise .(Ca)):l.Pairwise λa b=>Srt.blt b a=false:=List.Pairwise.imp (λ{a b} (h:a<b)=>bx .(a)) h
def EZ {l:List Int}(h:l.Pairwise .(Ca)):l.Nodup:=List.Pairwise.imp (λ{a b} (q:a<b)=>by lia) h
def NH {l m:List Int}(h1:l.Pairwise .(Ca))(h2:m.Pairwise .(Ca))(e:∀ x,x∈l↔x∈m):l=m:=by
 have p:=(uD (EZ h1) (EZ h2)).mpr e;rw[o8 p (yf h1),Bu (yf h2)]
def NI {row:List Int}{x:Int}(h:row.Pairwise .(Ca))(n:x∉row):cT (row++[x])=putR row x:=by
 refine (o8 ?_ (yf (EK h n))).symm;unfold putR;have:=(List.perm_append_comm (l₁:=[x]) (l₂:=row.drop .(ta))).append_left (row.take .(ta));rwa[<-il,<-il,eY]at this
def NJ {row:List Int}{x:Int}(h:row.Pairwise .(Ca))(hx:x∈row):row.filter (λy=>!decide (y=x))=outR row x:=by
 refine NH (h.sublist List.filter_sublist) (h.sublist (lT _ _)) λy=>?_;rw[EL h hx,d6];simp
inductive yg (K:Frag)(vs:List V)(H:Hp)(Q:VK)(w_1:XK):Prop
 | c:∀(r:Addr) (kn:Nat) (x:Int) (b:Bool) (Re:List (List Int)) (as:List Addr),vs=[.ref r,.int kn,.int x,.bl b]->gG H r as Re->kn<Re.length->Re.length<=60->aX Re->(∀ k,(ay Re k).length<=62)->(b=!decide (x∈ay Re kn))->(∀(r':Addr) (as':List Addr) (H':Hp),H r'=none->Same H H'->gG H' r' as' (uj Re kn x b)->Q (.ref r') H')->yg K vs H Q w_1
def NK (T:Txt K mg)(zN:DF K mg "_law_behind" qA sf):FC P w K mg base 1 "_law_behind" sf (yg K):=by
 refine zN.ok Cw .(c) .(b)
 .obtain ⟨r,kn,x,b,Re,as,rfl,_⟩:=h;rfl
 obtain ⟨r,kn,x,b,Re,as,rfl,hR,hkn,hz0,R,hz,hb,q⟩:=h;refine #[_,(aB (aI (i:=4) Cw.nd rfl (av rfl) (dI (ph (K:=K)) rfl T.g9 boot_list (aa (pv 0) ae)))
   (cx (bq (cL (pv 3)) (au (gr (dI (gQ (K:=K)) rfl T.fB boot_tuple (aa (aN (Cf Int) rfl T.lY boot_sorted (aa (aC vz (aH (bg (K:=K)) (pv 4) (pv 1) (λ_ _=>rfl)) (cE (aa (pv 2) ae))) ae)) ae)) (iw (pv 4) (pv 1) iz))) (au (gr (dI (gQ (K:=K)) rfl T.fB boot_tuple (aa (fM (N:=["_law_other","_law_key_here"]) (own:=1) (cap:=[2]) rfl (gx (aH (bg (K:=K)) (pv 4) (pv 1) (λ_ _=>rfl))) #[rfl,rfl,rfl,rfl,rfl,rfl] (λ_ _ _ _ _=>(aO (i:=0) (show List.Nodup (["_law_other","_law_key_here"]:List Str) by decide +kernel) rfl (av rfl))) (λ_ _ _ _ _=>(gP (aW uK (pv 0) (pv 1) (bf _)))) (λ_ _ _ _ _=>(pv 0))) ae)) (iw (pv 4) (pv 1) iz))))
   (au (aK (dI (gQ (K:=K)) rfl T.fB boot_tuple (aa (pv 4) ae)))))),?_]
 obtain ⟨a,ha,hrow⟩:=hR.get hkn;have hl:=hz kn;have hal:=hR.Re.length;refine #[_,rfl,r,_,rfl,.inr (SqT.of hR.at_),λl hl0=>?_];have s1:=az hl0 (.lst .(D));have h1:upd H l (.lst .(D)) l=some (.lst .(D)):=ag;generalize upd H l (.lst .(D))=H1 at s1 h1 ⊢;refine #[λU' H'=>∃ v:Addr,U'=[some (.ref r),some (.int kn),some (.int x),some (.bl b),some (.ref l)]/\H' l=some (.lst (.(D).set kn (.ref v)))/\H' v=some (.tup ((nN b .(p) x).map V.int))/\Same H H',?_,?_]
 .have ha1:=s1 _ _ hrow;have nal:∀{c:Addr} {us:List V} {H':Hp},H' l=some (.lst .(D))->H' c=some (.tup us)->c≠l:=λe1 e2 z=>by rw[z,e1]at e2;cases e2
  have fin:∀(v:Addr) (H':Hp),Same H1 H'->H' v=some (.tup ((nN b .(p) x).map V.int))->∃ v':Addr,[some (V.ref r),some (.int kn),some (.int x),some (.bl b),some (.ref l)]=[some (.ref r),some (.int kn),some (.int x),some (.bl b),some (.ref l)]/\upd H' l (.lst (.(D).set kn (.ref v))) l=some (.lst (.(D).set kn (.ref v')))/\upd H' l (.lst (.(D).set kn (.ref v))) v'=some (.tup ((nN b .(p) x).map V.int))/\Same H (upd H' l (.lst (.(D).set kn (.ref v)))):=λv H' s' hv=>
   #[v,rfl,ag,by rw[aj (nal (s' _ _ h1) hv)];exact hv,λc o e=>by rw[aj (aw e hl0)];exact s' _ _ (s1 _ _ e)]
  refine #[_,rfl,_,rfl,?_];cases b with
  | true=>
   refine iteT ?_;have hx:x∉ay Re kn:=λz=>by rw[aV z]at hb;cases hb
   refine #[_,rfl,_,rfl,_,_,_,_,rfl,rfl,SqL.of h1,ha,_,rfl,.(g),λu hu=>?_];have s2:=az hu (.tup [.int x]);have h2:upd H1 u (.tup [.int x]) u=some (.tup [.int x]):=ag;generalize upd H1 u (.tup [.int x])=H2 at s2 h2 ⊢;refine EU (s2 _ _ ha1) h2 nofun (eS (bh (by rw[ai];show _+1<=1000;lia))) λv3 H3 s3 h3=>?_;rw[show .(p).map V.int++[V.int x]=(ay Re kn++[x]).map V.int by rw[bw];rfl]at h3;refine #[v3,_,ay Re kn++[x],rfl,SqT.of h3,aD.ints,(by rw[aS,cS];lia),λl4 ws hl4 hw=>?_];rw[hw.toInts,NI (R.at_up kn) hx];have s4:=az hl4 (.lst ((putR .(p) x).map V.int));refine #[l4,_,rfl,.inl #[SqL.of ag,λv5 hv5=>?_]];have s5:=az hv5 (.tup ((putR .(p) x).map V.int));have s15:Same H1 _:=s2.trans (s3.trans (s4.trans s5));refine #[_,rfl,_,rfl,l,_,_,kn,rfl,rfl,s15 _ _ h1,iK (by rw[ai,hal];exact hkn),?_];exact fin v5 _ s15 ag
  | false=>
   refine iteF ?_;have hx:x∈ay Re kn:=Classical.byContradiction λz=>by rw[bx z]at hb;cases hb
   refine #[_,rfl,_,rfl,_,_,_,_,rfl,rfl,SqL.of h1,ha,a,rfl,#[_,SqT.of ha1],λD hD=>?_];refine jT (xs:= .(p).map V.int) (λi U H2=>∃ x0:Option V,U=[x0,some (.int x)]/\H2 D=some (.lst (((.(p).take i).filter (λy=>!decide (y=x))).map V.int))/\But D H1 H2) ?_ ?_ ?_ ?_
   .exact .(m)
   .rintro i U H2 _ ⟨x0,rfl,_,k2⟩;exact SqT.of (k2 _ _ (aw ha1 hD) ha1)
   .rintro i m v U H2 hv hm ⟨x0,rfl,h2,k2⟩;rw[ai]at hm;rw[aZ]at hv;obtain ⟨y,hy,rfl⟩:=gI.mp hv;obtain ⟨hi,rfl⟩:=aT.mp hy;have hfl:=eX (λy=>!decide (y=x)) (.(p).take i);rw[bu]at hfl;rw[cG hi,dg];refine #[_,rfl,_,rfl,rfl,_,rfl,?_];by_cases c: .(p)[i]=x
    .refine kU (show V.int _=V.int _ by rw[c]) ?_;refine #[m-1,by lia,by rw[ai];lia,_,rfl,?_,k2];rw[fE (by rw[aV c];decide),mj,bQ];exact h2
    .refine Ny (λz=>c (V.int.inj z)) ?_;refine #[_,rfl,_,h2,bh .(y),m-1,by lia,by rw[ai];lia,_,rfl,?_,λb o n e=>by rw[aj n];exact k2 b o n e];rw[ag,dE (by rw[bx c];rfl),mj,bw];rfl
   .rintro U H2 ⟨x0,rfl,h2,k2⟩;rw[ai,bG (aq _),NJ (R.at_up kn) hx]at h2;have s2:Same H1 H2:=λb o e=>k2 b o (aw e hD) e;refine #[D,_,rfl,.inl #[SqL.of h2,λv5 hv5=>?_]];have s15:Same H1 _:=s2.trans (az hv5 (.tup ((outR .(p) x).map V.int)));refine #[_,rfl,_,rfl,l,_,_,kn,rfl,rfl,s15 _ _ h1,iK (by rw[ai,hal];exact hkn),?_];exact fin v5 _ s15 ag
 rintro _ H2 ⟨v,rfl,h2,hv,s2⟩;refine #[_,rfl,l,_,rfl,.inl #[SqL.of h2,λr' hr'=>?_]];have s3:=az hr' (.tup (.(D).set kn (.ref v)));have s03:=s2.trans s3;refine q r' (as.set kn v) _ (s2.free hr') s03 #[?_,yd (s3 _ _ hv) kn (hR.Re.ext s03)];rw[ag,jI]
def dl (Av:List Addr)(H:Hp):Hp:=λb=>if b∈Av then none else H b
section
variable {Av:List Addr}{H H':Hp}
def NR {b:Addr}(h:b∉Av):dl Av H b=H b:=ao h
def NS:Same (dl Av H) H:=λb o e=>by
 unfold dl at e;split at e
 .cases e
 .exact e
def NT (k:KpV Av H H'):Same (dl Av H) (dl Av H'):=λb o e=>by
 unfold dl at e ⊢;split at e
 .cases e
 .rename_i n;rw[ao n];exact k b o n e
def E1 {b:Addr}{o:HO}(e:H b=some o)(h:b∉Av):dl Av H b=some o:=by rw[NR h];exact e
end
def optL (ps:List Nat):List (Option Int):=none::ps.map λ(p:Nat)=>some (Int.ofNat p)
def E2 {K:Frag}(ps:List Nat):aD K H (optL ps) (bS ps):=by
 refine .cons rfl ?_
 induction ps with
 | nil=>exact .nil
 | cons p ps ih=>exact .cons rfl ih
def yh {K:Frag}:∀{as:List Addr} {Re:List (List Int)},bH H as Re->aD K H (Re.map Tup.mk) .(D)
 | _,_,.nil=>.nil
 | _,_,.cons h t=>.cons #[_,_,rfl,SqT.of h,aD.ints] (yh t)
abbrev StD:Type:=Tup (Option Int)×Tup (Tup Int)
def yi (ps:List Nat)(Re:List .(h)):StD:=(#[optL ps],#[Re.map Tup.mk])
def NU {K:Frag}{st t:Addr}(S:dw H st ps Re t rs as):Rep.has K H (yi ps Re) (.ref st):=
 #[st,_,_,rfl,S.st,#[_,_,rfl,SqT.of S.tr,E2 ps],#[_,_,rfl,SqT.of S.rs,yh S.at_]]
structure Tab3 (m0 mF mS:Addr)(H:Hp):Prop where
 p:bB H m0 g5 lamQ
 f:bB H mF j9 j8
 s:bB H mS Ej Ei
 n:[m0,mF,mS].Nodup
def K3 (m0 mF mS:Addr)(H H':Hp):Prop:=∀ b o,b∉[m0,mF,mS]->H b=some o->H' b=some o
section
variable {m0 mF mS:Addr}{H H1 H':Hp}
def K3.of (a:Same H H'):K3 m0 mF mS H H':=λc o _ h=>a c o h
def NV (x:bB H m pos q)(k:Kp0 H H')(e:∀ o,H m=some o->H' m=some o):bB H' m pos q:=by
 obtain ⟨tab,h1,h2,h3⟩:=x.ex;refine #[tab,e _ h1,h2,?_];rcases h3 with h3|⟨c,h3,h4⟩
 .exact .inl h3
 .exact .inr #[c,h3,k _ _ nofun h4]
def Tab3.nt (x:Tab3 m0 mF mS H){b:Addr}{o:HO}(h:H b=some o)(n:∀ tab,o≠.tbl tab):b∉[m0,mF,mS]:=λz=>by
 simp only[aU,cJ,or_false]at z;have:∃ tab,H b=some (.tbl tab):=by
  rcases z with rfl|rfl|rfl
  .exact fR x.p
  .exact fR x.f
  .exact fR x.s
 obtain ⟨tab,e⟩:=this;rw[h]at e;exact n _ (aJ e)
def Tab3.k0 (x:Tab3 m0 mF mS H)(k:K3 m0 mF mS H H'):Kp0 H H':=λb o n e=>k b o (x.nt e n) e
def Tab3.same (x:Tab3 m0 mF mS H)(e:Same H H'):Tab3 m0 mF mS H':=#[x.p.ext e.ext,x.f.ext e.ext,x.s.ext e.ext,x.n]
def Tab3.ts (x:Tab3 m0 mF mS H):TabS mF mS H:=#[x.f,x.s,λz=>by
 have:=x.n;simp[z]at this]
def Tab3.gS (x:Tab3 m0 mF mS H)(k:Kp2 mF mS H H')(t:TabS mF mS H'):Tab3 m0 mF mS H'/\K3 m0 mF mS H H':=by
 have n:=x.n;simp only[dD,aU,cJ,or_false,not_or]at n;exact #[#[NV x.p (k.kp0 x.ts) λo e=>k _ _ n.1.1 n.1.2 e,t.f,t.s,x.n],λb o nb e=>k b o (λz=>nb (by simp[z])) (λz=>nb (by simp[z])) e]
end
section
variable {H H':Hp}
def NW (k:Kp0 H H'):Kp0 (dl Av H) (dl Av H'):=λb o n e=>by
 unfold dl at e ⊢;split at e
 .cases e
 .rename_i z;rw[ao z];exact k b o n e
end
def Tab3.ext (x:Tab3 m0 mF mS H)(e:Ext H H'):Tab3 m0 mF mS H':=#[x.p.ext e,x.f.ext e,x.s.ext e,x.n]
structure SNow (K:Frag)(CS m0 mF mS a:Addr)(H:Hp)(d sh p:Addr)(qs:List Addr)(ps:List Nat)(Re:List .(h)):Prop where
 shelf:∃ dx st t rs as,cV K CS H sh dx st p qs ps Re t rs as
 tab:Tab3 m0 mF mS H
 ls:LS K a d (dl [sh,p,m0,mF,mS] H)
section
variable {K:Frag}{CS m0 mF mS a d sh p dx st t rs:Addr}{H H':Hp}{qs as:List Addr}{ps:List Nat}{Re:List .(h)}
def cV.k0 (S:cV K CS H sh dx st p qs ps Re t rs as)(k:Kp0 H H'):cV K CS H' sh dx st p qs ps Re t rs as:=#[k _ _ nofun S.own,k _ _ nofun S.ins,ML k S.stand,S.full.tp (λ_ _ e=>k.tup e) λ_ _ e=>k.lst e]
def cV.ext (S:cV K CS H sh dx st p qs ps Re t rs as)(e:Ext H H'):cV K CS H' sh dx st p qs ps Re t rs as:=#[e _ _ S.own nofun,e _ _ S.ins nofun,ka (λb us h=>e _ _ h nofun) S.stand,S.full.ext e]
def SNow.lsH (h:SNow K CS m0 mF mS a H d sh p qs ps Re):LS K a d H:=h.ls.same NS
def SNow.k3 (h:SNow K CS m0 mF mS a H d sh p qs ps Re)(k:K3 m0 mF mS H H')(T':Tab3 m0 mF mS H'):SNow K CS m0 mF mS a H' d sh p qs ps Re:=by
 obtain ⟨dx,st,t,rs,as,S⟩:=h.shelf;exact #[#[dx,st,t,rs,as,S.k0 (h.tab.k0 k)],T',Eh h.ls (NW (h.tab.k0 k))]
def SNow.same (h:SNow K CS m0 mF mS a H d sh p qs ps Re)(s:Same H H'):SNow K CS m0 mF mS a H' d sh p qs ps Re:=h.k3 (.of s) (h.tab.same s)
def NX (s:LS K L d (dl Bv H))(k:Keep d H H')(s':LS K L d H'):LS K L d (dl Bv H'):=by
 obtain ⟨ns,a,l,e,q⟩:=s.ex;obtain ⟨ns',a',l',e',_⟩:=s'.ex;have nd:d∉Bv:=λz=>by
  unfold dl at e;rw[ak z]at e;cases e
 have k':Keep d (dl Bv H) (dl Bv H'):=λb o n h=>by
  unfold dl at h ⊢;split at h
  .cases h
  .rename_i nb;rw[ao nb];exact k b o n h
 exact #[ns,a',l',E1 e' nd,oY e k' q]
def SNow.take (h:SNow K CS m0 mF mS a H d sh p qs ps Re)(k:Keep d H H')(s:LS K a d H'):SNow K CS m0 mF mS a H' d sh p qs ps Re:=by
 obtain ⟨dx,st,t,rs,as,S⟩:=h.shelf;have e:=h.lsH.ext k;exact #[#[dx,st,t,rs,as,S.ext e],h.tab.ext e,NX h.ls k s]
def Tab3.deed (x:Tab3 m0 mF mS H)(k:∀ b o,b≠sh->b≠p->b≠m0->H b=some o->H' b=some o)(h1:∃ f,H sh=some (.ins CS dx f))(h2:∃ us,H p=some .(ia))(t:bB H' m0 g5 lamQ):Tab3 m0 mF mS H':=by
 have n:=x.n;simp only[dD,aU,cJ,or_false,not_or]at n;obtain ⟨f1,h1⟩:=h1;obtain ⟨f2,h2⟩:=h2;have one:∀{m:Addr} {pos:Pos} {q:Str},m≠m0->bB H m pos q->bB H' m pos q:=λ{m pos q} nm x0=>by
  obtain ⟨tab,e1,e2,e3⟩:=x0.ex;refine #[tab,k _ _ (λz=>by rw[z,h1]at e1;cases e1) (λz=>by rw[z,h2]at e1;cases e1) nm e1,e2,?_]
  rcases e3 with e3|⟨c,e3,e4⟩
  .exact .inl e3
  .have e5:H c=_:=e4;obtain ⟨tb,eb⟩:=fR x.p;exact .inr #[c,e3,k _ _ (λz=>by rw[z,h1]at e5;cases e5) (λz=>by rw[z,h2]at e5;cases e5) (λz=>by rw[z,eb]at e5;cases e5) e5]
 exact #[t,one (bt n.1.1) x.f,one (bt n.1.2) x.s,x.n]
def SNow.deed (h:SNow K CS m0 mF mS a H d sh p qs ps Re)(k:∀ b o,b≠sh->b≠p->b≠m0->H b=some o->H' b=some o)(S':cV K CS H' sh dx' st' p qs' ps' Rc t' rs' as')(t:bB H' m0 g5 lamQ):SNow K CS m0 mF mS a H' d sh p qs' ps' Rc/\Tp H H':=by
 obtain ⟨dx,st,t1,rs,as,S⟩:=h.shelf;have kv:KpV [sh,p,m0,mF,mS] H H':=λb o n e=>k b o (λz=>n (by simp[z])) (λz=>n (by simp[z])) (λz=>n (by simp[z])) e;refine #[#[#[dx',st',t',rs',as',S'],h.tab.deed (CS:=CS) (dx:=dx) k #[_,S.ins] #[_,S.full.at_] t,h.ls.same (NT kv)],λb us e=>k b _ .(ua) .(ua) .(ua) e]
 .rw[z,S.ins]at e;cases e
 .rw[z,S.full.at_]at e;cases e
 .obtain ⟨tb,eb⟩:=fR h.tab.p;rw[z,eb]at e;cases e
def SNow.new (s0:LS K a d H0)(hT:Tab3 m0 mF mS H0)(s:Same H0 H)(hsh:H0 sh=none)(hp:H0 p=none)(S:cV K CS H sh dx st p qs ps Re t rs as):SNow K CS m0 mF mS a H d sh p qs ps Re:=by
 refine #[#[dx,st,t,rs,as,S],hT.same s,Eh s0 λb o n e=>E1 (s _ _ e) λz=>?_];rcases aU.mp z with z|z
 .rw[z,hsh]at e;cases e
 rcases aU.mp z with z|z
 .rw[z,hp]at e;cases e
 exact hT.nt e n z
end
inductive yj (K:Frag)(CS:Addr)(vs:List V)(H:Hp)(Q:VK)(w_1:XK):Prop
 | c:∀(sh dx st p t rs:Addr) (ps:List Nat) (x key:V),vs=[.ref sh,x,key]->H sh=some (.ins CS dx [("kept",.ref st),("fulls",.ref p)])->H st=some (.tup [.ref t,.ref rs])->H t=some (.tup (bS ps))->ps.length<=900->NoW K ps x H->(∀ H',Same H H'->Q (.bl true) H')->yj K CS vs H Q w_1
def NY (T:Txt K mg){dS eF aR eG eJ eK eL eN eO eP eQ eR gf:Addr}(CL:Cls K mg dS eF aR eG eJ eK eL eN eO eP eQ eR gf)(O:OwnC K mg CS)(zO:DF K mg "_law_refused" qB si)(zP:FMX P w K mg base CS 8 "find" m9 (EA K CS mF mS aR)):FC P w K mg base 9 "_law_refused" si (yj K CS):=by
 refine zO.ok qS .(c) .(b)
 .obtain ⟨sh,dx,st,p,t,rs,ps,x,key,rfl,_⟩:=h;rfl
 obtain ⟨sh,dx,st,p,t,rs,ps,x,key,rfl,hi,hst,ht,hp,hN,q⟩:=h;refine #[_,(aB (aI (i:=3) qS.nd rfl (av rfl) jK)
   (cx (JB (i:=4) (JF zP O.cl hr (pv 0) (aa (pv 1) (aa (pv 2) ae))) rfl rfl qS.nd rfl rfl CL.Ow rfl (λ_=>(au (aI (i:=3) qS.nd rfl (av rfl) (pv 4)))))
   (cx (bq (cL (aN vO rfl T.fS boot_isinstance (aa (pv 3) (aa (cE (aa (fV (v:=.ref eK) rfl CL.OB rfl) (aa (fV (v:=.ref eO) rfl CL.OE rfl) (aa (fV (v:=.ref eN) rfl CL.OD rfl) (aa (fV (v:=.ref eP) rfl CL.OF rfl) (aa (fV (v:=.ref eL) rfl CL.OC rfl) (aa (fV (v:=.ref eQ) rfl CL.OG rfl) (aa (fV (v:=.ref eG) rfl CL.Oz rfl) (aa (fV (v:=.ref eR) rfl CL.OH rfl) (aa (fV (v:=.ref eF) rfl CL.Ox rfl) (aa (fV (v:=.ref eJ) rfl CL.OA rfl) ae))))))))))) ae)))) (au (aK cZ)) bE)
   (au (aK (oI (aN vO rfl T.fS boot_isinstance (aa (pv 3) (aa (fV (v:=.ref aR) rfl CL.Oy rfl) ae))) (oH (aN vO rfl T.fS boot_isinstance (aa (pv 3) (aa (eZ (v:=.ty "ValueError") rfl T.Oj (by decide +kernel) rfl) ae)))))))))),?_]
 refine #[λU' H'=>∃ a,U'=[some (.ref sh),some x,some key,some (.ref a),none]/\H' a=some (jh a .(P))/\Same H H',?_,?_]
 .refine #[_,rfl,sh,dx,_,rfl,hi,rfl,_,rfl,_,rfl,.inr #[sh,dx,st,p,t,rs,ps,x,key,rfl,hi,hst,ht,hp,hN,λH' s'=>#[aR,rfl,CL.OJ,λa ha=>#[_,rfl,a,rfl,ag,s'.trans (az ha _)]]]]
 rintro U' H1 ⟨a,rfl,ha,s1⟩;refine #[λU' H'=>U'=[some (.ref sh),some x,some key,some (.ref a),none]/\Same H1 H',?_,?_]
 .refine #[_,rfl,(by show 10<=sizeLine;decide),λtp htp=>?_];have st:=az htp (.tup [.ref eK,.ref eO,.ref eN,.ref eP,.ref eL,.ref eQ,.ref eG,.ref eR,.ref eF,.ref eJ]);refine #[a,aR,_,false,rfl,st _ _ ha,CL.yt,.inr (.inr #[tp,[eK,eO,eN,eP,eL,eQ,eG,eR,eF,eJ],rfl,ag,by show W.kitAny K _ _=_;simp only[List.map,W.kitAny,CL.OP,CL.OS,CL.OR,CL.OT,CL.OQ,CL.OU,CL.ON,CL.OV,CL.OL,CL.OO]]),_,rfl,?_];exact iteF #[rfl,st]
 rintro U' H2 ⟨rfl,s2⟩;have h2:=s2 _ _ ha;refine #[_,rfl,a,aR,_,true,rfl,h2,CL.yt,.inl #[_,rfl,CL.OM],_,rfl,?_];refine iteT ?_;refine #[_,rfl,a,aR,_,true,rfl,h2,CL.yt,.inr (.inl #[_,rfl,CL.OK]),?_];exact q _ (s1.trans s2)
inductive yk (K:Frag)(vs:List V)(H:Hp)(Q:VK)(w_1:XK):Prop
 | c:∀(d L r wa:Addr) (ps w:List Nat) (Re:List (List Int)) (as:List Addr),vs=[.ref d,.ref r,.ref wa]->gG H r as Re->Re.length=ps.length+1->(∀ k,(ay Re k).length<=62)->dB H wa ps w->LS K L d H->(∀(key:Int) (H':Hp),Keep d H H'->LS K L d H'->Q (.int key) H')->yk K vs H Q w_1
def NZ (T:Txt K mg)(zQ:DF K mg "_law_sought" qD sm)(bV:FC P w K mg base 2 "_law_take" gA (gO K))(nR:FC P w K mg base 3 "_law_key" lD (nq K)):FC P w K mg base 4 "_law_sought" sm (yk K):=by
 refine zQ.ok qT .(c) .(b)
 .obtain ⟨d,L,r,wa,ps,w,Re,as,rfl,_⟩:=h;rfl
 obtain ⟨d,L,r,wa,ps,w,Re,as,rfl,hR,hlen,hz,W,hs,q⟩:=h;refine #[_,(aB (aI (i:=3) qT.nd rfl (av rfl) (aG nR hr (aa (pv 0) ae)))
   (aB (aI (i:=4) qT.nd rfl (av rfl) (aH (bA (K:=K)) (pv 1) (aH (bg (K:=K)) (pv 2) (aG bV hr (aa (pv 0) (aa (aN (bF (K:=K)) rfl T.bD bz (aa (pv 2) ae)) ae))) (λ_ _=>rfl)) (λ_ _=>rfl)))
   (cx (bq (PW.pt (iW (aW ix (aN (bF (K:=K)) rfl T.bD bz (aa (pv 4) ae)) ah (bf _)) (iV (aW ix (aG bV hr (aa (pv 0) (aa ah ae))) ah (bf _))))) (au (aI (i:=3) qT.nd rfl (av rfl) (aC c6 (aC bY (aH (bA (K:=K)) (pv 4) (aG bV hr (aa (pv 0) (aa (aN (bF (K:=K)) rfl T.bD bz (aa (pv 4) ae)) ae))) (λ_ _=>rfl)) (aG bV hr (aa (pv 0) (aa ah ae)))) ah))) bE)
   (au (aK (aN (oN rfl) rfl T.uk boot_max (aa (aC c6 ah (aC i0 ah ah)) (aa (aN (Ap rfl) rfl T.yq boot_min (aa (aC c6 (aC i0 ah ah) ah) (aa (pv 3) ae))) ae)))))))),?_]
 have hwl:=W.len;have hw0:0<w.length:=mn.mpr W.ne;have nw:wa≠d:=λz=>by
  obtain ⟨_,_,_,e,_⟩:=hs.ex;rw[<-z,W.at_]at e;cases e
 refine #[_,rfl,d,L,rfl,hs,λx H1 x0 x1 k1 s1=>?_];have W1:=k1 _ _ nw W.at_;refine #[_,rfl,_,rfl,_,rfl,_,rfl,_,_,rfl,.inl (SqL.of W1),d,L,_,rfl,by rw[ai];lia,s1,λn H2 n0 n1 k2 s2=>?_];rw[ai]at n1;obtain ⟨i,rfl⟩:∃ i:Nat,n=i:=#[n.toNat,by lia];have W2:=k2 _ _ nw W1;have k02:=k1.trans k2;have R2:=hR.tp (gH hs k02);obtain ⟨a,ha,hrow⟩:=R2.get (k:=w.getD i 0) (by rw[hlen];exact W.kn _ (Eb .(a)));refine #[_,_,_,_,rfl,rfl,SqL.of W2,gW .(a),_,_,_,_,rfl,rfl,SqT.of R2.at_,ha,?_];have hl:=hz (w.getD i 0);refine #[λU' H'=>∃ y:Int,U'=[some (.ref d),some (.ref r),some (.ref wa),some (.int y),some (.ref a)]/\Keep d H H'/\LS K L d H',?_,?_]
 .refine #[_,rfl,_,_,rfl,.inr (SqT.of hrow),_,_,rfl,rfl,_,rfl,?_];refine ite2 .(t) .(t)
  .have c':(0:Int)<(((ay Re (w.getD i 0)).map V.int).length:Int):=bO c;rw[ai]at c';refine #[_,rfl,d,L,3,rfl,by decide,s2,λv H3 _ _ k3 s3=>#[_,_,rfl,rfl,_,rfl,?_]];have hrow3:=gH s2 k3 _ _ hrow;refine ite2 .(fa) (λ_=>#[x,rfl,k02.trans k3,s3]);refine #[_,rfl,_,rfl,_,rfl,_,_,rfl,.inr (SqT.of hrow3),d,L,_,rfl,by rw[ai];lia,s3,λn H4 n0 n1 k4 s4=>?_];rw[ai]at n1;obtain ⟨j,rfl⟩:∃ j:Nat,n=j:=#[n.toNat,by lia];have hrow4:=gH s3 k4 _ _ hrow3;have hj:j<(ay Re (w.getD i 0)).length:=by lia
   refine #[_,_,_,_,rfl,rfl,SqT.of hrow4,c8 (v:=.int ((ay Re (w.getD i 0))[j])) (by rw[aZ,aA hj];rfl),?_];refine #[_,rfl,d,L,3,rfl,by decide,s4,λv5 H5 _ _ k5 s5=>?_];exact #[_,_,rfl,rfl,_,_,rfl,rfl,_,rfl,k02.trans (k3.trans (k4.trans k5)),s5]
  .exact #[x,rfl,k02,s2]
 rintro _ H6 ⟨y,rfl,k6,s6⟩;have cp:CPow 10 60:=by unfold CPow;decide
 exact #[_,_,rfl,rfl,cp,_,_,rfl,rfl,_,_,rfl,rfl,cp,_,_,rfl,rfl,_,rfl,_,_,rfl,_,_,rfl,q _ H6 k6 s6]
def N7 {K:Frag}{H:Hp}{b D:Addr}{row:List Int}{key:Int}{U:L2.St}{Q:Hp->Prop}(hb:H b=some (.tup (row.map V.int)))(hD:H D=none)(hz:row.length<=63)(hst:U=[none,some (.int key)])(q:∀ H',Same H H'->H' D=some (.lst ((row.filter λx=>decide (x<key)).map V.int))->Q H') :
  ∃ W:Nat->Nat->L2.St->Hp->Prop,(∃ m,W 0 m U (upd H D .(V)))/\∀ i m U H,W i m U H->((Itt K b).stop i H/\Q H)\/((Itt K b).go i H/\∀ x H',(Itt K b).yld i H x H'->jM 0 x U H' λU2 H2=>uN (tOp (rI0 λi j=>.bl (decide (i<j))) (tVar 0) (tVar 1)) U2 H2 λb H3=>if b=true then tVar 0 U2 H3 λy H4=>∃ xs,H4 D=some (.lst xs)/\xs.length<sizeLine/\∃ m',m'<m/\W (i+1) m' U2 (upd H4 D (.lst (xs++[y]))) else ∃ m',m'<m/\W (i+1) m' U2 H3):=by
 rw[hst];refine jT (xs:=row.map V.int) (λj U H5=>∃(x0:Option V),U=[x0,some (.int key)]/\H5 D=some (.lst (((row.take j).filter λx=>decide (x<key)).map V.int))/\But D H H5) ?_ ?_ ?_ ?_
 .exact .(m)
 .rintro j U H5 _ ⟨x0,rfl,_,k5⟩;exact SqT.of (k5 _ _ (aw hb hD) hb)
 .rintro j m x U H5 hx hm ⟨x0,rfl,h5,k5⟩;rw[aZ]at hx;obtain ⟨y,hy,rfl⟩:=gI.mp hx;have hj:=(aT.mp hy).1;rw[ai]at hm;have htk:row.take (j+1)=row.take j++[y]:=by rw[cG hj,(aT.mp hy).2]
  have hsl:((row.take j).filter λx=>decide (x<key)).length<=j:=bW (eX _ _) (by rw[bu];lia);refine #[_,rfl,_,rfl,_,_,rfl,rfl,_,rfl,?_];refine ite2 .(t) .(t)
  .refine #[_,rfl,_,h5,bh .(y),m-1,by lia,by rw[ai];lia,_,rfl,?_,λb o n e=>by rw[aj n];exact k5 b o n e];rw[ag,htk,dg,dE (p:=λx=>decide (x<key)) c,bw];rfl
  .refine #[m-1,by lia,by rw[ai];lia,_,rfl,?_,k5];rw[htk,dg,fE (p:=λx=>decide (x<key)) c,mj,bQ];exact h5
 rintro U H5 ⟨y0,rfl,h5,k5⟩;rw[ai,bG (aq _)]at h5;exact q H5 (λb o e=>k5 b o (aw e hD) e) h5
abbrev dueF (ps:List Nat)(Re:List .(h))(key:Int)(k:Nat):Int×Int:=(((bc .(e) key:Nat):Int),((ownB Re k key:Nat):Int))
inductive yl (K:Frag)(CS mF mS:Addr)(vs:List V)(H:Hp)(Q:VK)(w_1:XK):Prop
 | c:∀(sh dx st p pf r wa:Addr) (key:Int) (qs qf:List Addr) (ps:List Nat) (Re:List (List Int)) (t rs:Addr) (as ar:List Addr) (wy:List Nat),vs=[.ref sh,.ref pf,.ref r,.ref wa,.int key]->cV K CS H sh dx st p qs ps Re t rs as->FA K H pf qf (ps.length+1) (af ps Re)->gG H r ar Re->dB H wa ps wy->TabS mF mS H->(∀ H',Kp2 mF mS H H'->TabS mF mS H'->Q (.bl true) H')->yl K CS mF mS vs H Q w_1
def N8 (T:Txt K mg)(O:OwnC K mg CS)(zR:DF K mg "_law_found" qC sk)(zP:FM P w K mg base CS 8 "find" m9 (nJ K CS mF mS)):FC P w K mg base 9 "_law_found" sk (yl K CS mF mS):=by
 refine zR.ok jj .(c) .(b)
 .obtain ⟨sh,dx,st,p,pf,r,wa,key,qs,qf,ps,Re,t,rs,as,ar,wy,rfl,_⟩:=h;rfl
 obtain ⟨sh,dx,st,p,pf,r,wa,key,qs,qf,ps,Re,t,rs,as,ar,wy,rfl,S,FF,R,W,TT,q⟩:=h;refine #[_,(aB (aI (i:=5) jj.nd rfl (av rfl) (bN ae))
   (aB (bU PassesOwn.never rfl (dW (pv 3)) (aO (i:=6) jj.nd rfl (av rfl)) (aB (jd (i:=7) (N:=["_law_entry","_law_key_here"]) (own:=1) (cap:=[4]) jj.nd rfl rfl rfl (dW (aH (bg (K:=K)) (pv 1) (pv 6) (λ_ _=>rfl))) #[rfl,rfl,rfl,rfl,rfl,rfl] (λ_ _ _ _ _=>(aO (i:=0) (show List.Nodup (["_law_entry","_law_key_here"]:List Str) by decide +kernel) rfl (av rfl))) (λ_ _ _ _ _=>(gP (aW fH (aH (bA (K:=K)) (pv 0) ah (λ_ _=>rfl)) (pv 1) (bf _)))) (λ_ _ _ _ _=>(pv 0)))
   (au (cM (dJ F.plainAttrs_list F.slot_list_append F.type_list_append dM (pv 5) (aa (cE (aa (aN (bF (K:=K)) rfl T.bD bz (aa (pv 7) ae)) (aa (aN (bF (K:=K)) rfl T.bD bz (aa (fM (N:=["_law_other","_law_key_here"]) (own:=1) (cap:=[4]) rfl (gx (aH (bA (K:=K)) (pv 2) (pv 6) (λ_ _=>rfl))) #[rfl,rfl,rfl,rfl,rfl,rfl] (λ_ _ _ _ _=>(aO (i:=0) (show List.Nodup (["_law_other","_law_key_here"]:List Str) by decide +kernel) rfl (av rfl))) (λ_ _ _ _ _=>(gP (aW fH (pv 0) (pv 1) (bf _)))) (λ_ _ _ _ _=>(pv 0))) ae)) ae))) ae))))))
   (aB (aI (i:=8) jj.nd rfl (av rfl) (dI (ph (K:=K)) rfl T.g9 boot_list (aa (pv 3) ae)))
   (aB (bU PassesOwn.never rfl (fb rfl T.de (aa ah ae)) (aO (i:=9) jj.nd rfl (av rfl)) (aB (aI (i:=10) jj.nd rfl (av rfl) (jW zP O.cl hr (pv 0) (aa (pv 8) (aa (pv 4) ae))))
   (cx (bq (PW.pt (jL (ee (cL (aN (jR (K:=K)) rfl T.fS boot_isinstance (aa (pv 10) (aa (eZ (v:=.ty "list") rfl T.g9 boot_list rfl) ae))))) (jL (aW (o4 (List (Int×Int)) (huD hr)) (pv 10) (pv 5) (bf _)) (mq (aW (o4 (List Int) (huD hr)) (pv 8) (pv 3) (bf _)))))) (au (aK cZ)) bE)
   (aB (bU PassesOwn.never rfl (dW (pv 10)) (aO (i:=11) jj.nd rfl (av rfl)) (au (bq (PW.pt (jL (ee (cL (aN (jR (K:=K)) rfl T.fS boot_isinstance (aa (pv 11) (aa (eZ (v:=.ty "tuple") rfl T.fB boot_tuple rfl) ae))))) (jL (cL (aN (jR (K:=K)) rfl T.fS boot_isinstance (aa (aH (bA (K:=K)) (pv 11) ah (λ_ _=>rfl)) (aa (eZ (v:=.ty "bool") rfl T.yo boot_bool rfl) ae)))) (mq (cL (aN (jR (K:=K)) rfl T.fS boot_isinstance (aa (aH (bA (K:=K)) (pv 11) ah (λ_ _=>rfl)) (aa (eZ (v:=.ty "bool") rfl T.yo boot_bool rfl) ae)))))))) (au (aK cZ)) bE)))
   (au (cM (AU F.plainAttrs_list F.slot_list_clear F.type_list_clear GB (pv 10))))))))
   (au (aK cZ)))))),?_]
 have hwl:=W.len;refine #[.(B),λD hD=>?_];have nD:∀{b:Addr} {o:HO},H b=some o->b≠D:=λe=>aw e hD;refine #[_,rfl,wa,rfl,#[_,SqL.of (by rw[aj (nD W.at_)];exact W.at_)],?_];refine iZ (xs:=wy.map nV) (λi U H2=>∃(x6 x7:Option V) (us:List V),U=[some (.ref sh),some (.ref pf),some (.ref r),some (.ref wa),some (.int key),some (.ref D),x6,x7,none,none,none,none]/\H2 D=some .(ia)/\aD K H2 ((wy.take i).map (dueF ps Re key)) us/\But D H H2) ?_ ?_ ?_ ?_
 .exact #[_,_,[],rfl,ag,.nil,λb o n e=>by rw[aj n];exact e]
 .rintro i U H2 _ ⟨x6,x7,us,rfl,_,_,k2⟩;exact SqL.of (k2 _ _ (nD W.at_) W.at_)
 .rintro i x U H2 hx ⟨x6,x7,us,rfl,h2,hA,k2⟩;obtain ⟨hi,rfl⟩:=lJ hx;have hk:wy.getD i 0<ps.length+1:=W.kn _ (Eb hi);obtain ⟨qk,wk,g1,g2,g3⟩:=FF.at hk;have fz:=lN S.stand.T S.stand.R S.stand.few S.stand.len S.stand.keys hk;have hwk:=g3.length;refine #[_,rfl,_,rfl,_,_,_,_,rfl,rfl,SqL.of (k2 _ _ (nD FF.at_) FF.at_),eB g1,qk,rfl,#[_,SqL.of (k2 _ _ (nD g2) g2)],λD2 hD2=>?_];have hul:=hA.length;rw[ai,bu]at hul;have n2:∀{b:Addr} {o:HO},H b=some o->b≠D2:=λ{b o} e=>aw (k2 _ _ (nD e) e) hD2;refine iC (xs:=wk) (λj U H5=>∃(x0:Option V) (vs:List V),U=[x0,some (.int key)]/\H5 D2=some (.lst vs)/\vs.length=(((af ps Re .(qa)).take j).filter λe=>decide (e.1<key)).length/\But D2 H2 H5) ?_ ?_ ?_ ?_
  .exact #[_,[],rfl,ag,rfl,λb o n e=>by rw[aj n];exact e]
  .rintro j U H5 _ ⟨x0,vs,rfl,_,_,k5⟩;exact SqL.of (k5 _ _ (n2 g2) (k2 _ _ (nD g2) g2))
  .rintro j m x U H5 hx hm ⟨x0,vs,rfl,h5,hu,k5⟩;have hj:=(aT.mp hx).1;obtain ⟨e,he,bb,x1,x2,rfl,hb,e1,e2⟩:∃ e,(af ps Re (wy.getD i 0))[j]?=some e/\hasP K H e x:=xo g3 hx;have e1':x1=.int e.1:=e1;subst e1';have htk:(af ps Re .(qa)).take (j+1)=(af ps Re .(qa)).take j++[e]:=by rw[cG .(a),(aT.mp he).2]
   have hsl:(((af ps Re .(qa)).take j).filter λe=>decide (e.1<key)).length<=j:=bW (eX _ _) (by rw[bu];lia);refine #[_,rfl,_,_,_,_,rfl,rfl,SqT.of (k5 _ _ (n2 hb) (k2 _ _ (nD hb) hb)),rfl,_,rfl,_,_,rfl,rfl,_,rfl,?_];refine ite2 .(t) .(t)
   .refine #[_,rfl,_,h5,bh .(a),m-1,by lia,by lia,_,_,rfl,ag,?_,λb o n e=>by rw[aj n];exact k5 b o n e];rw[htk,dg,dE (p:=λe:Int×Int=>decide (e.1<key)) c,aS,aS,hu];rfl
   .refine #[m-1,by lia,by lia,_,_,rfl,h5,?_,k5];rw[htk,dg,fE (p:=λe:Int×Int=>decide (e.1<key)) c,mj,bQ];exact hu
  rintro U H5 ⟨x0,vs,rfl,h5,hu,k5⟩;rw[<-hwk,bG (aq _)]at hu;have s5:Same H2 H5:=λb o e=>k5 b o (aw e hD2) e;obtain ⟨b,hb1,hb2⟩:=R.get (k:=wy.getD i 0) (by rw[S.stand.len];exact hk);have up5:∀{b:Addr} {o:HO},H b=some o->H5 b=some o:=λe=>s5 _ _ (k2 _ _ (nD e) e);have D5:=s5 _ _ h2;refine #[_,rfl,.inl #[rfl,_,SqL.of D5],_,rfl,_,_,rfl,.inl (SqL.of h5),_,rfl,_,rfl,_,_,_,_,rfl,rfl,SqT.of (up5 R.at_),hb1,b,rfl,#[_,SqT.of (up5 hb2)],λD3 hD3=>?_];refine N7 (up5 hb2) hD3 (S.stand.keys.row _) rfl λH6 s6 h6=>?_;refine #[_,_,rfl,.inl (SqL.of h6),.(l),λu hu'=>?_];rw[ai,hu,show ((af ps Re .(qa)).filter λe=>decide (e.1<key)).length=bc (af ps Re .(qa)) key from rfl,show ((ay Re .(qa)).filter λx=>decide (x<key)).length=ownB Re .(qa) key from rfl];have su:=az hu' (.tup [.int ((bc (af ps Re .(qa)) key:Nat):Int),.int ((ownB Re .(qa) key:Nat):Int)]);have s2u:=s5.trans (s6.trans su);have h2u:=s2u _ _ h2;refine #[D,us,_,rfl,rfl,h2u,bh .(a),_,_,us++[.ref u],rfl,ag,?_,λb o n e=>by rw[aj n];exact s2u _ _ (k2 b o n e)];rw[Ea hi,bw];exact dj h2u ((hA.mono s2u.ext).append (.one #[u,_,_,rfl,ag,rfl,rfl]))
 rintro U H2 ⟨x6,x7,us,rfl,h2,hA,k2⟩;rw[ai,bG (aq _)]at hA;have s2:Same H H2:=λb o e=>k2 b o (nD e) e;refine #[_,rfl,wa,_,rfl,.inl (SqL.of (s2 _ _ W.at_)),λg hg=>?_];have sg:=az hg (.lst (wy.map nV));have s3:=s2.trans sg;have g3:upd H2 g (.lst (wy.map nV)) g=some (.lst (wy.map nV)):=ag;have D3:=sg _ _ h2;have A3:=hA.mono sg.ext;generalize upd H2 g (.lst (wy.map nV))=H3 at sg s3 g3 D3 A3 ⊢;have S3:=(S.k0 (.of s3));have W3:dB H3 g ps wy:=#[g3,W.len,W.ne,W.ch,W.kn];have T3:=TT.ext s3.ext;refine #[_,rfl,by decide,by decide,?_];refine fc (n:=2) (λi U H4=>∃(x9 x10 x11:Option V),U=[some (.ref sh),some (.ref pf),some (.ref r),some (.ref wa),some (.int key),some (.ref D),x6,x7,some (.ref g),x9,x10,x11]/\Kp2 mF mS H3 H4/\TabS mF mS H4) ?_ ?_ ?_
 .exact #[_,_,_,rfl,λ_ _ _ _ e=>e,T3]
 .rintro i U H4 _ ⟨x9,x10,x11,rfl,k4,T4⟩;have k40:=k4.kp0 T3;have S4:=S3.k0 k40;refine #[_,rfl,sh,dx,_,rfl,S4.ins,rfl,_,rfl,_,rfl,sh,dx,st,p,g,key,qs,ps,Re,t,rs,as,wy,rfl,S4,xF k40 W3,T4,λD5 zs H5 hD5 k5 T5 h5 hA5=>?_];have k50:Kp0 H3 H5:=k40.trans (k5.kp0 T4);refine #[λU' H'=>∃ y9,U'=[some (.ref sh),some (.ref pf),some (.ref r),some (.ref wa),some (.int key),some (.ref D),x6,x7,some (.ref g),y9,some (.ref D5),x11]/\H5=H',?_,?_]
  .refine #[_,rfl,_,_,_,_,rfl,.lst h5,vc,_,rfl,?_];refine iteF ?_;refine #[_,rfl,_,rfl,_,_,#[D5,zs,rfl,SqL.of h5,hA5],#[D,us,rfl,SqL.of (k50.lst D3),xE k50 A3],_,rfl,?_];refine kU rfl ?_;have hn:aD K H5 (wy.map λn:Nat=>(n:Int)) (wy.map nV):=by
    have:=aD.ints (K:=K) (H:=H5) (ns:=wy.map λn:Nat=>(n:Int));rwa[ig]at this
   refine #[_,rfl,_,rfl,_,_,#[g,_,rfl,SqL.of (k50.lst g3),hn],#[wa,_,rfl,SqL.of (k50.lst (s3 _ _ W.at_)),hn],_,rfl,?_];exact kU rfl #[_,rfl,rfl]
  rintro _ _ ⟨y9,rfl,rfl⟩;refine #[_,rfl,D5,rfl,#[_,SqL.of h5],?_];refine iZ (xs:=zs) (λi U H6=>∃ y11,U=[some (.ref sh),some (.ref pf),some (.ref r),some (.ref wa),some (.int key),some (.ref D),x6,x7,some (.ref g),y9,some (.ref D5),y11]/\H5=H6) ?_ ?_ ?_ ?_
  .exact #[_,rfl,rfl]
  .rintro i U H6 _ ⟨y11,rfl,rfl⟩;exact SqL.of h5
  .rintro i x U H6 hx ⟨y11,rfl,rfl⟩;obtain ⟨e,_,b,x1,x2,rfl,hb,e1,e2⟩:∃ e,(wy.map (dueF ps Re key))[i]?=some e/\hasP K H5 e x:=xo hA5 hx;have e1':x1=.int e.1:=e1;have e2':x2=.int e.2:=e2;subst e1' e2';refine #[_,rfl,_,_,_,_,rfl,.tup hb,HY,_,rfl,?_];refine iteF ?_;refine #[_,rfl,_,_,_,_,rfl,rfl,SqT.of hb,rfl,_,_,_,_,rfl,.int _,vb,_,rfl,?_];refine iteF ?_;refine #[_,rfl,_,_,_,_,rfl,rfl,SqT.of hb,rfl,_,_,_,_,rfl,.int _,vb,_,rfl,?_];exact iteF #[_,rfl,rfl]
  rintro U H6 ⟨y11,rfl,rfl⟩;have kc:But D5 H5 (upd H5 D5 .(V)):=λb o n e=>by rw[aj n];exact e
  have tb:∀{m:Addr} {ps:Pos} {q:Str},bB H5 m ps q->bB (upd H5 D5 .(V)) m ps q:=λx=>ui x kc (λtab z=>by rw[h5]at z;cases z) (λf z=>by rw[h5]at z;cases z)
  refine #[_,rfl,.inl #[rfl,_,SqL.of h5],D5,zs,rfl,rfl,h5,_,_,_,rfl,λb o n1 n2 e=>kc _ _ .(ua) (k5 _ _ n1 n2 (k4 _ _ n1 n2 e)),#[tb T5.f,tb T5.s,T5.n]];rw[z]at e;have:=k4 _ _ (z ▸ n1) (z ▸ n2) e;rw[hD5]at this;cases this
 rintro U H4 ⟨x9,x10,x11,rfl,k4,T4⟩;exact q H4 (λb o n1 n2 e=>k4 _ _ n1 n2 (s3 _ _ e)) T4
def _root_.L2.TyOf.same {K:Frag}{x:V}{n:String}(s:Same H H')(h:TyOf K H x (.type n)):TyOf K H' x (.type n):=by
 cases h with
 | non=>exact .non
 | bl b=>exact .bl b
 | int i=>exact .int i
 | str y=>exact .str y
 | flt y=>exact .flt y
 | lst e=>exact .lst (s _ _ e)
 | frz e=>exact .frz (s _ _ e)
 | tup e=>exact .tup (s _ _ e)
 | dK e=>exact .dK (s _ _ e)
 | dT e=>exact .dT (s _ _ e)
def NoW.imp {K:Frag}{x:V}(k:∀ x n,TyOf K H x (.type n)->TyOf K H' x (.type n))(l:∀ b us,H b=some .(ia)->H' b=some .(ia))(h:NoW K ps x H):NoW K ps x H':=by
 rcases h with ⟨ty,h1,h2⟩|⟨a,zs,rfl,ha,hl,hA,hb⟩
 .exact .inl #[ty,k _ _ h1,h2]
 .refine .inr #[a,zs,rfl,l _ _ ha,hl,λz hz=>?_,hb];cases hA z hz with
  | int i=>exact .int i
  | oth _ h w=>
   refine .oth _ h ?_;cases w with
   | bl b=>exact .bl b
   | oth _ t ty h2=>exact .oth _ t (k _ _ ty) h2
def NoW.same {K:Frag}(s:Same H H')(h:NoW K ps x H):NoW K ps x H':=h.imp (λ_ _ h=>h.same s) λ_ _ e=>s _ _ e
def NoW.keep {K:Frag}{a:Addr}(k:Keep d H H')(s:LS K a d H)(s':LS K a d H')(h:NoW K ps x H):NoW K ps x H':=by
 obtain ⟨_,_,_,e1,_⟩:=s.ex;obtain ⟨_,_,_,e2,_⟩:=s'.ex;have kk:∀{b:Addr} {o:HO},H b=some o->(∀ kvs,o≠.dK kvs)->H' b=some o:=λ{b o} e n=>k b o (λz=>by rw[z,e1]at e;exact n _ (aJ e).symm) e;refine h.imp (λx n h=>?_) λ_ _ e=>kk e nofun;cases h with
 | non=>exact .non
 | bl b=>exact .bl b
 | int i=>exact .int i
 | str y=>exact .str y
 | flt y=>exact .flt y
 | lst e=>exact .lst (kk e nofun)
 | frz e=>exact .frz (kk e nofun)
 | tup e=>exact .tup (kk e nofun)
 | dK e=>
  rename_i b _;by_cases z:b=d
  .rw[z];exact .dK e2
  .exact .dK (k _ _ z e)
 | dT e=>exact .dT (kk e nofun)
def N9:kitO "NoneType" "list" = some false:=by decide +kernel
def Oa:kitO "tuple" "list" = some false:=by decide +kernel
def Ob:kitO "int" "list" = some false:=by decide +kernel
def Oc:kitO "str" "list" = some false:=by decide +kernel
def Od:kitO "dict" "list" = some false:=by decide +kernel
def ke {ps:List Nat}{zs:List V}{x:V}(h:x∈zs)(f:gZ (ps.length+1) x=false):wayB ps zs=false:=by
 unfold wayB;rw[l8.mpr #[x,h,by rw[f];decide],jE,nW]
def Oe (T:aP ps){b c:Nat}(h:b<=c):parV ps b≠nV c:=λz=>by
 cases e:par ps b with
 | none=>
  rw[tI e]at z;cases z
 | some p=>
  rw[j4 e]at z;have:=(bj T e).1;have:=V.int.inj z;lia
def ym (T:aP ps){zs:List V}{i b c:Nat}(h:b<=c)(h0:zs[i]?=some (nV c))(h1:zs[i+1]?=some (nV b)):wayB ps zs=false:=by
 have hi:=(aT.mp h1).1;unfold wayB;rw[l8.mpr #[i,d7.mpr .(a),?_],jE];unfold lS;rw[h0,h1];intro z;exact Oe T h (bO z)
section
variable {K:Frag}{H:Hp}{ps:List Nat}{a:Addr}{zs:List V}
def NoW.lst (ha:H a=some (.lst zs))(hb:wayB ps zs=false)(hl:zs.length<=2800)(hA:∀ z∈zs,AnyV K H z):NoW K ps (.ref a) H:=.inr #[a,zs,rfl,ha,hl,hA,hb]
def E3:AnyV K H .non:=.oth _ nofun (.oth _ _ .non HU)
def E4:AnyV K H (.bl true):=.oth _ nofun (.bl true)
def nO (w:List Nat):∀ z∈w.map nV,AnyV K H z:=λz hz=>by
 obtain ⟨n,_,rfl⟩:=cA.mp hz;exact .int _
def nQ {xs ys:List V}(h1:∀ z∈xs,AnyV K H z)(h2:∀ z∈ys,AnyV K H z):∀ z∈xs++ys,AnyV K H z:=λz hz=>(bX.mp hz).elim (h1 z) (h2 z)
def g8 {x:V}(h:AnyV K H x):∀ z∈[x],AnyV K H z:=λz hz=>by
 rw[bM.mp hz];exact h
end
def Og {K:Frag}{sh dx st:Addr}{t:Addr}{Q:VK}(S:dw H st ps Re t rs as)(hsh:H sh=none)(hdx:H dx=none)(hne:dx≠sh)
  (q:∀(p:Addr) (qs:List Addr) (H':Hp),H p=none->(∀ q∈qs,H q=none)->Same H H'->cV K CS H' sh dx st p qs ps Re t rs as->Q .non H'):t7 K CS [.ref sh,.ref st] (upd (upd H dx (.own sh)) sh (.ins CS dx [])) Q E:=by
 have s1:=az hdx (.own sh);have hsh1:upd H dx (.own sh) sh=none:=by rw[aj (bt hne)];exact hsh
 have s2:=az hsh1 (.ins CS dx []);have s12:=s1.trans s2;refine #[sh,dx,st,ps,Re,t,rs,as,rfl,s2 _ _ ag,ag,S.same s12,λp qs H' hp hq hb S'=>?_];exact q p qs H' (s12.free hp) (λx hx=>s12.free (hq x hx)) (λb o e=>hb b o (aw e hsh) (s12 _ _ e)) S'
structure KNow (K:Frag)(CS m0 mF mS a:Addr)(H:Hp)(d sh p t r:Addr)(qs asr:List Addr)(ps:List Nat)(Re:List .(h)):Prop where
 now:SNow K CS m0 mF mS a H d sh p qs ps Re
 tree:H t=some (.tup (bS ps))
 Re:gG H r asr Re
section
variable {K:Frag}{CS m0 mF mS a d sh p t r:Addr}{H H':Hp}{qs asr:List Addr}{ps:List Nat}{Re:List .(h)}
def KNow.same (h:KNow K CS m0 mF mS a H d sh p t r qs asr ps Re)(s:Same H H'):KNow K CS m0 mF mS a H' d sh p t r qs asr ps Re:=#[h.now.same s,s _ _ h.tree,h.Re.tp λb us e=>s _ _ e]
def KNow.take (h:KNow K CS m0 mF mS a H d sh p t r qs asr ps Re)(k:Keep d H H')(s:LS K a d H'):KNow K CS m0 mF mS a H' d sh p t r qs asr ps Re:=#[h.now.take k s,gH h.now.lsH k _ _ h.tree,h.Re.tp (gH h.now.lsH k)]
def KNow.find (h:KNow K CS m0 mF mS a H d sh p t r qs asr ps Re)(k:Kp2 mF mS H H')(T':TabS mF mS H'):KNow K CS m0 mF mS a H' d sh p t r qs asr ps Re:=by
 obtain ⟨T3,k3⟩:=h.now.tab.gS k T';have k0:=h.now.tab.k0 k3;exact #[h.now.k3 k3 T3,k0.tup h.tree,h.Re.tp λb us e=>k0.tup e]
end
def Wd (Re:List .(h))(n m:Nat):Prop:=dA Re<=n/\∀ j,(ay Re j).length<=m
def Wd.fw {Re:List .(h)}{n:Nat}(h:Wd Re n m)(hn:n+m<=127):Fw Re:=λj=>by
 have:=h.1;have:=h.2 j;lia
def Wd.set {Re:List .(h)}{n kn:Nat}{r:List Int}(h:Wd Re n m)(hk:kn<Re.length)(hr:r.length<= .(p).length+1):Wd (Re.set kn r) (n+1) (m+1):=by
 have e:=yb (r:=r) hk;have:=h.1;refine #[by lia,λj=>?_];by_cases z:j=kn
 .rw[z,lU hk];have:=h.2 kn;lia
 .rw[lV (Re:=Re) (r:=r) j z];have:=h.2 j;lia
inductive lX (K:Frag)(m0 mF mS:Addr)(vs:List V)(H:Hp)(Q:VK)(w_1:XK):Prop
 | c:∀(a:Addr) (ns:List Int),vs=[.ref a]->SqL K H a (ns.map V.int)->ns.length<=63->[m0,mF,mS].Nodup->H m0=some (.tbl (List.toArray []))->H mF=some (.tbl (List.toArray []))->H mS=some (.tbl (List.toArray []))->(∀ H',Q (.bl true) H')->lX K m0 mF mS vs H Q w_1
def Oh (T:Txt K mg)(O:OwnC K mg CS)(zS:DF K mg "law" qE so)(Px:FC P w K mg base 1 "_law_begin" rO (vf K))(bV:FC P w K mg base 2 "_law_take" gA (gO K))(Py:FC P w K mg base 3 "_law_tree" rQ (wX K))(Pz:FC P w K mg base 5 "_law_rows" rS (xh K))(PB:FC P w K mg base 3 "tree_of" rh (xY K))(PC:FC P w K mg base 4 "stand_of" rA (ya K))(PD:FI P w K mg base CS 9 sv (t7 K CS))(PF:FC P w K mg base 3 "_law_way" rV (xG K))(PH:FC P w K mg base 3 "_law_fulls" r6 (xM K))(PJ:FC P w K mg base 4 "_law_sought" sm (yk K))(PK:FC P w K mg base 9 "_law_found" sk (yl K CS mF mS))(PL:FC P w K mg base 9 "_law_refused" si (yj K CS))(PN:FM P w K mg base CS 1 "stand" sG (xP CS))(PP:FC P w K mg base 4 "_law_step" r9 (ye K))(PQ:FC P w K mg base 1 "_law_behind" sf (yg K))(PR:FM P w K mg base CS 8 "put" sA (nM K CS m0 putR EW))(PU:FM P w K mg base CS 8 "out" sE (nM K CS m0 outR EX)):FC P w K mg base 11 "law" so (lX K m0 mF mS):=by
 refine zS.ok fj .(c) .(b)
 .obtain ⟨a,ns,rfl,_⟩:=h;rfl
 obtain ⟨a,ns,rfl,hS,_,hnd,hm0,hmF,hmS,q⟩:=h;have hT0:Tab3 m0 mF mS H:=#[#[(List.toArray []),hm0,trivial,.inl rfl],#[(List.toArray []),hmF,trivial,.inl rfl],#[(List.toArray []),hmS,trivial,.inl rfl],hnd];refine #[_,(cQ (aI (i:=1) fj.nd rfl (av rfl) (aG Px hr (aa (pv 0) ae)))
   (cQ (aI (i:=2) fj.nd rfl (av rfl) (aG Py hr (aa (pv 1) (aa ah ae))))
   (cQ (aI (i:=3) fj.nd rfl (av rfl) (aG Pz hr (aa (pv 1) (aa (aN (bF (K:=K)) rfl T.bD bz (aa (pv 2) ae)) (aa ah ae)))))
   (cQ (aI (i:=4) fj.nd rfl (av rfl) (IZ PD hr O.mgC (aa (aG PC hr (aa (aG PB hr (aa (pv 2) ae)) (aa (pv 3) ae))) ae)))
   (cQ (bU PassesOwn.never rfl (fb rfl T.de (aa (aC bY ah (aG bV hr (aa (pv 1) (aa ah ae)))) ae)) (aO (i:=5) fj.nd rfl (av rfl)) (cQ (aI (i:=6) fj.nd rfl (av rfl) (aG PF hr (aa (pv 1) (aa (pv 2) ae))))
   (wF (bq (ee (cL (aG PK hr (aa (pv 4) (aa (aG PH hr (aa (pv 2) (aa (pv 3) ae))) (aa (pv 3) (aa (pv 6) (aa (aG PJ hr (aa (pv 1) (aa (pv 3) (aa (pv 6) ae)))) ae)))))))) (au (aK cZ)) bE)
   (cQ (aI (i:=7) fj.nd rfl (av rfl) (bN (aa jK (aa (bN ae) (aa (dI (gQ (K:=K)) rfl T.fB boot_tuple (aa (pv 6) ae)) (aa (aC i5 (pv 6) (bN (aa (aH (bg (K:=K)) (pv 6) (fe ff ah) (λ_ _=>rfl)) ae))) (aa (aC i5 (pv 6) (bN (aa (aN (bF (K:=K)) rfl T.bD bz (aa (pv 2) ae)) ae))) (aa (bN (aa (fe ff ah) ae)) (aa (bN (aa cZ ae)) (aa (bN (aa ah (aa cZ ae))) ae))))))))))
   (cQ (aI (i:=7) fj.nd rfl (av rfl) (aC i5 (pv 7) (bN (aa ah (aa fG (aa (bN (aa (bN (aa ah ae)) ae)) (aa uY (aa (bN (aa jK ae)) ae))))))))
   (wF (bq (aW ix (aN (bF (K:=K)) rfl T.bD bz (aa (pv 6) ae)) ah (bf _)) (au (aI (i:=7) fj.nd rfl (av rfl) (aC i5 (pv 7) (bN (aa (Ia (pv 6) (dr (fe ff ah))) (aa (aC i5 (fI (jS (K:=K)) (pv 6) i4 (dr (fe ff ah))) (bN (aa jK ae))) (aa (aC i5 (bN (aa (aH (bg (K:=K)) (pv 6) ah (λ_ _=>rfl)) ae)) (pv 6)) ae))))))) bE)
   (wF (bq (PW.pt (jL (ee (cL (aG PL hr (aa (pv 4) (aa (aH (bg (K:=K)) (pv 7) (aG bV hr (aa (pv 1) (aa (aN (bF (K:=K)) rfl T.bD bz (aa (pv 7) ae)) ae))) (λ_ _=>rfl)) (aa ah ae)))))) (mq (aW (o4 (Tup (Option Int)×Tup (Tup Int)) (huD hr)) (IY PN O.cl hr (pv 4)) (cE (aa (pv 2) (aa (pv 3) ae))) (bf _))))) (au (aK cZ)) bE)
   (cQ (gr (aG PP hr (aa (pv 1) (aa (pv 2) (aa (pv 3) ae)))) (iY rfl (dF (aO (i:=8) fj.nd rfl (av rfl)) (dF (aO (i:=9) fj.nd rfl (av rfl)) (dF (aO (i:=10) fj.nd rfl (av rfl)) iX)))))
   (cQ (aI (i:=3) fj.nd rfl (av rfl) (aG PQ hr (aa (pv 3) (aa (pv 8) (aa (pv 9) (aa (pv 10) ae))))))
   (au (bq (cL (pv 10)) (au (cM (jW PR O.cl hr (pv 4) (aa (pv 8) (aa (pv 9) ae))))) (au (cM (jW PU O.cl hr (pv 4) (aa (pv 8) (aa (pv 9) ae))))))))))))))))
   (au (aK cZ))))))),?_]
 intro N1 n1;refine #[_,rfl,a,ns,rfl,hS,λd H1 _ g1 s1=>n1 _ _ ?_];intro N2 n2;refine #[_,rfl,d,a,9,rfl,by decide,s1,λt ps H2 ht hT hl h2 k2 s2=>n2 _ _ ?_];have hT2:=(hT0.ext g1.ext).ext (s1.ext k2);intro N3 n3;refine #[_,rfl,_,rfl,_,_,rfl,.inr (SqT.of h2),?_];refine #[d,a,(bS ps).length,9,rfl,by rw[cy];lia,by lia,s2,λr0 as0 rows0 H3 hr1 A1 hl1 R1 f1 h3 k3 s3=>n3 _ _ ?_];intro N4 n4;rw[cy]at hl1;have h3t:=gH s2 k3 _ _ h2;have w1:=DY f1;have hT3:=hT2.ext (s2.ext k3);have hW:Wd rows0 81 9:=#[by lia,λj=>by
  by_cases z:j<rows0.length
  .exact f1 _ (MM z)
  .unfold ay;rw[aF,dy (by lia)];exact cv _]
 refine #[_,rfl,t,ps,rfl,h3t,hT,by lia,λH4 s4=>?_];refine #[_,rfl,t,r0,ps,rows0,as0,rfl,s4 _ _ h3t,s4 _ _ h3,A1.ext s4,hl1,hT,R1,by lia,hW.fw .(q),λst rs bs H5 hst s5 S5=>?_];have s35:=s4.trans s5;intro sh dx hsh hdx hne;refine Og S5 hsh hdx hne λp qs H6 hp hqs s6 S6=>#[rfl,n4 _ _ ?_];intro N5 n5;have s36:=s35.trans s6;have M6:KNow K CS m0 mF mS a H6 d sh p t r0 qs as0 ps rows0:=#[SNow.new (s3.same s35) (hT3.ext s35.ext) s6 hsh hp S6,s36 _ _ h3t,#[s36 _ _ h3,A1.ext s36]];clear s36 s35 S6 S5 A1 h3 h3t s3 k3 h2;refine #[_,rfl,d,a,8,rfl,by decide,M6.now.lsH,λv H7 v0 v1 k7 s7=>#[_,_,rfl,rfl,_,rfl,by lia,by lia,?_]];have M7:=M6.take k7 s7;refine fc (n:=(1+v).toNat) (λi U HA=>∃(r:Addr) (asr qs:List Addr) (Re:List (List Int)) (x5 x6 x7 x8 x9 x10:Option V),U=[some (.ref a),some (.ref d),some (.ref t),some (.ref r),some (.ref sh),x5,x6,x7,x8,x9,x10]/\KNow K CS m0 mF mS a HA d sh p t r qs asr ps Re/\aX Re/\Re.length=ps.length+1/\Wd Re (81+i) (9+i)) ?_ ?_ ?_
 .exact #[r0,as0,qs,rows0,_,_,_,_,_,_,rfl,M7,R1,hl1,hW]
 .clear M6 M7 hW w1 R1 hl1 f1;rintro i U HA hi ⟨r,asr,qs,Re,x5,x6,x7,x8,x9,x10,rfl,NA,RA,hlen,hW⟩;refine Dl λN B R hN hB hR'=>?_;have hi8:i<8:=by lia
  have hF:Fw Re:=hW.fw .(a);have hz:∀ k,(ay Re k).length<=62:=λk=>by
   have:=hW.2 k;lia
  have el:=cy ps;intro N1 n1;refine #[_,rfl,_,rfl,d,a,t,ps,rfl,NA.tree,hT,by lia,NA.now.lsH,λwa w HB hwa WB kB sB=>n1 _ _ ?_];have NB:=NA.take kB sB;clear NA;refine #[λU' H'=>U'=[some (.ref a),some (.ref d),some (.ref t),some (.ref r),some (.ref sh),some (.int (0+(i:Int))),some (.ref wa),x7,x8,x9,x10]/\KNow K CS m0 mF mS a H' d sh p t r qs asr ps Re/\dB H' wa ps w,?_,?_]
  .intro N2 n2;refine #[_,rfl,_,rfl,_,rfl,t,r,ps,Re,asr,rfl,NB.tree,NB.Re.at_,NB.Re.Re,hlen,hT,RA,by lia,hF,λpf qf HC hpf sC FC hqf=>?_];have NC:=NB.same sC;refine #[_,rfl,_,rfl,_,rfl,_,rfl,_,rfl,d,a,r,wa,ps,w,Re,asr,rfl,NC.Re,hlen,hz,WB.same sC,NC.now.lsH,λkey HD kD sD=>?_];have ND:=NC.take kD sD;obtain ⟨dx,st,t1,rs1,as1,SD⟩:=ND.now.shelf;have eD:=NC.now.lsH.ext kD;have WD:dB HD wa ps w:=#[eD _ _ (WB.same sC).at_ nofun,WB.len,WB.ne,WB.ch,WB.kn];exact #[sh,dx,st,p,pf,r,wa,key,qs,qf,ps,Re,t1,rs1,as1,asr,w,rfl,SD,FC.ext eD,ND.Re,WD,ND.now.tab.ts,λHE kE tE=>#[_,rfl,iteF (n2 _ _ #[rfl,ND.find kE tE,xF (kE.kp0 ND.now.tab.ts) WD])]]
  clear NB WB kB sB;rintro _ HC ⟨rfl,NC,W⟩;have hwl:=W.len;have hw0:0<w.length:=mn.mpr W.ne;have hla:atI (w.map nV) (-1)=some (nV .(wa)):=by
   have e:w=w.take (w.length-1)++[w.getD (w.length-1) 0]:=by
    conv=>lhs;rw[<-bG (aq w.length),show w.length=w.length-1+1 by lia,Ea .(a)]
   conv=>lhs;rw[e]
   exact xv
  intro N2 n2;refine #[.(B),λe0 he0=>?_];have s0:=az he0 .(V);have b0:NoW K ps (.ref e0) (upd HC e0 .(V)):=.lst ag rfl (cv _) nofun;generalize upd HC e0 .(V)=HD at s0 b0 ⊢;have WD:=W.same s0;refine #[_,rfl,wa,_,rfl,.inl #[SqL.of WD.at_,λtw htw=>?_]];have s1:=az htw (.tup (w.map nV));have b1:NoW K ps (.ref tw) (upd HD tw (.tup (w.map nV))):=.inl #[_,.tup ag,Oa];generalize upd HD tw (.tup (w.map nV))=HE at s1 b1 ⊢;have WE:=WD.same s1;have small:∀{n:Nat},n<=1000->n<=sizeLine:=λh=>eS (bh h);refine #[_,rfl,_,rfl,_,rfl,_,_,_,_,rfl,rfl,SqL.of WE.at_,hla,.(g),λl hl=>?_];have s2:=az hl (.lst [nV .(wa)]);refine #[wa,l,_,_,rfl,rfl,s2 _ _ WE.at_,ag,small (by rw[ai];show _+1<=1000;lia),λc hc=>?_];have s3:=az hc (.lst (w.map nV++[nV .(wa)]));have b2:NoW K ps (.ref c) (upd (upd HE l (.lst [nV .(wa)])) c (.lst (w.map nV++[nV .(wa)]))):=by
   refine .lst ag (ym hT (i:=w.length-1) (b:=w.getD (w.length-1) 0) (c:=w.getD (w.length-1) 0) (aq _) ?_ ?_) .(T) (nQ (nO w) (g8 (.int _)))
   .rw[iO .(y),aZ,aF,aA .(a)];rfl
   .rw[gi .(y),ai,show w.length-1+1-w.length=0 by lia];rfl
  have s23:=s2.trans s3;generalize upd (upd HE l (.lst [nV .(wa)])) c (.lst (w.map nV++[nV .(wa)]))=HF at s23 b2 ⊢;have WF:=WE.same s23;have sF:=s0.trans (s1.trans s23);clear s2 s3;have tF:=sF _ _ NC.tree;refine #[_,rfl,_,rfl,_,_,rfl,.inr (SqT.of tF),.(g),λl2 hl2=>?_];rw[el];have s2:=az hl2 (.lst [nV (ps.length+1)]);refine #[wa,l2,_,_,rfl,rfl,s2 _ _ WF.at_,ag,small (by rw[ai];show _+1<=1000;lia),λc2 hc2=>?_];have s3:=az hc2 (.lst (w.map nV++[nV (ps.length+1)]));have b3:NoW K ps (.ref c2) (upd (upd HF l2 (.lst [nV (ps.length+1)])) c2 (.lst (w.map nV++[nV (ps.length+1)]))):=.lst ag (ke (x:=nV (ps.length+1)) .(k) (by show (decide ((0:Int)<=((ps.length+1:Nat):Int))&&decide (((ps.length+1:Nat):Int)<((ps.length+1:Nat):Int)))=false;simp)) .(T) (nQ (nO w) (g8 (.int _)));have s24:=s2.trans s3;generalize upd (upd HF l2 (.lst [nV (ps.length+1)])) c2 (.lst (w.map nV++[nV (ps.length+1)]))=HG at s24 b3 ⊢;clear s2 s3;refine #[_,rfl,.(g),λl3 hl3=>?_];have s5:=az hl3 (.lst [.int (-1)]);have b4:NoW K ps (.ref l3) (upd HG l3 (.lst [.int (-1)])):=.lst ag (ke (x:=.int (-1)) .(k) rfl) .(k) (g8 (.int _));generalize upd HG l3 (.lst [.int (-1)])=HH at s5 b4 ⊢;refine #[.(g),λl4 hl4=>?_];have s6:=az hl4 (.lst [.bl true]);have b5:NoW K ps (.ref l4) (upd HH l4 (.lst [.bl true])):=.lst ag (ke (x:=.bl true) .(k) rfl) .(k) (g8 E4);generalize upd HH l4 (.lst [.bl true])=HI at s6 b5 ⊢;refine #[.(l),λl5 hl5=>?_];have s7:=az hl5 (.lst [.int 0,.bl true]);have b6:NoW K ps (.ref l5) (upd HI l5 (.lst [.int 0,.bl true])):=.lst ag (ke (x:=.bl true) .(k) rfl) .(k) (nQ (xs:=[.int 0]) (g8 (.int _)) (g8 E4));generalize upd HI l5 (.lst [.int 0,.bl true])=HJ at s7 b6 ⊢;refine #[(by show 8<=sizeLine;decide),λL hL=>n2 _ _ ?_];have s8:=az hL (.lst [.non,.ref e0,.ref tw,.ref c,.ref c2,.ref l3,.ref l4,.ref l5]);have hL1:upd HJ L (.lst [.non,.ref e0,.ref tw,.ref c,.ref c2,.ref l3,.ref l4,.ref l5]) L=_:=ag;generalize upd HJ L (.lst [.non,.ref e0,.ref tw,.ref c,.ref c2,.ref l3,.ref l4,.ref l5])=HK at s8 hL1 ⊢;have P1:∀ x∈[V.non,.ref e0,.ref tw,.ref c,.ref c2,.ref l3,.ref l4,.ref l5],NoW K ps x HK:=λx hx=>by
   have a6:=s7.trans s8;have a5:=s6.trans a6;have a4:=s5.trans a5;have a3:=s24.trans a4;have a2:=s23.trans a3;simp only[aU,cJ,or_false]at hx;rcases hx with rfl|rfl|rfl|rfl|rfl|rfl|rfl|rfl
   .exact .inl #[_,.non,N9]
   .exact b0.same (s1.trans a2)
   .exact b1.same a2
   .exact b2.same a3
   .exact b3.same a4
   .exact b4.same a5
   .exact b5.same a6
   .exact b6.same s8
  have sK:Same HC HK:=sF.trans (s24.trans (s5.trans (s6.trans (s7.trans s8))));have bl:[V.non,.ref e0,.ref tw,.ref c,.ref c2,.ref l3,.ref l4,.ref l5].length=8:=rfl;generalize [V.non,.ref e0,.ref tw,.ref c,.ref c2,.ref l3,.ref l4,.ref l5]=bs at hL1 P1 bl ⊢;clear b0 b1 b2 b3 b4 b5 b6 s0 s1 s23 sF s24 s5 s6 s7 s8 WD WE WF tF n2 N2;intro N2 n2;refine #[_,rfl,.(g),λm1 h1=>#[.(g),λm2 h2=>λm3 h3=>#[.(g),λm4 h4=>#[(by show 5<=sizeLine;decide),λm5 h5=>?_]]]];have a1:=az h1 (.lst [.int 0]);have a2:=az h2 (.lst [.ref m1]);have a3:=az h3 (.dK []);have a4:=az h4 (.lst [.non]);have a5:=az h5 (.lst [.int 7,.str "0",.ref m2,.ref m3,.ref m4]);refine #[L,m5,bs,_,rfl,rfl,a5 _ _ (a4 _ _ (a3 _ _ (a2 _ _ (a1 _ _ hL1)))),ag,small (by rw[bl];show 8+5<=1000;decide),λL2 hL2=>n2 _ _ ?_];have a6:=az hL2 (.lst (bs++[.int 7,.str "0",.ref m2,.ref m3,.ref m4]));have P2:∀ x∈bs++[V.int 7,.str "0",.ref m2,.ref m3,.ref m4],NoW K ps x (upd (upd (upd (upd (upd (upd HK m1 (.lst [.int 0])) m2 (.lst [.ref m1])) m3 (.dK [])) m4 (.lst [.non])) m5 (.lst [.int 7,.str "0",.ref m2,.ref m3,.ref m4])) L2 (.lst (bs++[.int 7,.str "0",.ref m2,.ref m3,.ref m4]))):=λx hx=>by
   rcases bX.mp hx with hx|hx
   .exact (P1 x hx).same (a1.trans (a2.trans (a3.trans (a4.trans (a5.trans a6)))))
   have c5:=a5.trans a6;have c4:=a4.trans c5;simp only[aU,cJ,or_false]at hx;rcases hx with rfl|rfl|rfl|rfl|rfl
   .exact .inl #[_,.int _,Ob]
   .exact .inl #[_,.str _,Oc]
   .exact NoW.same (a3.trans c4) (.lst ag (ke (x:=.ref m1) .(k) rfl) .(k) (g8 (.oth _ nofun (.oth _ _ (.lst (a2 _ _ ag)) HV))))
   .exact .inl #[_,TyOf.same c4 (.dK ag),Od]
   .exact NoW.same c5 (.lst ag (ke (x:=.non) .(k) rfl) .(k) (g8 E3))
  have sL:=sK.trans (a1.trans (a2.trans (a3.trans (a4.trans (a5.trans a6)))));have bl2:(bs++[V.int 7,.str "0",.ref m2,.ref m3,.ref m4]).length=13:=by rw[aS,bl];rfl
  have hL3:upd (upd (upd (upd (upd (upd HK m1 (.lst [.int 0])) m2 (.lst [.ref m1])) m3 (.dK [])) m4 (.lst [.non])) m5 (.lst [.int 7,.str "0",.ref m2,.ref m3,.ref m4])) L2 (.lst (bs++[.int 7,.str "0",.ref m2,.ref m3,.ref m4])) L2=_:=ag;generalize upd (upd (upd (upd (upd (upd HK m1 (.lst [.int 0])) m2 (.lst [.ref m1])) m3 (.dK [])) m4 (.lst [.non])) m5 (.lst [.int 7,.str "0",.ref m2,.ref m3,.ref m4])) L2 (.lst (bs++[.int 7,.str "0",.ref m2,.ref m3,.ref m4]))=HL at P2 sL hL3 ⊢;generalize bs++[V.int 7,.str "0",.ref m2,.ref m3,.ref m4]=bs2 at P2 bl2 hL3 ⊢;clear P1 bl hL1 sK a1 a2 a3 a4 a5 a6 n2 N2;have NL:=NC.same sL;have WL:=W.same sL;clear NC W;refine #[λU' H'=>∃(L:Addr) (bs:List V),U'=[some (.ref a),some (.ref d),some (.ref t),some (.ref r),some (.ref sh),some (.int (0+(i:Int))),some (.ref wa),some (.ref L),x8,x9,x10]/\H' L=some (.lst bs)/\(∀ x∈bs,NoW K ps x H')/\0<bs.length/\bs.length<=16/\Same HL H',?_,?_]
  .intro N2 n2;refine #[_,rfl,_,_,rfl,.inl (SqL.of WL.at_),_,_,rfl,rfl,_,rfl,?_];refine ite2 .(ua) (λ_=>n2 _ _ #[L2,bs2,rfl,hL3,P2,by lia,by lia,λ_ _ e=>e]);have hw2:1<w.length:=by
    have:(1:Int)<(((w.map nV).length:Nat):Int):=bO z;rw[ai]at this;lia
   refine #[_,rfl,_,rfl,_,rfl,_,rfl,wa,_,rfl,rfl,SqL.of WL.at_,λv1 hv1=>?_];have a1:=az hv1 (.lst (w.map nV).reverse);have W1:=WL.same a1;refine #[_,rfl,_,rfl,_,rfl,wa,_,rfl,SqL.of W1.at_,λv2 hv2=>?_];have a2:=az hv2 (.lst (cutV (w.map nV) none (some (-1))));refine #[.(g),λv3 hv3=>?_];have a3:=az hv3 (.lst [.non]);have cl:(cutV (w.map nV) none (some (-1))).length<=w.length/\∀ z∈cutV (w.map nV) none (some (-1)),z∈w.map nV:=by
    have:=uU (w.map nV) none (some (-1));rw[ai]at this;exact #[this,λz hz=>oG (uG hz)]
   refine #[v2,v3,_,_,rfl,rfl,a3 _ _ ag,ag,small (by show _+1<=1000;lia),λv4 hv4=>?_];have a4:=az hv4 (.lst (cutV (w.map nV) none (some (-1))++[.non]));have W4:=W1.same (a2.trans (a3.trans a4));refine #[_,rfl,_,_,_,_,rfl,rfl,SqL.of W4.at_,gW (i:=0) .(a),.(g),λv5 hv5=>?_];have a5:=az hv5 (.lst [nV (w.getD 0 0)]);refine #[_,rfl,v5,wa,_,_,rfl,rfl,ag,a5 _ _ W4.at_,small (by rw[ai];show 1+_<=1000;lia),λv6 hv6=>?_];have a6:=az hv6 (.lst ([nV (w.getD 0 0)]++w.map nV));refine #[.(Z),λv7 hv7=>?_];have a7:=az hv7 (.lst [.ref v1,.ref v4,.ref v6]);have a17:=a1.trans (a2.trans (a3.trans (a4.trans (a5.trans (a6.trans a7)))));refine #[L2,v7,bs2,_,rfl,rfl,a17 _ _ hL3,ag,small (by rw[bl2];show 13+3<=1000;decide),λv8 hv8=>n2 _ _ ?_];have a8:=az hv8 (.lst (bs2++[.ref v1,.ref v4,.ref v6]));refine #[v8,_,rfl,ag,λx hx=>?_,by rw[aS,bl2];show 0<13+3;decide,by rw[aS,bl2];show 13+3<=16;decide,a17.trans a8];rcases bX.mp hx with hx|hx
   .exact (P2 x hx).same (a17.trans a8)
   have c7:=a7.trans a8;have c5:=a5.trans (a6.trans c7);simp only[aU,cJ,or_false]at hx;rcases hx with rfl|rfl|rfl
   .refine NoW.same (a2.trans (a3.trans (a4.trans c5))) (.lst ag (ym hT (i:=0) (b:=w.getD (w.length-2) 0) (c:=w.getD (w.length-1) 0) ?_ ?_ ?_) .(T) λz hz=>nO w z (kC.mp hz))
    .have h:=WL.ch (w.length-2) .(a);rw[show w.length-2+1=w.length-1 by lia]at h;exact eS (bj hT h).1
    .rw[ma .(y),ai,aZ,show w.length-1-0=w.length-1 from rfl,aF,aA .(a)];rfl
    .rw[ma .(y),ai,aZ,show w.length-1-(0+1)=w.length-2 by lia,aF,aA .(a)];rfl
   .exact NoW.same c5 (.lst ag (ke (x:=.non) .(k) rfl) (by rw[aS];show _+1<=2800;lia) (nQ (λz hz=>nO w z (cl.2 z hz)) (g8 E3)))
   .refine NoW.same c7 (.lst ag (ym hT (i:=0) (b:=w.getD 0 0) (c:=w.getD 0 0) (aq _) rfl ?_) .(T) (nQ (g8 (.int _)) (nO w)));show (w.map nV)[0]?=_;rw[aZ,aF,aA .(a)];rfl
  rintro _ HM ⟨L,bs,rfl,hLM,PM,b0,b16,sM⟩;have NM:=NL.same sM;clear NL WL P2 hL3 bl2 sL sM;refine #[λU' H'=>U'=[some (.ref a),some (.ref d),some (.ref t),some (.ref r),some (.ref sh),some (.int (0+(i:Int))),some (.ref wa),some (.ref L),x8,x9,x10]/\KNow K CS m0 mF mS a H' d sh p t r qs asr ps Re,?_,?_]
  .intro N2 n2;refine #[_,rfl,_,rfl,_,rfl,_,rfl,_,_,rfl,.inl (SqL.of hLM),d,a,_,rfl,.(ka),NM.now.lsH,λn HN n0 n1 kN sN=>?_];obtain ⟨j,rfl⟩:∃ j:Nat,n=j:=#[n.toNat,by lia];have hj:j<bs.length:=by lia
   have NN:=NM.take kN sN;obtain ⟨dx,st,t1,rs1,as1,SN⟩:=NN.now.shelf;have hLN:HN L=some (.lst bs):=NM.now.lsH.ext kN _ _ hLM nofun;refine #[_,_,_,_,rfl,rfl,SqL.of hLN,c8 (aA hj),?_];refine #[sh,dx,st,p,t1,rs1,ps,bs[j],.int 0,rfl,SN.ins,SN.stand.st,SN.stand.tr,by lia,(PM _ (cC hj)).keep kN NM.now.lsH sN,λHO sO=>#[_,rfl,iteF ?_]];have NO:=NN.same sO;refine #[_,rfl,sh,dx,_,rfl,sO _ _ SN.ins,rfl,sh,dx,st,p,rfl,sO _ _ SN.ins,_,rfl,_,rfl,.(l),λu hu=>?_];have su:=az hu (.tup [.ref t,.ref r]);refine #[yi ps Re,yi ps Re,NU (SN.stand.same (sO.trans su)),#[u,_,_,rfl,ag,#[_,_,rfl,SqT.of (su _ _ NO.tree),E2 ps],#[_,_,rfl,SqT.of (su _ _ NO.Re.at_),yh (NO.Re.tp λ_ _ e=>su _ _ e).Re]],_,rfl,?_];exact kU rfl (n2 _ _ #[rfl,NO.same su])
  rintro _ HO ⟨rfl,NO⟩;clear NM PM hLM b0 b16;intro N3 n3;refine #[_,rfl,_,rfl,_,rfl,d,a,t,r,ps,Re,asr,rfl,NO.tree,by lia,NO.Re,hlen,RA,hz,NO.now.lsH,λu kn x HP hu hkn hx huT kP sP=>?_];refine #[u,_,rfl,SqT.of huT,rfl,_,_,rfl,_,_,rfl,_,_,rfl,rfl,n3 _ _ ?_];have NP:=NO.take kP sP;clear NO huT hu kP sP;generalize hb:(!decide (x∈ay Re kn))=b;have hb:=hb.symm;intro N4 n4;have hkr:kn<Re.length:=by lia
  refine #[_,rfl,_,rfl,_,rfl,_,rfl,r,kn,x,b,Re,asr,rfl,NP.Re,hkr,by lia,RA,hz,hb,λr' as' HQ hr' sQ RQ=>n4 _ _ ?_];have NQ:=NP.same sQ;clear NP;have hW':Wd (uj Re kn x b) (81+(i+1)) (9+(i+1)):=hW.set hkr (by
   unfold nN;split
   .rw[Nt];exact aq _
   .exact Nat.le_succ_of_le (lT _ _).length_le)
  obtain ⟨dx,st,t1,rs1,as1,SQ⟩:=NQ.now.shelf;have fin:∀{dx' st' t' rs':Addr} {qs' as'':List Addr} {HR:Hp},Kd sh p m0 HQ HR->cV K CS HR sh dx' st' p qs' ps (uj Re kn x b) t' rs' as''->bB HR m0 g5 lamQ->N [some (.ref a),some (.ref d),some (.ref t),some (.ref r'),some (.ref sh),some (.int (0+(i:Int))),some (.ref wa),some (.ref L),some (.int kn),some (.int x),some (.bl b)] HR:=λ{dx' st' t' rs' qs' as'' HR} kd S' tb=>by
   obtain ⟨n',tp⟩:=NQ.now.deed kd S' tb;exact hN _ _ #[r',as',qs',uj Re kn x b,_,_,_,_,_,_,rfl,#[n',tp _ _ NQ.tree,RQ.tp tp],S'.stand.R,S'.stand.len,hW']
  cases b with
  | true=>
   refine #[_,rfl,_,rfl,iteT ?_];refine #[_,rfl,sh,dx,_,rfl,SQ.ins,rfl,_,rfl,_,rfl,sh,dx,st,p,kn,x,qs,ps,Re,t1,rs1,as1,rfl,SQ,hkn,hx,#[λz=>?_,hW'.fw .(a)],NQ.now.tab.p,λD us m qs' st' rs' as'' HR _ _ _ kd S' tb _ _=>fin kd S' tb];rw[aV z]at hb;cases hb
  | false=>
   refine #[_,rfl,_,rfl,iteF ?_];refine #[_,rfl,sh,dx,_,rfl,SQ.ins,rfl,_,rfl,_,rfl,sh,dx,st,p,kn,x,qs,ps,Re,t1,rs1,as1,rfl,SQ,hkn,hx,(show x∈ay Re kn from Classical.byContradiction λz=>by rw[bx z]at hb;cases hb),NQ.now.tab.p,λD us m qs' st' rs' as'' HR _ _ _ kd S' tb _ _=>fin kd S' tb]
 .rintro U HA ⟨r,asr,qs,Re,x5,x6,x7,x8,x9,x10,rfl,_⟩;exact n5 _ _ (q _)
abbrev lawRoom:Nat:=11
def all_ok (T:Txt K mg){dS eF aR eG eJ eK eL eN eO eP eQ eR gf:Addr}(CL:Cls K mg dS eF aR eG eJ eK eL eN eO eP eQ eR gf)(O:OwnC K mg CS){mc6 mp6 mc33 mp33 mc37 mp37:Addr}(hBM:BMAt mg base)(y8:DF K mg "is_whole" pA mQ)(za:DF K mg "is_key" pB mR)(zr:DF K mg "need_key" pC qU)(yz:DF K mg "code" pD qV)(uo:DF K mg "how_many_below" pE mT)(uu:DFT K mg "place" lj mU mc6 mp6)(yM:DF K mg "joined_up" pF mV)(yx:DF K mg "lowest_unlike" pG qW)(yA:DF K mg "turned" pH qX)(yB:DF K mg "labels" pI qY)(yE:DF K mg "neighbours" pJ mW)(yF:DF K mg "least_free" pK qZ)(yG:DF K mg "colours" pL q9)(yI:DF K mg "marks" pM rg)(yJ:DF K mg "handed" pN mX)(zd:DF K mg "is_one_of_first" pO lC)(zA:DF K mg "tree_of" pP rh)(zq:DF K mg "need_knot" pQ rj)(yO:DF K mg "children" pR mY)(yP:DF K mg "beneath" pS rl)(ze:DF K mg "is_way" pT rm)(zv:DF K mg "need_way" pU rp)(zB:DF K mg "row_of" pV rq)(zC:DF K mg "long_together" pW mZ)(zD:DF K mg "stand_of" pX rA)(zF:DF K mg "with_row" pY m6)(yQ:DF K mg "own_entries" pZ rB)(yR:DF K mg "full_rows_beneath" p0 rC)(yU:DF K mg "full_rows" p5 rD)(yX:DF K mg "owns_of" p6 rE)(yY:DF K mg "starts_of" p7 rF)(yZ:DF K mg "bridges_of" p8 rG)(uq:DFT K mg "first_place" ll rH mc33 mp33)(zh:DF K mg "start_in" p9 rJ)(zi:DF K mg "next_place" qa rK)(zj:DF K mg "search" qb rL)(ur:DFT K mg "search_for_key" lp rM mc37 mp37)(zx:DF K mg "without" qd rN)(yv:DF K mg "_law_begin" qe rO)(yu:DF K mg "_law_mixed" qg rP)(yw:DF K mg "_law_take" qh gA)(yy:DF K mg "_law_key" qi lD)(yN:DF K mg "_law_tree" ql rQ)(yV:DF K mg "_law_row" qm rR)(yW:DF K mg "_law_rows" qo rS)(zk:DF K mg "_law_children" qp rT)(zl:DF K mg "_law_way" qr rV)(yC:DF K mg "_law_code" qt rW)(yD:DF K mg "_law_turned" qv rX)(yK:DF K mg "_law_colours" qw rY)(yL:DF K mg "_law_marks" qx rZ)(zm:DF K mg "_law_fulls" qy r6)(zM:DF K mg "_law_step" qz r9)(zN:DF K mg "_law_behind" qA sf)(zO:DF K mg "_law_refused" qB si)(zR:DF K mg "_law_found" qC sk)(zQ:DF K mg "_law_sought" qD sm)(zS:DF K mg "law" qE so)(zo:DI K CS "Shelf.__init__" qF sv)(zu:DM K CS "row_for" "Shelf.row_for" qG m7)(zy:DM K CS "carry_up" "Shelf.carry_up" qH m8)(zG:DM K CS "put" "Shelf.put" qI sA)(zL:DM K CS "out" "Shelf.out" qJ sE)(Ra:DM K CS "hang" "Shelf.hang" Cn J2)(zp:DM K CS "stand" "Shelf.stand" qK sG)(Rb:DM K CS "full" "Shelf.full" Co J4)(zw:DM K CS "find" "Shelf.find" qL m9):FC P w K mg base 11 "law" so (lX K mp6 mp33 mp37):=
 have m:=KR (P:=P) (w:=w) (base:=base) T yu;have t:=KU T yw m;have c:=K4 (P:=P) (w:=w) (base:=base) T yz;have nb:=Ln (P:=P) (w:=w) (base:=base) T yE;have mk:=Lw T yI (Lf T yB c (K8 T yA (KW T yx))) (Lq T yG nb (Lo T yF)) nb;have hd:=Lz T yJ mk;have ch:=LH (P:=P) (w:=w) (base:=base) T yO;have jo:=LD (P:=P) (w:=w) (base:=base) T yM;have fr:=LU T yR (LJ T yP) ch hd (LR T yQ) jo;have fu:=LW T yU fr;have bo:=Mm T yZ ch (Ml T yY) (Mi T yX);have ky:=KZ T yy t;have fi:=λ(b:Heap) (S:Sub K mg base b)=>MF (P:=P) (w:=w) (base:=b) T uq (hBM.lift S) (λb' _=>D7 (base:=b') T uo);have se:=λ(b:Heap) (S:Sub K mg base b)=>MI (P:=P) (w:=w) (base:=b) (mp:=mp33) T zj (fi b S) (MG T zh) (MH T zi);have wh:=Mr (P:=P) (w:=w) (base:=base) T y8;have fa:=Mw T zd wh;have one:=Mt fa λ_ _ _ _ h=>Mx h;have nd:=M1 T CL zv (Mz T ze fa);have fk:=MR T ur hBM bo se;have fx:=M4 T O zw nd fk;have ik:=Ms T za wh;have lg:=Nm (P:=P) (w:=w) (base:=base) T zC;have kn:=MY T zq one;have rf:=M0 T O zu kn (MZ T zr ik);have pl:=MT (P:=P) (w:=w) (base:=base) T uu hBM (λb=>D7 (base:=b) T uo);have wr:=Nq (P:=P) (w:=w) (base:=base) T zF;have cu:=Nc T O zy hd jo (M8 T zx);have lm:=LB T yL (Lg T yC) (Lh T yD) (LA T yK)
 Oh T O zS (KS T yv) t (LG T yN t) (LZ T yW t (LY T yV t ky)) (Nj T zA one) (Np T zD (Nk T zB ik) lg) (MW T O zo fu) (MP T zl t (MN T zk)) (MV T zm lm) (NZ T zQ t ky) (N8 T O zR (Mu fx.fm λ_ _ _ _ h=>.inl (M3 h))) (NY T CL O zO fx) (MX O zp) (NG T zM t ky) (NK T zN) (Nu T O zG rf lg pl wr cu) (Nx T O zL rf pl wr cu)
end
def u1 {P:List Value->Prop}(h:∀ a,P [a])(us:List Value)(hl:us.length=1):P us:=by
 rcases us with _|⟨a,_|⟨z,us⟩⟩
 .cases hl
 .exact h a
 .exact absurd hl .(k)
def u2 {P:List Value->Prop}(h:∀ a b,P [a,b])(us:List Value)(hl:us.length=2):P us:=by
 rcases us with _|⟨a,_|⟨b,_|⟨z,us⟩⟩⟩
 .cases hl
 .cases hl
 .exact h a b
 .exact absurd hl .(k)
def u3 {P:List Value->Prop}(h:∀ a b c,P [a,b,c])(us:List Value)(hl:us.length=3):P us:=by
 rcases us with _|⟨a,_|⟨b,_|⟨c,_|⟨z,us⟩⟩⟩⟩
 .cases hl
 .cases hl
 .cases hl
 .exact h a b c
 .exact absurd hl .(k)
def u4 {P:List Value->Prop}(h:∀ a b c d,P [a,b,c,d])(us:List Value)(hl:us.length=4):P us:=by
 rcases us with _|⟨a,_|⟨b,_|⟨c,_|⟨d,_|⟨z,us⟩⟩⟩⟩⟩
 .cases hl
 .cases hl
 .cases hl
 .cases hl
 .exact h a b c d
 .exact absurd hl .(k)
def u5 {P:List Value->Prop}(h:∀ a b c d e,P [a,b,c,d,e])(us:List Value)(hl:us.length=5):P us:=by
 rcases us with _|⟨a,_|⟨b,_|⟨c,_|⟨d,_|⟨e,_|⟨z,us⟩⟩⟩⟩⟩⟩
 .cases hl
 .cases hl
 .cases hl
 .cases hl
 .cases hl
 .exact h a b c d e
 .exact absurd hl .(k)
structure AD (K:Frag)(x:Str)(st:Stmt):Prop where
 ex:∃(f:Addr) (oc:Value) (od:Option Addr) (kV dc pm:Value) (an:Option Addr) (cd ct:Value) (sl:Array (Option Value)),nsIn K mainGlobals x=some (some (.ref f))/\K.lookup f=some #[oc,od,.func (fnOf x x (fh st) (c9 st) (aE st) .none kV dc pm an cd ct),sl]/\codeIn K cd x=true/\keepIn K (.ref f)=true
def AD.of {K:Frag}{x:Str}{st:Stmt}{f:Addr}{oc:Value}{od:Option Addr}{kV dc pm:Value}{an:Option Addr}{cd ct:Value}{sl:Array (Option Value)}(a:nsIn K mainGlobals x=some (some (.ref f)))(l:K.lookup f=some #[oc,od,.func (fnOf x x (fh st) (c9 st) (aE st) .none kV dc pm an cd ct),sl])(c:codeIn K cd x=true)(k:keepIn K (.ref f)=true):AD K x st:=#[f,oc,od,kV,dc,pm,an,cd,ct,sl,a,l,c,k]
def AD.df {K:Frag}{h:Heap}{mg:Str->Option Value}{st:Stmt}{ps:List Str}(a:AD K x st)(X:K.In h)(G:h.Ns mainGlobals mg)
  (hb:∀(kV doc pm:Value) (an:Option Addr) (cdv ct:Value) (us:List Value),us.length=ps.length->bindArgs (fnOf x x (fh st) (c9 st) (aE st) .none kV doc pm an cdv ct) #[us,[]]=pure (ps.zip us):=by
   first|exact λ_ _ _ _ _ _=>u1 λ_=>rfl|exact λ_ _ _ _ _ _=>u2 λ_ _=>rfl|exact λ_ _ _ _ _ _=>u3 λ_ _ _=>rfl|exact λ_ _ _ _ _ _=>u4 λ_ _ _ _=>rfl|exact λ_ _ _ _ _ _=>u5 λ_ _ _ _ _=>rfl|exact λ_ _ _ _ _ _=>u6 λ_ _ _ _ _ _=>rfl):DF K mg x st ps:=by
 obtain ⟨f,oc,od,kV,dc,pm,an,cd,ct,sl,a,l,c,k⟩:=a.ex;exact #[_,_,jP l c k,(jP l c k).binds hb,mg_of X G a]
def AD.dft {K:Frag}{h:Heap}{mg:Str->Option Value}{st:Stmt}{ps:List Str}{mc mp:Addr}(a:AD K x st)(X:K.In h)(G:h.Ns mainGlobals mg)(t:tabIn K x=some (mc,mp))(hh:codeHdIn K mc mp=true)
  (hb:∀(kV doc pm:Value) (an:Option Addr) (cdv ct:Value) (us:List Value),us.length=ps.length->bindArgs (fnOf x x (fh st) (c9 st) (aE st) .none kV doc pm an cdv ct) #[us,[]]=pure (ps.zip us):=by
   first|exact λ_ _ _ _ _ _=>u1 λ_=>rfl|exact λ_ _ _ _ _ _=>u2 λ_ _=>rfl|exact λ_ _ _ _ _ _=>u3 λ_ _ _=>rfl|exact λ_ _ _ _ _ _=>u4 λ_ _ _ _=>rfl|exact λ_ _ _ _ _ _=>u5 λ_ _ _ _ _=>rfl|exact λ_ _ _ _ _ _=>u6 λ_ _ _ _ _ _=>rfl):DFT K mg x st ps mc mp:=by
 obtain ⟨f,oc,od,kV,dc,pm,an,cd,ct,sl,a,l,c,k⟩:=a.ex;have e:cd=.ref mc:=L2.IP a l t;subst e;exact #[#[_,_,_,_,_,_,_,_,_,l,c,k,mg_of X G a,(jP l c k).binds hb],hh]
structure AM (K:Frag)(C:Addr)(m q:Str)(st:Stmt):Prop where
 ex:∃(f:Addr) (oc:Value) (od:Option Addr) (kV dc pm:Value) (an:Option Addr) (cd ct:Value) (sl:Array (Option Value)),findIn K (.ref C) m=some (some (.ref f))/\W.isFn K (.ref f)=true/\K.lookup f=some #[oc,od,.func (fnOf m q (fh st) (c9 st) (aE st) .none kV dc pm an cd ct),sl]/\codeIn K cd q=true/\keepIn K (.ref f)=true
def AM.of {K:Frag}{C:Addr}{m q:Str}{st:Stmt}{f:Addr}{oc:Value}{od:Option Addr}{kV dc pm:Value}{an:Option Addr}{cd ct:Value}{sl:Array (Option Value)}(a:findIn K (.ref C) m=some (some (.ref f)))(i:W.isFn K (.ref f)=true)(l:K.lookup f=some #[oc,od,.func (fnOf m q (fh st) (c9 st) (aE st) .none kV dc pm an cd ct),sl])(c:codeIn K cd q=true)(k:keepIn K (.ref f)=true):AM K C m q st:=#[f,oc,od,kV,dc,pm,an,cd,ct,sl,a,i,l,c,k]
def AM.dm {K:Frag}{st:Stmt}{ps:List Str}(a:AM K C m q st)
  (hb:∀(kV doc pm:Value) (an:Option Addr) (cdv ct:Value) (us:List Value),us.length=ps.length->bindArgs (fnOf m q (fh st) (c9 st) (aE st) .none kV doc pm an cdv ct) #[us,[]]=pure (ps.zip us):=by
   first|exact λ_ _ _ _ _ _=>u1 λ_=>rfl|exact λ_ _ _ _ _ _=>u2 λ_ _=>rfl|exact λ_ _ _ _ _ _=>u3 λ_ _ _=>rfl|exact λ_ _ _ _ _ _=>u4 λ_ _ _ _=>rfl|exact λ_ _ _ _ _ _=>u5 λ_ _ _ _ _=>rfl|exact λ_ _ _ _ _ _=>u6 λ_ _ _ _ _ _=>rfl):DM K C m q st ps:=by
 obtain ⟨f,oc,od,kV,dc,pm,an,cd,ct,sl,a,i,l,c,k⟩:=a.ex;exact #[_,_,jP l c k,(jP l c k).binds hb,#[a,i,k]]
def AM.di {K:Frag}{q:Str}{st:Stmt}{ps:List Str}(a:AM K C "__init__" q st)(mk:W.makesIn K C=true)(kc:keepIn K (.ref C)=true)
  (hb:∀(kV doc pm:Value) (an:Option Addr) (cdv ct:Value) (us:List Value),us.length=ps.length->bindArgs (fnOf "__init__" q (fh st) (c9 st) (aE st) .none kV doc pm an cdv ct) #[us,[]]=pure (ps.zip us):=by
   first|exact λ_ _ _ _ _ _=>u1 λ_=>rfl|exact λ_ _ _ _ _ _=>u2 λ_ _=>rfl|exact λ_ _ _ _ _ _=>u3 λ_ _ _=>rfl|exact λ_ _ _ _ _ _=>u4 λ_ _ _ _=>rfl|exact λ_ _ _ _ _ _=>u5 λ_ _ _ _ _=>rfl|exact λ_ _ _ _ _ _=>u6 λ_ _ _ _ _ _=>rfl):DI K C q st ps:=by
 obtain ⟨f,oc,od,kV,dc,pm,an,cd,ct,sl,a,i,l,c,k⟩:=a.ex;exact #[_,_,jP l c k,(jP l c k).binds hb,#[mk,a,i,kc]]
def Oi {l:OpenLaw}{K:Frag}{h:Heap}{mg:Str->Option Value}{fa mc6 mp6 mc33 mp33 mc37 mp37 dS eF aR eG eJ eK eL eN eO eP eQ eR gf CS:Addr}(X:K.In h)(G:h.Ns mainGlobals mg)(hfa:mg "law" = some (.ref fa)){t_KNOT_NUMBERS:Tok}{t_TURNS:Tok}{t_MOST_KNOTS:Tok}{t_MOST_KEYS:Tok}{t_MOST_BEHIND_START:Tok}(a1:AD K "is_whole" pA)(a2:AD K "is_key" pB)(a3:AD K "need_key" pC)(a4:AD K "code" pD)(a5:AD K "how_many_below" pE)(a6:AD K "place" lj)(a7:AD K "joined_up" pF)(a8:AD K "lowest_unlike" pG)(a9:AD K "turned" pH)(a10:AD K "labels" pI)(a11:AD K "neighbours" pJ)(a12:AD K "least_free" pK)(a13:AD K "colours" pL)(a14:AD K "marks" pM)(a15:AD K "handed" pN)(a16:AD K "is_one_of_first" pO)(a17:AD K "tree_of" pP)(a18:AD K "need_knot" pQ)(a19:AD K "children" pR)(a20:AD K "beneath" pS)(a21:AD K "is_way" pT)(a22:AD K "need_way" pU)(a23:AD K "row_of" pV)(a24:AD K "long_together" pW)(a25:AD K "stand_of" pX)(a26:AD K "with_row" pY)(a27:AD K "own_entries" pZ)(a28:AD K "full_rows_beneath" p0)(a29:AD K "full_rows" p5)(a30:AD K "owns_of" p6)(a31:AD K "starts_of" p7)(a32:AD K "bridges_of" p8)(a33:AD K "first_place" ll)(a34:AD K "start_in" p9)(a35:AD K "next_place" qa)(a36:AD K "search" qb)(a37:AD K "search_for_key" lp)(a38:AD K "without" qd)(a39:AD K "_law_begin" qe)(a40:AD K "_law_mixed" qg)(a41:AD K "_law_take" qh)(a42:AD K "_law_key" qi)(a43:AD K "_law_tree" ql)(a44:AD K "_law_row" qm)(a45:AD K "_law_rows" qo)(a46:AD K "_law_children" qp)(a47:AD K "_law_way" qr)(a48:AD K "_law_code" qt)(a49:AD K "_law_turned" qv)(a50:AD K "_law_colours" qw)(a51:AD K "_law_marks" qx)(a52:AD K "_law_fulls" qy)(a53:AD K "_law_step" qz)(a54:AD K "_law_behind" qA)(a55:AD K "_law_refused" qB)(a56:AD K "_law_found" qC)(a57:AD K "_law_sought" qD)(a58:AD K "law" qE)(t6:tabIn K "place" = some (mc6,mp6))(h6:codeHdIn K mc6 mp6=true)(t33:tabIn K "first_place" = some (mc33,mp33))(h33:codeHdIn K mc33 mp33=true)(t37:tabIn K "search_for_key" = some (mc37,mp37))(h37:codeHdIn K mc37 mp37=true)(o_C:nsIn K mainGlobals "Shelf" = some (some (.ref CS)))(o_g:W.plainGet K CS Str.empty=true)(o_h:W.hasDictIn K CS=true)(o_p:W.plainOver K CS=true)(o_s:findIn K (.ref CS) "__setattr__" = some (some (.builtin "object.__setattr__")))(o_m:W.makesIn K CS=true)(o_k:keepIn K (.ref CS)=true)(PV:findIn K (.ref CS) "kept" = some none)(PY:findIn K (.ref CS) "fulls" = some none)(PZ:AM K CS "__init__" "Shelf.__init__" qF)(P0:AM K CS "row_for" "Shelf.row_for" qG)(P3:AM K CS "carry_up" "Shelf.carry_up" qH)(P4:AM K CS "put" "Shelf.put" qI)(P5:AM K CS "out" "Shelf.out" qJ)(P6:AM K CS "hang" "Shelf.hang" Cn)(P7:AM K CS "stand" "Shelf.stand" qK)(P8:AM K CS "full" "Shelf.full" Co)(P9:AM K CS "find" "Shelf.find" qL)(Qa:nsIn K mainGlobals "BridgeError" = some (some (.ref dS)))(Qb:nsIn K mainGlobals "NoTree" = some (some (.ref eF)))(E7:nsIn K mainGlobals "NoWay" = some (some .(P)))(Qc:nsIn K mainGlobals "NoStand" = some (some (.ref eG)))(Qd:nsIn K mainGlobals "Twice" = some (some (.ref eJ)))(Qe:nsIn K mainGlobals "Missing" = some (some (.ref eK)))(Qf:nsIn K mainGlobals "NoRoom" = some (some (.ref eL)))(Qg:nsIn K mainGlobals "NoKnot" = some (some (.ref eN)))(Qh:nsIn K mainGlobals "NoKey" = some (some (.ref eO)))(Qi:nsIn K mainGlobals "NoOrder" = some (some (.ref eP)))(Qj:nsIn K mainGlobals "NoRow" = some (some (.ref eQ)))(Qk:nsIn K mainGlobals "NoText" = some (some (.ref eR)))(Ql:nsIn K mainGlobals "Shelf" = some (some (.ref gf)))(Qm:W.excIn K aR Cg "ValueError.__new__" = true)(Qn:findIn K .(P) "__getattribute__" = some (some (.builtin "BaseException.__getattribute__")))(Qo:findIn K .(P) "__getattr__" = some none)(Qp:findIn K .(P) "__class__" = some (some .(aa)))(Qq:mroIn K aR (.type "object")=some true)(Qr:mroIn K aR (.type "BaseException")=some true)(Qs:(W.clsIn K aR).isSome=true)(Qt:mroIn K aR (.ref dS)=some true)(Qu:kitOne K .(P) (.type "ValueError")=some true)(Qw:kitOne K .(P) (.ref dS)=some true)(Qx:kitOne K .(P) (.ref eF)=some false)(Qy:kitOne K .(P) .(P)=some true)(Qz:kitOne K .(P) (.ref eG)=some false)(QA:kitOne K .(P) (.ref eJ)=some false)(QB:kitOne K .(P) (.ref eK)=some false)(QC:kitOne K .(P) (.ref eL)=some false)(QD:kitOne K .(P) (.ref eN)=some false)(QE:kitOne K .(P) (.ref eO)=some false)(QF:kitOne K .(P) (.ref eP)=some false)(QG:kitOne K .(P) (.ref eQ)=some false)(QH:kitOne K .(P) (.ref eR)=some false)(QI:kitOne K .(P) (.ref gf)=some false)(ug1:W.specialIn K .(aa) "__get__" = some (some (.builtin "getset_descriptor.__get__")))(ug2:W.takesIn K .(aa)=some true)(ub1:(W.clsIn K dS).isSome=true)(ub2:W.typeIn K (.ref dS)=some (.type "type"))(ub3:mroIn K dS (.type "BaseException")=some true)(QJ:nsIn K mainGlobals "ValueError" = some none)(QK:nsIn K mainGlobals "abs" = some none)(QL:nsIn K mainGlobals "bool" = some none)(QM:nsIn K mainGlobals "dict" = some none)(QN:nsIn K mainGlobals "enumerate" = some none)(QO:nsIn K mainGlobals "int" = some none)(QP:nsIn K mainGlobals "isinstance" = some none)(QQ:nsIn K mainGlobals "len" = some none)(QR:nsIn K mainGlobals "list" = some none)(QS:nsIn K mainGlobals "max" = some none)(QT:nsIn K mainGlobals "min" = some none)(QU:nsIn K mainGlobals "range" = some none)(QV:nsIn K mainGlobals "reversed" = some none)(QW:nsIn K mainGlobals "set" = some none)(QX:nsIn K mainGlobals "sorted" = some none)(QY:nsIn K mainGlobals "sum" = some none)(QZ:nsIn K mainGlobals "tuple" = some none)(Q0:nsIn K mainGlobals "zip" = some none)(Q2:nsIn K mainGlobals "KNOT_NUMBERS" = some (some (.int 64 t_KNOT_NUMBERS)))(Q3:nsIn K mainGlobals "TURNS" = some (some (.int 5 t_TURNS)))(Q4:nsIn K mainGlobals "MOST_KNOTS" = some (some (.int 40 t_MOST_KNOTS)))(Q5:nsIn K mainGlobals "MOST_KEYS" = some (some (.int 300 t_MOST_KEYS)))(Q6:nsIn K mainGlobals "MOST_BEHIND_START" = some (some (.int 2 t_MOST_BEHIND_START))) :
  ∃ fd:FuncData,(∀(s:Shared) (v:Value),BindsTo s fd #[[v],[]] [("_law_script",v)])/\∀ base:Heap,K.In base->base.Ns mainGlobals mg->L2.BMAt mg base->FnOk l.prog w K mg base CX0 lawRoom fa fd ["_law_script"] (lX K mp6 mp33 mp37):=by
 obtain ⟨f,oc,od,kV,dc,pm,an,cd,ct,sl,a,l,c,k⟩:=a58.ex;have e:=hfa.symm.trans (mg_of X G a);cases e
 have T:Txt K mg:=#[mg_none_of X G QJ,mg_none_of X G QK,mg_none_of X G QL,mg_none_of X G QM,mg_none_of X G QN,mg_none_of X G QO,mg_none_of X G QP,mg_none_of X G QQ,mg_none_of X G QR,mg_none_of X G QS,mg_none_of X G QT,mg_none_of X G QU,mg_none_of X G QV,mg_none_of X G QW,mg_none_of X G QX,mg_none_of X G QY,mg_none_of X G QZ,mg_none_of X G Q0,#[_,mg_of X G Q2],#[_,mg_of X G Q3],#[_,mg_of X G Q4],#[_,mg_of X G Q5],#[_,mg_of X G Q6]];have CL:Cls K mg dS eF aR eG eJ eK eL eN eO eP eQ eR gf:=#[mg_of X G Qa,mg_of X G Qb,mg_of X G E7,mg_of X G Qc,mg_of X G Qd,mg_of X G Qe,mg_of X G Qf,mg_of X G Qg,mg_of X G Qh,mg_of X G Qi,mg_of X G Qj,mg_of X G Qk,mg_of X G Ql,#[mg_of X G E7,Qm],#[Qn,Qo,Qp,ug1,ug2,Qq,Qr,Qs],#[Qt,ub1,ub2,ub3],Qu,Qw,Qx,Qy,Qz,QA,QB,QC,QD,QE,QF,QG,QH,QI];have O:OwnC K mg CS:=#[#[o_g,o_h,o_p,o_s],mg_of X G o_C,PV,PY];exact #[_,λs v=>.of_eq rfl,λbase _ _ hBM=>(all_ok (P:=_) (w:=w) (base:=base) T CL O hBM (a1.df X G) (a2.df X G) (a3.df X G) (a4.df X G) (a5.df X G) (a6.dft X G t6 h6) (a7.df X G) (a8.df X G) (a9.df X G) (a10.df X G) (a11.df X G) (a12.df X G) (a13.df X G) (a14.df X G) (a15.df X G) (a16.df X G) (a17.df X G) (a18.df X G) (a19.df X G) (a20.df X G) (a21.df X G) (a22.df X G) (a23.df X G) (a24.df X G) (a25.df X G) (a26.df X G) (a27.df X G) (a28.df X G) (a29.df X G) (a30.df X G) (a31.df X G) (a32.df X G) (a33.dft X G t33 h33) (a34.df X G) (a35.df X G) (a36.df X G) (a37.dft X G t37 h37) (a38.df X G) (a39.df X G) (a40.df X G) (a41.df X G) (a42.df X G) (a43.df X G) (a44.df X G) (a45.df X G) (a46.df X G) (a47.df X G) (a48.df X G) (a49.df X G) (a50.df X G) (a51.df X G) (a52.df X G) (a53.df X G) (a54.df X G) (a55.df X G) (a56.df X G) (a57.df X G) (a58.df X G) (PZ.di o_m o_k) (P0.dm) (P3.dm) (P4.dm) (P5.dm) (P6.dm) (P7.dm) (P8.dm) (P9.dm)).at (mg_of X G a) l]
def walk {l:OpenLaw}{q:Program}{loose:List Str}{XP:(Str->Option Value)->Heap->Prop}{YP:World->Heap->Prop}{d:DefRec}{K:Params->Frag}{mc6 mp6 mc33 mp33 mc37 mp37:Addr}(hn:l.most=some 63)(hdf:d.params.defaults=[])
  (hY:∀(w:World) (h:Heap),YP w h->(K w.params).In h) (hYT6:∀(w:World) (h:Heap),YP w h->h.get? mp6=some (W.tabObj (List.toArray []))) (hC6:∀(w:World),codeHdIn (K w.params) mc6 mp6=true) (hD6:∀(w:World),(K w.params).lookup mp6=none) (hYT33:∀(w:World) (h:Heap),YP w h->h.get? mp33=some (W.tabObj (List.toArray []))) (hC33:∀(w:World),codeHdIn (K w.params) mc33 mp33=true) (hD33:∀(w:World),(K w.params).lookup mp33=none) (hYT37:∀(w:World) (h:Heap),YP w h->h.get? mp37=some (W.tabObj (List.toArray []))) (hC37:∀(w:World),codeHdIn (K w.params) mc37 mp37=true) (hD37:∀(w:World),(K w.params).lookup mp37=none) (hNE:[mp6,mp33,mp37].Nodup)
  (F:∀(w:World) (mg:Str->Option Value) (fa:Addr) (h:Heap),(K w.params).In h->h.Ns mainGlobals mg->mg d.name=some (.ref fa)->
   ∃ fd:FuncData,(∀(s:Shared) (u:Value),BindsTo s fd #[[u],[]] [("_law_script",u)])/\∀ base:Heap,(K w.params).In base->base.Ns mainGlobals mg->L2.BMAt mg base->FnOk l.prog w (K w.params) mg base CX0 lawRoom fa fd ["_law_script"] (lX (K w.params) mp6 mp33 mp37)) :
  W.WalkO q loose XP YP l.row.toRowW d [] (λf vs=>PySem.call f vs):=
 L2.IM (n:=63) (k:=lawRoom) (x := "_law_script") (tabs:=[(mc6,mp6),(mc33,mp33),(mc37,mp37)]) (sp:=λw=>lX (K w.params) mp6 mp33 mp37) hn .(q) hdf #[rfl,by decide,by decide,rfl] hY (λw h Y q hq=>(aU.mp hq).elim (λz=>z ▸ hYT6 w h Y) (λhq=>(aU.mp hq).elim (λz=>z ▸ hYT33 w h Y) (λhq=>(aU.mp hq).elim (λz=>z ▸ hYT37 w h Y) (λhq=>absurd hq cJ)))) (λw q hq=>(aU.mp hq).elim (λz=>z ▸ #[hC6 w,hD6 w]) (λhq=>(aU.mp hq).elim (λz=>z ▸ #[hC33 w,hD33 w]) (λhq=>(aU.mp hq).elim (λz=>z ▸ #[hC37 w,hD37 w]) (λhq=>absurd hq cJ)))) F (λ_ _ a ns hl hT hS=>#[a,ns,rfl,hS,hl,hNE,hT _ bZ,hT _ (bP _ bZ),hT _ (bP _ (bP _ bZ)),λ_=>rfl])
end My
open PySem PySem.W PyProof.Rows
end
namespace PySem.W.Fast
def tw17815595491311658095:=0
def tw18126882637752402305:=0
def tw9497014219639895601:=0
def tw7997548080688705314:=0
def tw15363395631595054308:=0
def tw1253304824202587388:=0
def tw13852129173274286316:=0
def tw13191314778914882005:=0
def tw16546206726601264456:=0
def tw11867919567624557981:=0
def tw13549852033799394365:=0
def tw2779448282871052904:=0
def tw3345385156552584444:=0
def tw13956496122638654232:=0
def tw8831967312168884384:=0
def tw2817215974869541697:=0
def tw8228667709942554691:=0
def tw6679251189300605213:=0
def tw8876415431096829413:=0
def tw2565855279951651885:=0
def tw2970917520959850001:=0
def tw14940369515763766837:=0
def tw6707446572763428257:=0
def tw1602759869187032467:=0
def tw4710557700155792591:=0
def tw7642944187748218853:=0
def tw12068267907624753470:=0
def tw12732029535928377416:=0
def tw18259092191931205488:=0
def tw9183483633705197356:=0
def tw9124250275370562396:=0
def tw12794568838299582929:=0
def tw17423672970603471201:=0
def tw6344424016717070961:=0
def tw9320498024661437311:=0
def tw6718344496513122723:=0
def tw6505206717485012320:=0
def tw2139563019671740419:=0
def tw11019137237684343215:=0
def tw4600726062056384770:=0
def tw3512626555125582340:=0
def tw9081984621360033344:=0
def tw8451169495003972155:=0
def tw17591676677709573446:=0
def tw6539196586031085108:=0
def tw14820906736799007429:=0
def tw13846706851931836449:=0
def tw13407850438112154013:=0
def tw1011017584221459515:=0
def tw5374888964266263917:=0
def tw15772217700674912273:=0
def tw7778230231980421235:=0
def tw12931516275716909660:=0
def tw7613392481586839108:=0
def tw7342450458016954626:=0
def tw8467295152701317980:=0
def tw14620755410301337785:=0
def tw6263056030422639604:=0
def tw18104061939189577123:=0
def tw2342860343722230820:=0
def tw3414588868553681815:=0
def tw2135389176755984027:=0
def tw7782831333275183638:=0
def tw16445959365803015566:=0
def tw4105544480491358834:=0
def tw8576400723983779520:=0
def tw9595704154616297449:=0
def tw4717380453174232065:=0
def tw2208360724341666658:=0
def tw14738869098857432816:=0
def tw8204740328939094119:=0
def tw1982681272987064919:=0
def tw10492583447944648915:=0
def tw6299687686403520088:=0
def tw3594049051292832402:=0
def tw13356517620519481967:=0
def tw6652919259388295792:=0
def tw3380892641709818726:=0
def tw5305906479373088803:=0
def tw5788220165423181865:=0
def tw10077663665384362148:=0
def tw6463277748273076447:=0
def tw8205307159636320919:=0
def tw16093307683856718745:=0
def tw16652110600592216235:=0
def tw5261833113064512136:=0
def tw7180927302666802538:=0
def tw6357685187892044886:=0
def tw3657123231927934277:=0
def tw17134114538618902578:=0
def tw519960814236430101:=0
def tw16425962225727752152:=0
def tw10828472682421089041:=0
def tw12621575330082371129:=0
def tw15784960160167878387:=0
def tw2296493860740732871:=0
def tw8976173830177332750:=0
def tw88809795491065915:=0
def tw4204674384802874847:=0
def tw17438641321130445388:=0
def tw15168517923294979702:=0
def tw2461732167390753727:=0
def tw7183149558285901322:=0
def tw11275760539600866737:=0
def tw7861013395192367934:=0
def tw9298716845803646936:=0
def tw8306460380076906576:=0
def tw3935936212581245167:=0
def tw17778304258402334537:=0
def tw3064184920573441516:=0
def tw15979636691636926353:=0
def tw8637793788157604231:=0
def tw2099564335602554872:=0
def tw11546412419878750963:=0
def tw6096427923845624382:=0
def tw4627562810116032749:=0
def tw16509853227708991250:=0
def tw10902961308622271918:=0
def tw3421630240494274580:=0
def tw16645762011713898131:=0
def tw3269378969271849198:=0
def tw8122397703952539440:=0
def tw12475282095043374828:=0
def tw10545243766705332653:=0
def tw188035322953868289:=0
def tw2477241454192532445:=0
def tw10678416345558940299:=0
def tw2982016566642099093:=0
def tw6492113927910529892:=0
def tw529358339656582393:=0
def tw10260801089542672931:=0
def tw12174094208792444488:=0
def tw4701243617282689116:=0
def tw10782143393378112349:=0
def tw594408377800098548:=0
def tw17760903185466391285:=0
def tw12292798174829945420:=0
def tw1732475577169925087:=0
def tw7834737624349207918:=0
def tw2588996252393973005:=0
def tw9064636439400045575:=0
def tw10897263949168389612:=0
def tw2965994646731564850:=0
def tw9901034065066506241:=0
def tw14722018894226033991:=0
def tw14362729748363591666:=0
def tw8333376352469442423:=0
def tw14185996543027676643:=0
def tw12579020800291781642:=0
def tw8525578690653229925:=0
def tw14529436916456162278:=0
def tw6198868053474357720:=0
def tw7189519664231279749:=0
def tw10087873897450959253:=0
def tw13785047496950969439:=0
def tw2303426178450748289:=0
def tw18255869939683690434:=0
def tw10549554280411398438:=0
def tw17538795246030877362:=0
def tw5900329693808078811:=0
def tw8330215272486207371:=0
def tw5830303875196278301:=0
def tw4907364498625515387:=0
def tw1711003220411105473:=0
def tw9388640098151328116:=0
def tw18326820154622912635:=0
def tw4843925571121433609:=0
def tw14206706695410901570:=0
def tw14581868025137108832:=0
def tw5421032171594811217:=0
def tw11711055906079680146:=0
def tw12592229917976598413:=0
def tw14936053731106550365:=0
def tw17811505349461225793:=0
def tw12758595654208763367:=0
def tw15973435242144135116:=0
def tw17805024726366488555:=0
def tw6087124348918809555:=0
def tw16551382952541856578:=0
def tw6130349144463465566:=0
def tw12896193633343470649:=0
def tw1802499360961596959:=0
def tw4280533772266535359:=0
def tw6820517311385956504:=0
def tw6010595740493324248:=0
def tw3320283957181623964:=0
def tw10161137068690565890:=0
def tw9975678361815154404:=0
def tw8638670749082960524:=0
def tw7241933876456480802:=0
def tw4260202279153101537:=0
def tw3991994475497695665:=0
def tw16753927068312604741:=0
def tw14764583943724993007:=0
def tw17142836527533009224:=0
def tw8158523649155380156:=0
def tw14847549053958746364:=0
def tw2923614639816134476:=0
def tw2582986926447310732:=0
def tw10302446382666296290:=0
end PySem.W.Fast
set_option maxRecDepth 100000 in
set_option maxHeartbeats 0 in
theorem PySem.Challenge.cw_bridgefind_k48_shelves_asked_holds : PySem.Challenge.rw_bridgefind_k48_shelves_asked.Holds := by
 w_on; o_law; k_head; (case hw=>w_witness2)
 k_fill
 refine My.walk (l:=PySem.Challenge.rw_bridgefind_k48_shelves_asked) (mc6:=214) (mp6:=210) (mc33:=381) (mp33:=377) (mc37:=409) (mp37:=405) rfl rfl (fun w h Y=>PySem.W.km_in_of Y) (fun w h Y=>PySem.W.km_tabs_of Y 210 (by decide)) (fun w=>by kernel_rfl) (fun w=>by kernel_rfl) (fun w h Y=>PySem.W.km_tabs_of Y 377 (by decide)) (fun w=>by kernel_rfl) (fun w=>by kernel_rfl) (fun w h Y=>PySem.W.km_tabs_of Y 405 (by decide)) (fun w=>by kernel_rfl) (fun w=>by kernel_rfl) (by decide) ?F
 case F=>
  intro w mg fa h KX G hmg
  refine' My.Oi (mc6:=214) (mp6:=210) (mc33:=381) (mp33:=377) (mc37:=409) (mp37:=405) KX G hmg ?_ ?_ ?_ ?_ ?_ ?_ ?_ ?_ ?_ ?_ ?_ ?_ ?_ ?_ ?_ ?_ ?_ ?_ ?_ ?_ ?_ ?_ ?_ ?_ ?_ ?_ ?_ ?_ ?_ ?_ ?_ ?_ ?_ ?_ ?_ ?_ ?_ ?_ ?_ ?_ ?_ ?_ ?_ ?_ ?_ ?_ ?_ ?_ ?_ ?_ ?_ ?_ ?_ ?_ ?_ ?_ ?_ ?_ ?_ ?_ ?_ ?_ ?_ ?_ ?_ ?_ ?_ ?_ ?_ ?_ ?_ ?_ ?_ ?_ ?_ ?_ ?_ ?_ ?_ ?_ ?_ ?_ ?_ ?_ ?_ ?_ ?_ ?_ ?_ ?_ ?_ ?_ ?_ ?_ ?_ ?_ ?_ ?_ ?_ ?_ ?_ ?_ ?_ ?_ ?_ ?_ ?_ ?_ ?_ ?_ ?_ ?_ ?_ ?_ ?_ ?_ ?_ ?_ ?_ ?_ ?_ ?_ ?_ ?_ ?_ ?_ ?_ ?_ ?_ ?_ ?_ ?_ ?_ ?_ ?_ ?_ ?_ ?_ ?_ ?_ ?_ ?_ ?_ ?_ ?_
  any_goals k_is
  all_goals first | refine' My.AD.of ?_ ?_ ?_ ?_ | refine' My.AM.of ?_ ?_ ?_ ?_ ?_ | skip
  any_goals k_is
  all_goals kernel_rfl

