import PyProof.Rows.All
import Wide.All
import OpenK.AllK
import Wide.FinOn
import PyProof.EqAt
import PyProof.EqKinds
import PyProof.TupleCall
import PyProof.NeKinds
import Lean
import PyProof.ReprRoads
import PyProof.CallStr
import PyProof.Rows.SeqMore2
import PySem.Challenge.RW_bridgefind_k29_searches_beneath_a_knot
set_option autoImplicit true
set_option relaxedAutoImplicit true
set_option Elab.async false
set_option linter.all false
set_option maxRecDepth 100000
set_option maxHeartbeats 1000000
def mR {i m n:Nat}(e:i+m=n)(h:i < n):m - 1 < m:=by lia
def mS {i m n:Nat}(e:i+m=n)(h:i < n):i+1+(m - 1)=n:=by lia
def rV {α:Type}{xs:List α}{i:Nat}{x:α}(h:xs[i]?=some x):i < xs.length:=(List.getElem?_eq_some_iff.mp h).1
def xx {α β:Type}{f:α->β}{xs:List α}{i:Nat}{x:α}(h:xs[i]?=some x):i < (xs.map f).length:=by rw[List.length_map];exact rV h
def xy {α β:Type}{f:α->β}{xs:List α}{i:Nat}(h:i < xs.length):i < (xs.map f).length:=by rw[List.length_map];exact h
def rW {l r n x:Nat}(a:r - l<=n - x):r - (l+(r - l) / 2+1)<=n - (x+1):=Nat.le_trans (Nat.sub_le_sub_left (Nat.add_le_add_right (Nat.le_add_right _ _) 1) r) (by rw[<-Nat.sub_sub,<-Nat.sub_sub];exact Nat.sub_le_sub_right a 1)
def rX {l r n x:Nat}(a:r - l<=n - x)(h:¬l >= r):l+(r - l) / 2 - l<=n - (x+1):=by rw[Nat.add_sub_cancel_left,<-Nat.sub_sub];exact Nat.le_sub_one_of_lt (Nat.lt_of_lt_of_le (Nat.div_lt_self (Nat.sub_pos_of_lt (Nat.lt_of_not_le h)) (by decide)) a)
def gR {l r:Nat}(h:¬l >= r):l<=(l+r) / 2/\(l+r) / 2 < r:=⟨(Nat.le_div_iff_mul_le Nat.two_pos).mpr (by rw[Nat.mul_two];exact Nat.add_le_add_left (Nat.le_of_not_le h) l),Nat.div_lt_of_lt_mul (by rw[Nat.two_mul];exact Nat.add_lt_add_right (Nat.lt_of_not_le h) r)⟩
def rY {l r n x:Nat}(a:r - l<=n - x)(h:¬l >= r):r - ((l+r) / 2+1)<=n - (x+1):=Nat.le_trans (Nat.sub_le_sub_left (Nat.add_le_add_right (gR h).1 1) r) (by rw[<-Nat.sub_sub,<-Nat.sub_sub];exact Nat.sub_le_sub_right a 1)
def rZ {l r n x:Nat}(a:r - l<=n - x)(h:¬l >= r):(l+r) / 2 - l<=n - (x+1):=by rw[<-Nat.sub_sub];exact Nat.le_sub_one_of_lt (Nat.lt_of_lt_of_le (Nat.sub_lt_sub_right (gR h).1 (gR h).2) a)
def r6 {l o h:Nat}(a:l < o)(b:l<=h):h+1 - min o (h+1)<=h - l:=Nat.le_trans (Nat.sub_le_sub_left (Nat.le_min.mpr ⟨a,Nat.succ_le_succ b⟩) _) (Nat.le_of_eq (Nat.add_sub_add_right _ _ _))
def r9 {l o h n:Nat}(a:l < o)(b:h+l < n):h+l+1<=h+min o (n - h):=Nat.add_le_add_left (Nat.le_min.mpr ⟨a,Nat.le_sub_of_add_le (by rw[Nat.add_comm];exact b)⟩) h
def sf {o h n:Nat}(a:h < n):h+min o (n - h)<=n:=Nat.le_trans (Nat.add_le_add_left (Nat.min_le_right _ _) _) (Nat.le_of_eq (Nat.add_sub_of_le (Nat.le_of_lt a)))
def sg {i o h:Nat}(a:i < h+1 - min o (h+1))(b:o < h+1):i<=h - o:=by rw[Nat.min_eq_left (Nat.le_of_lt b),Nat.succ_sub (Nat.le_of_lt_succ b)]at a;exact Nat.le_of_lt_succ a
def si {i o h:Nat}(b:¬o < h+1):¬i < h+1 - min o (h+1):=by rw[Nat.min_eq_right (Nat.le_of_not_lt b),Nat.sub_self];exact Nat.not_lt_zero _
def eG {s k n:Nat}(a:k<=n):s+k+(n - k)=s+n:=by rw[Nat.add_assoc,Nat.add_sub_of_le a]
def sk {s k n:Nat}(a:k<=n):s+k+(n - k) - 1=s+n - 1:=by rw[eG a]
def so {s k n z:Nat}(a:k<=n)(b:s+n < z):s+k+(n - k) - 1 < z:=by rw[eG a];exact Nat.lt_of_le_of_lt (Nat.sub_le _ _) b
def jg {s k n z:Nat}(a:k<=n)(b:s+n < z):s+k+(n - k)<=z:=by rw[eG a];exact Nat.le_of_lt b
def kH {s k n j:Nat}(b:j < s+k+(n - k))(a:k<=n):j < s+n:=by rw[eG a]at b;exact b
def sv {s k n j:Nat}(b:j < s+k+(n - k))(a:k<=n)(c:s+k<=j):j - s < n:=Nat.sub_lt_left_of_lt_add (Nat.le_trans (Nat.le_add_right _ _) c) (kH b a)
def mT {s k n X z i:Nat}(e:X=n - k)(a:k<=n)(c:i < X)(b:s+n < z):s+k+i < z:=Nat.lt_of_lt_of_le (Nat.add_lt_add_left c _) (by rw[e,eG a];exact Nat.le_of_lt b)
def CU {i j k z:Nat}(a:j < min k (z - i)):i+j < z:=by rw[Nat.add_comm];exact Nat.add_lt_of_lt_sub (Nat.lt_of_lt_of_le a (Nat.min_le_right _ _))
def iC {a b c N:Nat}(w:1+(a+b)<=N)(h:c<=b - 1):1+(a - 1+c)<=N:=Nat.le_trans (Nat.add_le_add_left (Nat.add_le_add (Nat.sub_le _ _) (Nat.le_trans h (Nat.sub_le _ _))) 1) w
def CV {a b N:Nat}(w:1+(a+b)<=N):1+(a - 1+(b - 1))<=N:=iC w (Nat.le_refl _)
def cM {b i m:Nat}(h:b<=i)(g:i < b+m):i - b < m:=Nat.sub_lt_left_of_lt_add h g
def CW {n k f c:Nat}(h:n - k<=f+1)(g:k < c):n - c<=f:=Nat.le_trans (Nat.sub_le_sub_left g n) (by show n - (k+1)<=f;rw[<-Nat.sub_sub];exact Nat.sub_le_of_le_add h)
def xA {n i:Nat}(h:i < n):n - 1 - (n - 1 - i)=i:=Nat.sub_sub_self (Nat.le_sub_one_of_lt h)
def CY {n i:Nat}(h:i < n):n - 1 - (n - 1 - i) < n:=by rw[xA h];exact h
local macro_rules|`(tactic|lia)=>`(tactic|first | (with_reducible (first | assumption | exact Nat.le_of_lt ‹_› | exact Nat.lt_add_one_of_le ‹_› | exact Nat.lt_add_one _ | exact Nat.le_add_right _ _ | exact Nat.le_add_left _ _ | exact Nat.le_of_lt_add_one ‹_› | exact Nat.lt_of_le_of_lt (Nat.zero_le _) ‹_› | exact Nat.sub_lt ‹_› Nat.one_pos | exact mR ‹_› ‹_› | exact mS ‹_› ‹_› | exact mR ‹_› (rV ‹_›) | exact mS ‹_› (rV ‹_›) | exact mR ‹_› (xx ‹_›) | exact rW ‹_› | exact rX ‹_› ‹_› | exact rY ‹_› ‹_› | exact rZ ‹_› ‹_› | exact r6 ‹_› ‹_› | exact r9 ‹_› ‹_› | exact sf ‹_› | exact sg ‹_› ‹_› | exact si ‹_› | exact eG ‹_› | exact sk ‹_› | exact so ‹_› ‹_› | exact jg ‹_› ‹_› | exact kH ‹_› ‹_› | exact sv ‹_› ‹_› ‹_› | exact mT ‹_› ‹_› ‹_› ‹_› | exact Nat.sub_sub_self ‹_› | exact CU ‹_› | exact Nat.sub_le_sub_right ‹_› _ | exact Nat.sub_le_sub_left ‹_› _ | exact iC ‹_› ‹_› | exact CV ‹_› | exact cM ‹_› ‹_› | exact CW ‹_› ‹_› | exact xA ‹_› | exact CY ‹_› | exact mS ‹_› (xx ‹_›) | exact mR ‹_› (xy ‹_›) | exact mS ‹_› (xy ‹_›) | exact Nat.sub_le _ _ | exact Nat.add_sub_of_le ‹_› | exact Nat.le_refl _ | exact Nat.le_trans ‹_› ‹_› | exact Nat.lt_of_lt_of_le ‹_› ‹_› | exact Nat.lt_of_le_of_lt ‹_› ‹_› | exact Nat.le_trans (Nat.le_of_lt ‹_›) ‹_› | exact Nat.lt_of_lt_of_eq ‹_› ‹_› | exact Nat.lt_of_lt_of_eq ‹_› (Eq.symm ‹_›) | exact Nat.le_of_eq ‹_› | exact Nat.le_of_eq (Eq.symm ‹_›) | exact Nat.lt_of_lt_of_le ‹_› (Nat.le_add_right _ _) | exact Nat.le_antisymm ‹_› ‹_› | exact Eq.symm ‹_› | exact Int.natCast_nonneg _ | exact Int.ofNat_lt.mpr ‹_› | exact Int.ofNat_lt.mp ‹_› | exact Int.ofNat_le.mpr ‹_› | exact Int.le_of_lt ‹_›)) | cutsat|omega)
abbrev ao:=@PySem.wpAny_bind
abbrev aA:=@PySem.wpAny_pure
abbrev dP:=@PySem.wpAny_mono
abbrev ae:=@if_pos
abbrev af:=@if_neg
abbrev ar:=@Or.inl
abbrev dg:=@Or.inr
abbrev aS:=@Ne.symm
abbrev jh:=@Decidable.byContradiction
abbrev bJ:=@PySem.boot_len
open PySem.W (Frag nsIn codeIn keepIn tabIn codeHdIn mg_of mg_none_of fnOf OpenLaw kitOne mroIn findIn)
abbrev ai:=@Nat.le_refl
abbrev aq:=@List.length_map
abbrev ax:=@Nat.le_trans
abbrev az:=@List.getElem?_eq_getElem
abbrev aE:=@List.getD_eq_getElem?_getD
abbrev aJ:=@Option.some.inj
abbrev aK:=@PySem.Heap.lt_size
abbrev aM:=@List.getElem?_eq_some_iff
abbrev aP:=@Nat.lt_of_lt_of_le
abbrev aQ:=@List.mem_singleton
abbrev aR:=@PySem.Heap.get?_push_of_some
abbrev aT:=@List.length_take
abbrev aW:=@List.mem_cons
abbrev aX:=@decide_eq_true
abbrev aZ:=@Nat.le_of_lt
abbrev bc:=@List.length_append
abbrev bf:=@List.getElem?_map
abbrev bj:=@decide_eq_false
abbrev bo:=@Nat.ne_of_lt
abbrev bp:=@List.mem_append
abbrev bq:=@List.map_append
abbrev bu:=@List.take_of_length_le
abbrev bx:=@List.mem_cons_self
abbrev bA:=@List.mem_map
abbrev bG:=@List.mem_cons_of_mem
abbrev bH:=@Array.length_toList
abbrev bI:=@List.map_cons
abbrev bK:=@Nat.zero_le
abbrev bL:=@List.size_toArray
abbrev bM:=@of_decide_eq_true
abbrev bY:=@List.append_nil
abbrev cm:=@Bool.false_ne_true
abbrev cn:=@List.mem_append_right
abbrev cp:=@Nat.le_of_not_lt
abbrev cq:=@List.length_range
abbrev cy:=@List.mem_of_getElem?
abbrev cz:=@Nat.add_le_add_left
abbrev cA:=@Nat.le_add_right
abbrev cE:=@List.length_cons
abbrev cF:=@List.take_succ_eq_append_getElem
abbrev cH:=@Nat.lt_of_le_of_ne
abbrev cN:=@Nat.lt_of_le_of_lt
abbrev cQ:=@PySem.Heap.get?_push_size
abbrev cR:=@List.length_replicate
abbrev cS:=@Bool.false_eq_true
abbrev cT:=@List.pairwise_iff_getElem
abbrev cU:=@List.getElem_mem
abbrev cZ:=@List.mem_range
abbrev c4:=@List.pairwise_append
abbrev c6:=@List.lookup_cons
abbrev c7:=@List.filter_append
abbrev dm:=@Nat.le_succ
abbrev dn:=@Nat.le_of_eq
abbrev dq:=@List.append_assoc
abbrev dr:=@List.filter_cons_of_pos
abbrev dz:=@List.nodup_cons
abbrev dA:=@Nat.le_of_lt_succ
abbrev dB:=@Nat.add_lt_add_left
abbrev dC:=@List.getElem_of_mem
abbrev dD:=@List.sum_cons
abbrev dQ:=@Nat.lt_irrefl
abbrev dR:=@Nat.succ_pos
abbrev dS:=@Array.toList_append
abbrev dU:=@List.not_mem_nil
abbrev dW:=@List.length_filter_le
abbrev d9:=@Bool.and_eq_true
abbrev ef:=@Nat.sub_one_lt_of_lt
abbrev eh:=@Nat.min_eq_left
abbrev er:=@List.getElem?_eq_none
abbrev eA:=@List.all_eq_true
abbrev eB:=@List.filter_cons_of_neg
abbrev eJ:=@List.mem_filter
abbrev eK:=@Array.getElem?_eq_getElem
abbrev eL:=@Nat.sub_le
abbrev eN:=@List.drop_eq_nil_of_le
abbrev eO:=@Nat.pos_of_ne_zero
abbrev eP:=@Array.getElem?_toList
abbrev eX:=@List.mem_append_left
abbrev eY:=@List.length_drop
abbrev eZ:=@Option.map_eq_some_iff
abbrev e8:=@Nat.lt_of_not_le
abbrev fb:=@List.take_append_drop
abbrev fc:=@Nat.add_zero
abbrev fe:=@Nat.mod_lt
abbrev fz:=@List.length_singleton
abbrev fA:=@Nat.le_sub_one_of_lt
abbrev fB:=@Nat.add_sub_of_le
abbrev fD:=@Nat.zero_add
abbrev fE:=@Int.zero_add
abbrev fM:=@List.getElem?_append_right
abbrev fN:=@Int.toNat_natCast
abbrev fO:=@Nat.le_antisymm
abbrev fP:=@List.nodup_append
abbrev fQ:=@List.range_succ
abbrev f6:=@List.ext_getElem?
abbrev gx:=@List.any_cons
abbrev gy:=@List.nodup_nil
abbrev gA:=@Nat.add_le_add_right
abbrev gB:=@Nat.lt_of_succ_lt
abbrev gC:=@List.getElem?_range
abbrev gS:=@List.getElem?_append_left
abbrev gT:=@Nat.zero_lt_of_lt
abbrev gU:=@Nat.not_le_of_lt
abbrev gV:=@Nat.sub_pos_of_lt
abbrev gW:=@Nat.add_comm
abbrev gX:=@Bool.not_eq_true'
abbrev gY:=@List.take_zero
abbrev gZ:=@Bool.not_true
abbrev g8:=@Nat.not_lt
abbrev g9:=@List.map_take
abbrev hE:=@Nat.pow_succ
abbrev iD:=@Nat.ne_of_gt
abbrev iE:=@Int.natCast_nonneg
abbrev iF:=@PySem.Heap.get?_update_other
abbrev iG:=@Bool.and_false
abbrev iH:=@Nat.sub_sub
abbrev iI:=@Nat.min_eq_right
abbrev iJ:=@Nat.succ_le_succ
abbrev iK:=@List.mem_of_mem_take
abbrev iL:=@List.map_map
abbrev iM:=@List.pairwise_map
abbrev iN:=@Bool.eq_false_iff
abbrev iO:=@of_decide_eq_false
abbrev iP:=@List.filter_eq_nil_iff
abbrev ji:=@List.find?_cons
abbrev jk:=@Option.map_some
abbrev jl:=@List.map_nil
abbrev jm:=@Nat.lt_trans
abbrev jn:=@Nat.two_pos
abbrev jo:=@Nat.le_of_add_right_le
abbrev jq:=@Nat.not_lt_of_le
abbrev jr:=@Nat.lt_succ_of_le
abbrev jt:=@Array.toList_push
abbrev ju:=@Nat.add_assoc
abbrev jv:=@List.getElem?_take
abbrev jw:=@PySem.Heap.size_push
abbrev jx:=@Nat.lt_succ_self
abbrev jy:=@Nat.testBit_succ
abbrev jz:=@List.map_set
abbrev jA:=@Bool.or_false
abbrev kI:=@List.filterMap_cons
abbrev kJ:=@List.of_mem_zip
abbrev kK:=@List.length_nil
abbrev kL:=@Nat.le_sub_of_add_le
abbrev kM:=@Nat.not_lt_zero
abbrev kO:=@List.drop_eq_getElem_cons
abbrev kP:=@Array.toList_reverse
abbrev kQ:=@Nat.add_sub_cancel
abbrev kR:=@List.getElem?_cons_succ
abbrev kS:=@Int.emod_nonneg
abbrev kT:=@Int.emod_lt_of_pos
abbrev kU:=@Bool.or_eq_true
abbrev kW:=@List.mem_reverse
abbrev kZ:=@List.nodup_range
abbrev lg:=@List.getElem?_set
abbrev lh:=@List.pairwise_lt_range
abbrev ll:=@List.length_reverse
abbrev lq:=@List.filter_congr
abbrev lx:=@List.mem_or_eq_of_mem_set
abbrev mU:=@Bool.eq_iff_iff
abbrev mV:=@List.length_set
abbrev mW:=@List.all_cons
abbrev mX:=@Bool.false_or
abbrev mY:=@Nat.le_succ_of_le
abbrev mZ:=@Nat.lt_add_of_pos_right
abbrev m4:=@Nat.sub_le_sub_left
abbrev m5:=@Nat.sub_lt_left_of_lt_add
abbrev m6:=@Nat.le_sub_of_add_le'
abbrev m8:=@Nat.le_mul_of_pos_left
abbrev m9:=@List.getElem_take
abbrev ng:=@List.drop_drop
abbrev nh:=@List.perm_append_comm
abbrev ni:=@Array.toList_extract
abbrev nj:=@List.extract_eq_take_drop
abbrev nk:=@List.nil_append
abbrev nq:=@Nat.eq_zero_of_not_pos
abbrev nr:=@List.drop_take
abbrev nv:=@List.reverse_append
abbrev ny:=@List.drop_zero
abbrev nz:=@List.getElem?_drop
abbrev nA:=@List.foldl_cons
abbrev nB:=@Nat.lt_succ_of_lt
abbrev nC:=@List.eq_nil_of_length_eq_zero
abbrev nE:=@List.reverse_cons
abbrev nF:=@List.length_zip
abbrev nG:=@List.mem_flatten
abbrev nH:=@List.any_append
abbrev nI:=@List.replicate_succ'
abbrev nJ:=@List.flatten_append
abbrev nK:=@List.filter_nil
abbrev nM:=@List.filter_filter
abbrev nN:=@Bool.true_and
abbrev sx:=@List.mem_filterMap
abbrev sy:=@Option.isSome_iff_exists
abbrev sG:=@List.getElem?_replicate
abbrev sH:=@PySem.Heap.get?_update_self
abbrev sI:=@Array.perm_iff_toList_perm
abbrev sJ:=@List.pairwise_cons
abbrev sL:=@List.mem_of_mem_drop
abbrev sM:=@Nat.add_right_comm
abbrev sN:=@Bool.not_eq_false'
abbrev sO:=@List.reverse_reverse
abbrev sP:=@Nat.le_of_sub_eq_zero
abbrev sQ:=@List.zip_cons_cons
abbrev sR:=@List.getElem?_reverse
abbrev sS:=@List.mem_take_iff_getElem
abbrev sT:=@List.filter_eq_self
abbrev sU:=@List.map_congr_left
abbrev sV:=@List.find?_cons_of_pos
abbrev sW:=@List.find?_cons_of_neg
section
local macro_rules|`(#[$xs,*])=>`(⟨$xs,*⟩)
namespace L2
open PySem PySem.Spec PyProof.Rows
abbrev Key:=Sum Int Str
def iQ:Key->Value->Bool
  | .inl k,v=>Value.isInt k v
  | .inr x,v=>Value.isStrOf x v
def keyH (w:World):Key->Int
  | .inl k=>hashInt k
  | .inr x=>hashStr w x
def f7:∀{k:Key} {v:Value},iQ k v=true->(∃ i t,k=Sum.inl i/\v=Value.int i t)\/(∃ x t,k=Sum.inr x/\v=Value.str x t)
  | .inl i,v,h=>by
    obtain ⟨t,e⟩:=Value.isInt_shape (k:=i) (v:=v) h;exact .inl #[i,t,rfl,e]
  | .inr x,v,h=>by
    obtain ⟨t,e⟩:=Value.isStrOf_shape (x:=x) (v:=v) h;exact .inr #[x,t,rfl,e]
def CZ (i:Int)(t:Tok):iQ (.inl i) (.int i t)=true:=by simp[iQ,Value.isInt]
def C0 (x:Str)(t:Tok):iQ (.inr x) (.str x t)=true:=by simp[iQ,Value.isStrOf]
def C1 (a b:Int):decide ((Sum.inl a:Key)=Sum.inl b)=(a==b):=by
  by_cases e:a=b
  · subst e;simp
  · have h:¬ (Sum.inl a:Key)=Sum.inl b:=λq=>e (Sum.inl.inj q)
    rw[bj h];exact (beq_eq_false_iff_ne.mpr e).symm
def C3 (a b:Str):decide ((Sum.inr a:Key)=Sum.inr b)=decide (a=b):=by
  by_cases e:a=b
  · subst e;simp
  · have h:¬ (Sum.inr a:Key)=Sum.inr b:=λq=>e (Sum.inr.inj q)
    rw[bj h,bj e]
def C4 (a:Int)(b:Str):decide ((Sum.inl a:Key)=Sum.inr b)=false:=bj (λq=>nomatch q)
def C5 (a:Str)(b:Int):decide ((Sum.inr a:Key)=Sum.inl b)=false:=bj (λq=>nomatch q)
def bB (prog:Program)(w:World):PySem.KeyKind prog w Key where
  is:=iQ
  hash:=keyH w
  inj:=λv a b ha hb=>by
    rcases f7 ha with ⟨i,t,rfl,rfl⟩|⟨x,t,rfl,rfl⟩
    · rcases f7 hb with ⟨j,u,rfl,e⟩|⟨y,u,rfl,e⟩
      · injection e with e1 _;rw[e1]
      · exact nomatch e
    · rcases f7 hb with ⟨j,u,rfl,e⟩|⟨y,u,rfl,e⟩
      · exact nomatch e
      · injection e with e1 _;rw[e1]
  byValue:=λk v h=>by
    rcases f7 h with ⟨i,t,rfl,rfl⟩|⟨x,t,rfl,rfl⟩<;>rfl
  pyHash:=λhv h=>by
    rcases f7 hv with ⟨i,t,rfl,rfl⟩|⟨x,t,rfl,rfl⟩
    · exact wpAny_pyHash_int h
    · exact wpAny_pyHash_str h
  eqBool:=λhu hv h=>by
    rcases f7 hu with ⟨i,t,rfl,rfl⟩|⟨x,t,rfl,rfl⟩
    · rcases f7 hv with ⟨j,u,rfl,rfl⟩|⟨y,u,rfl,rfl⟩
      · rw[C1]at h;exact wpAny_eqBool_int h
      · rw[C4]at h;exact SeqAt.EqAt.int_str i t y u _ _ _ _ h
    · rcases f7 hv with ⟨j,u,rfl,rfl⟩|⟨y,u,rfl,rfl⟩
      · rw[C5]at h;exact SeqAt.EqAt.str_int x t j u _ _ _ _ h
      · rw[C3]at h;exact wpAny_eqBool_str h
  «strs»:=λk x t v h=>by
    rcases f7 h with ⟨i,u,rfl,e⟩|⟨y,u,rfl,e⟩
    · exact nomatch e
    · injection e with e1 _
      subst e1;cases v<;>rfl
def C6 (prog:Program)(w:World)(k:Key)(v:Value):(bB prog w).is k v=iQ k v:=rfl
def sZ (prog:Program)(w:World)(i:Int)(t:Tok):(bB prog w).is (.inl i) (.int i t)=true:=CZ i t
def C7 (prog:Program)(w:World)(x:Str)(t:Tok):(bB prog w).is (.inr x) (.str x t)=true:=C0 x t
inductive V where
  | non|bl (b:Bool)|int (i:Int)|str (x:Str)|byt (b:Array UInt8)|flt (b:UInt64)|ref (a:Addr)|ty (n:String)
  deriving DecidableEq
def RelV:V->Value->Prop
  | .non,u=>u=Value.none
  | .bl b,u=>u=Value.bool b
  | .int i,u=>∃ t,u=Value.int i t
  | .str x,u=>∃ t,u=Value.str x t
  | .byt b,u=>∃ t,u=Value.bytes b t
  | .flt b,u=>∃ t,u=Value.float b t
  | .ref a,u=>u=Value.ref a
  | .ty n,u=>u=Value.type n
abbrev Vals:List V->List Value->Prop:=Paired RelV
def Vals.length {xs:List V}{us:List Value}(r:Vals xs us):xs.length=us.length:=Paired.length r
def Vals.get:∀{xs:List V} {us:List Value} {i:Nat} {x:V},Vals xs us->xs[i]?=some x->∃ u,us[i]?=some u/\RelV x u
  | _,_,_,_,.nil,e=>by simp at e
  | _,_,0,_,.cons r _,e=>by simp at e;subst e;exact #[_,rfl,r]
  | _,_,i+1,x,.cons _ t,e=>by
    obtain ⟨u,h1,h2⟩:=Vals.get (i:=i) (x:=x) t (by simpa using e);exact #[u,by simpa using h1,h2]
def Vals.set {x:V}{u:Value}(r:RelV x u):∀{xs:List V} {us:List Value} (i:Nat),Vals xs us->Vals (xs.set i x) (us.set i u)
  | _,_,_,.nil=>.nil
  | _,_,0,.cons _ t=>.cons r t
  | _,_,i+1,.cons q t=>.cons q (Vals.set r i t)
def Vals.append:∀{xs ys:List V} {us ws:List Value},Vals xs us->Vals ys ws->Vals (xs++ys) (us++ws)
  | _,_,_,_,.nil,s=>s
  | _,_,_,_,.cons r t,s=>.cons r (Vals.append t s)
def Vals.take:∀{xs:List V} {us:List Value} (n:Nat),Vals xs us->Vals (xs.take n) (us.take n)
  | _,_,0,_=>.nil
  | _,_,_+1,.nil=>.nil
  | _,_,n+1,.cons r t=>.cons r (Vals.take n t)
def Vals.drop:∀{xs:List V} {us:List Value} (n:Nat),Vals xs us->Vals (xs.drop n) (us.drop n)
  | _,_,0,r=>r
  | _,_,_+1,.nil=>.nil
  | _,_,n+1,.cons _ t=>Vals.drop n t
def RelO:Option V->Option Value->Prop
  | some v,some u=>RelV v u
  | none,none=>True
  | _,_=>False
def KV {κ:Type}:List (κ×V)->List (κ×Value)->Prop:=Paired λ(p:κ×V) (q:κ×Value)=>p.1=q.1/\RelV p.2 q.2
def kV:Key->V
  | .inl i=>.int i
  | .inr x=>.str x
inductive HO where
  | lst (xs:List V)
  | tup (xs:List V)
  | dK (kvs:List (Key×V))|dT (kvs:List (List Key×V))
  | set (S:Int->Bool) (n:Nat)
  | ins (C dx:Addr) (fs:List (Str×V))
  | own (x:Addr)
  | xd (fs:List (Str×V))
  | met (f x:Addr)
  | rng (lo hi:Int)
  | frz (o:Obj) (u:HO)
  | tbl (ps:Array Value)
  | ext (φ:Heap->Prop)
abbrev Hp:=Addr->Option HO
def upd (H:Hp)(a:Addr)(o:HO):Hp:=λb=>if b=a then some o else H b
def ak {a:Addr}:upd H a o a=some o:=by unfold upd;rw[ae rfl]
def aj {a b:Addr}(h:b≠a):upd H a o b=H b:=by unfold upd;rw[af h]
def C8 {a:Addr}:upd (upd H a o) a u=upd H a u:=by
  funext b;unfold upd;split<;>rfl
def xB {H:Hp}{a b:Addr}{o u:HO}(h:H a=some o)(h':H b=some u)(d:o≠u):a≠b:=by
  intro e;subst e;rw[h]at h';exact d (aJ h')
def au {H:Hp}{a b:Addr}{o:HO}(h:H a=some o)(h':H b=none):a≠b:=by
  intro e;subst e;rw[h]at h';cases h'
section
variable (P:Program)(w:World)
def bD (H:Hp)(h:Heap)(a:Addr):HO->Prop
  | .lst xs=>xs.length<=sizeLine/\∃(its:List Value) (n:Nat),Vals xs its/\h.get? a=some { cls:=.type "list",data:=.seq its.toArray n }
  | .tup xs=>xs.length<=sizeLine/\∃ its:List Value,Vals xs its/\IsTup h a its.toArray
  | .dK kvs=>kvs.length<=sizeLine/\(a==sysModules)=false/\∃ vs,KV kvs vs/\h.DictOf (bB P w) a vs
  | .dT kvs=>kvs.length<=sizeLine/\(a==sysModules)=false/\∃ xs:List (List Key×Addr×Value),
      Paired (λ(p:List Key×V) (q:List Key×Addr×Value)=>p.1=q.1/\H q.2.1=some (.tup (p.1.map kV))/\RelV p.2 q.2.2) kvs xs/\
      ∃ o es ep,h.get? a=some o/\o.ExactDict/\o.data=.dict es ep/\es.toList=xs.map (entryOfKey (tupleKind (bB P w)))/\(xs.map (·.1)).Nodup
  | .set S n=>h.SetOf (intKind P w) a S n
  | .ins C dx fs=>H dx=some (.own a)/\fs.length<=1000/\dx≠a/\h.get? a=some (W.instObj C dx)/\
      ∃ mA,h.Ns1 dx mA/\(∀ f,RelO (fs.lookup f) (mA f))/\PySem.Within mA (fs.map (·.1))
  | .own _=>∃ o,h.get? a=some o
  | .xd fs=>∃ mA,h.Ns1 a mA/\∀ f,RelO (fs.lookup f) (mA f)
  | .rng lo hi=>∃ t u v,h.get? a=some { cls:=.type "range",data:=.fields (List.toArray [.int lo t,.int hi u,.int 1 v]) }
  | .frz o u=>h.get? a=some o/\bD H h a u
  | .tbl ps=>h.get? a=some { cls:=.none,data:=.fields ps }
  | .met f x=>h.get? a=some (W.methodObj (.ref f) (.ref x))
  | .ext φ=>φ h/\(∃ o,h.get? a=some o)/\∀ h1 h2:Heap,φ h1->(∀ o,h1.get? a=some o->h2.get? a=some o)->φ h2
def HOk (H:Hp)(h:Heap):Prop:=∀ a o,H a=some o->bD P w H h a o
end
section
variable {P:Program}{w:World}{H H':Hp}{h h':Heap}{a:Addr}{o:HO}
def bD.lt (x:bD P w H h a o):a<h.objs.size:=by
  cases o with
  | lst xs=>obtain ⟨_,_,_,_,e⟩:=x;exact aK e
  | tup xs=>obtain ⟨_,_,_,p⟩:=x;exact p.lt
  | dK kvs=>obtain ⟨_,_,_,_,o,_,_,e,_⟩:=x;exact aK e
  | dT kvs=>obtain ⟨_,_,_,_,o,_,_,e,_⟩:=x;exact aK e
  | set S n=>obtain ⟨o,_,_,_,e,_⟩:=x;exact aK e
  | ins C dx fs=>obtain ⟨_,_,_,e,_⟩:=x;exact aK e
  | own y=>obtain ⟨_,e⟩:=x;exact aK e
  | xd fs=>obtain ⟨_,⟨_,_,_,e,_⟩,_⟩:=x;exact aK e
  | rng lo hi=>obtain ⟨_,_,_,e⟩:=x;exact aK e
  | frz ob u=>obtain ⟨e,_⟩:=x;exact aK e
  | tbl ps=>exact aK (show h.get? a=some _ from x)
  | met f y=>exact aK (show h.get? a=some _ from x)
  | ext φ=>obtain ⟨_,⟨_,e⟩,_⟩:=x;exact aK e
def Paired.mapP {α β:Type}{F G:α->β->Prop}:∀{l₁:List α} {l₂:List β},Paired F l₁ l₂->(∀ a b,F a b->G a b)->Paired G l₁ l₂
  | _,_,.nil,_=>.nil
  | _,_,.cons r t,f=>.cons (f _ _ r) (Paired.mapP t f)
def bD.stay (x:bD P w H h a o)(k:∀ b u,(b=a\/H b=some (.own a))->h.get? b=some u->h'.get? b=some u)
    (ho:∀ b,H b=some (.own a)->H' b=some (.own a)) (ht:∀ b xs,H b=some (.tup xs)->H' b=some (.tup xs)):bD P w H' h' a o:=by
  induction o with
  | lst xs=>obtain ⟨z,its,n,r,e⟩:=x;exact #[z,its,n,r,k _ _ (.inl rfl) e]
  | tup xs=>obtain ⟨z,its,r,ob,e,c⟩:=x;exact #[z,its,r,ob,k _ _ (.inl rfl) e,c]
  | dK kvs=>obtain ⟨z,y,vs,r,ob,es,ep,e,c⟩:=x;exact #[z,y,vs,r,ob,es,ep,k _ _ (.inl rfl) e,c]
  | dT kvs=>
    obtain ⟨z,y,xs,r,ob,es,ep,e,c⟩:=x;exact #[z,y,xs,Paired.mapP r λp q z=>#[z.1,ht _ _ z.2.1,z.2.2],ob,es,ep,k _ _ (.inl rfl) e,c]
  | set S n=>obtain ⟨ob,es,ep,t,e,c⟩:=x;exact #[ob,es,ep,t,k _ _ (.inl rfl) e,c]
  | ins C dx fs=>
    obtain ⟨d,z,ne,e,mA,⟨od,es,ep,e2,c⟩,r⟩:=x;exact #[ho _ d,z,ne,k _ _ (.inl rfl) e,mA,#[od,es,ep,k _ _ (.inr d) e2,c],r]
  | own y=>obtain ⟨ob,e⟩:=x;exact #[ob,k _ _ (.inl rfl) e]
  | xd fs=>obtain ⟨mA,⟨od,es,ep,e,c⟩,r⟩:=x;exact #[mA,#[od,es,ep,k _ _ (.inl rfl) e,c],r]
  | rng lo hi=>obtain ⟨t,u,v,e⟩:=x;exact #[t,u,v,k _ _ (.inl rfl) e]
  | frz ob u ih=>obtain ⟨e,q⟩:=x;exact #[k _ _ (.inl rfl) e,ih q]
  | tbl ps=>
    have e:h.get? a=some { cls:=.none,data:=.fields ps }:=x;show h'.get? a=some { cls:=.none,data:=.fields ps };exact k a _ (.inl rfl) e
  | met f y=>
    have e:h.get? a=some (W.methodObj (.ref f) (.ref y)):=x;show h'.get? a=some (W.methodObj (.ref f) (.ref y));exact k a _ (.inl rfl) e
  | ext φ=>obtain ⟨p,⟨o,e⟩,st⟩:=x;exact #[st _ _ p λo q=>k _ _ (.inl rfl) q,#[o,k _ _ (.inl rfl) e],st]
def HOk.lt (x:HOk P w H h)(e:H a=some o):a<h.objs.size:=(x a o e).lt
def HOk.fresh (x:HOk P w H h)(e:h.objs.size<=a):H a=none:=by
  cases q:H a with
  | none=>rfl
  | some u=>exact absurd (aP (x.lt q) e) (dQ _)
def HOk.kept (x:HOk P w H h)(k:∀ b u,h.get? b=some u->h'.get? b=some u):HOk P w H h':=λa o e=>
  (x a o e).stay (λb u _ q=>k b u q) (λ_ q=>q) λ_ _ q=>q
def HOk.laid (x:HOk P w H h)(k:∀ b u,h.get? b=some u->h'.get? b=some u)(hp:h.objs.size<=a)(new:bD P w (upd H a o) h' a o):HOk P w (upd H a o) h':=λb u e=>by
  have hn:=x.fresh hp;by_cases hb:b=a
  · subst hb;rw[ak]at e;cases e;exact new
  · rw[aj hb]at e
    exact (x b u e).stay (λc v _ q=>k c v q) (λc q=>by rw[aj (au q hn)];exact q) λc xs q=>by rw[aj (au q hn)];exact q
end
def Rd (H:Hp)(a:Addr)(u:HO):Prop:=H a=some u\/∃ o,H a=some (.frz o u)
def Rd.ok {w:World}{h:Heap}{a:Addr}(r:Rd H a u)(x:HOk P w H h):bD P w H h a u:=by
  rcases r with r|⟨o,r⟩
  · exact x a u r
  · obtain ⟨_,q⟩:=x a _ r
    exact q
def Mut:Option HO->Prop
  | some (.lst _)=>True
  | some (.dK _)=>True
  | some (.dT _)=>True
  | some (.set _ _)=>True
  | some (.ins _ _ _)=>True
  | some (.ext _)=>True
  | _=>False
section
variable {P:Program}{w:World}{H:Hp}{h h':Heap}{x e:Addr}{o':HO}
def HOk.write (ok:HOk P w H h)(mu:Mut (H x))(he:e=x\/H e=some (.own x))(k:∀ b u,b≠e->h.get? b=some u->h'.get? b=some u)(heo:∃ u,h'.get? e=some u)
    (new:bD P w (upd H x o') h' x o'):HOk P w (upd H x o') h':=λb u q=>by
  have nown:∀ c y,H c=some (.own y)->c≠x:=λc y r z=>by subst z;rw[r]at mu;exact mu
  have ntup:∀ c xs,H c=some (.tup xs)->c≠x:=λc xs r z=>by subst z;rw[r]at mu;exact mu
  by_cases hb:b=x
  · subst hb;rw[ak]at q;cases q;exact new
  · rw[aj hb]at q
    by_cases hbe:b=e
    · have q':H b=some (.own x):=by
        rcases he with z|z
        · exact absurd (hbe.trans z) hb
        · rw[hbe];exact z
      rw[q]at q';cases q'
      obtain ⟨v,hv⟩:=heo;exact #[v,by rw[hbe];exact hv]
    · refine (ok b u q).stay (λc v hc r=>k c v ?_ r) (λc r=>by rw[aj (nown c b r)];exact r) λc xs r=>by rw[aj (ntup c xs r)];exact r
      rcases hc with rfl|hc
      · exact hbe
      · rintro rfl
        rcases he with z|z
        · exact nown c b hc z
        · rw[hc]at z;cases z;exact hb rfl
end
structure Un (fs ex:List Addr)(H H':Hp)(h h':Heap):Prop where
  keep:∀ b o,h.get? b=some o->H b=none->b∉fs->b∉ex->h'.get? b=some o
  slot:∀ b o,h.get? b=some o->H b=none->b∈fs->b∉ex->∃ sl,h'.get? b=some { o with slots:=sl }
  free:∀ b o,h.get? b=some o->H b=none->b∉ex->H' b=none
  there:∀ b o,h.get? b=some o->b∉ex->∃ o',h'.get? b=some o'
  tups:∀ b xs,H b=some (.tup xs)->H' b=some (.tup xs)
  frzs:∀ b o u,H b=some (.frz o u)->H' b=some (.frz o u)
  tbls:∀ b ps,H b=some (.tbl ps)->∃ more,H' b=some (.tbl (ps++more))
section
variable {fs fs' ex ex':List Addr}{H H1 H2:Hp}{h h1 h2 h':Heap}{a x e:Addr}{o:HO}
def Un.any (u:Un fs ex H H1 h h1){b:Addr}{ob:Obj}(q:h.get? b=some ob)(n:H b=none)(hx:b∉ex):∃ sl,h1.get? b=some { ob with slots:=sl }:=by
  by_cases hb:b∈fs
  · exact u.slot b ob q n hb hx
  · exact #[ob.slots,u.keep b ob q n hb hx]
def Un.kept (k:∀ b u,h.get? b=some u->h'.get? b=some u):Un fs ex H H h h':=
  #[λb ob q _ _ _=>k b ob q,λb ob q _ _ _=>#[ob.slots,k b ob q],λ_ _ _ n _=>n,λb ob q _=>#[ob,k b ob q],λ_ _ q=>q,λ_ _ _ q=>q,λ_ ps q=>#[(List.toArray []),by rw[q];simp]]
def Un.refl:Un fs ex H H h h:=Un.kept λ_ _ q=>q
def Un.laid (k:∀ b u,h.get? b=some u->h'.get? b=some u)(hp:h.objs.size<=a)(hn:H a=none):Un fs ex H (upd H a o) h h' where
  keep:=λb u q _ _ _=>k b u q
  slot:=λb u q _ _ _=>#[u.slots,k b u q]
  free:=λb u q n _=>by rw[aj (bo (aP (aK q) hp))];exact n
  there:=λb u q _=>#[u,k b u q]
  tups:=λb xs q=>by rw[aj (au q hn)];exact q
  frzs:=λb u xs q=>by rw[aj (au q hn)];exact q
  tbls:=λb ps q=>#[(List.toArray []),by rw[aj (au q hn),q];simp]
def Un.write (mu:Mut (H x))(he:e=x\/H e=some (.own x))(k:∀ b u,b≠e->h.get? b=some u->h'.get? b=some u)(heo:∃ u,h'.get? e=some u):Un fs ex H (upd H x o) h h':=by
  have hx:∀ b,H b=none->b≠x:=λb n z=>by subst z;rw[n]at mu;exact mu
  have hb:∀ b,H b=none->b≠e:=λb n z=>by
    subst z;rcases he with r|r
    · exact hx b n r
    · rw[n]at r;cases r
  have hm:∀ b u,H b=some u->¬ Mut (some u)->b≠x:=λb u q nm z=>by subst z;rw[q]at mu;exact nm mu
  refine #[λb u q n _ _=>k b u (hb b n) q,λb u q n _ _=>#[u.slots,k b u (hb b n) q],λb u q n _=>by rw[aj (hx b n)];exact n,λb u q _=>?_,
    λb xs q=>by rw[aj (hm b _ q λz=>z)];exact q,λb u xs q=>by rw[aj (hm b _ q λz=>z)];exact q,λb ps q=>#[(List.toArray []),by rw[aj (hm b _ q λz=>z),q];simp]]
  by_cases hbe:b=e
  · subst hbe;exact heo
  · exact #[u,k b u hbe q]
end
def trk (h:Heap)(H:Hp):List Addr:=(List.range h.objs.size).filter λa=>(H a).isSome
def hidT (h:Heap)(H:Hp):Heap:=W.hideAll h (trk h H)
def C9 (h:Heap)(H:Hp):(hidT h H).objs.size=h.objs.size:=W.hideAll_size _ _
def Da {h:Heap}{H:Hp}{b:Addr}{o:Obj}(e:h.get? b=some o)(n:H b=none):(hidT h H).get? b=some o:=
  W.hideAll_get _ e λhm=>by
    have q:(H b).isSome=true:=(eJ.mp hm).2;rw[n]at q;simp at q
def Dc {b:Addr}{o:Obj}(e:(hidT h H).get? b=some o):h.get? b=some o/\H b=none:=by
  have e':h.get? b=some o:=W.of_hideAll (trk h H) e;refine #[e',?_];cases q:H b with
  | none=>rfl
  | some x=>
    have hm:b∈trk h H:=eJ.mpr #[cZ.mpr (aK e'),by simp[q]];have z:(hidT h H).get? b=none:=W.hideAll_none (trk h H) hm;rw[z]at e;cases e
def De (g h:Heap)(L:Addr):List (Addr×Obj):=(List.range h.objs.size).filterMap λa=>if a=L\/(g.get? a).isSome=true then none else (h.get? a).map λo=>(a,o)
def rest (g h:Heap)(L d:Addr):List (Addr×Obj):=(De g h L).filter λp=>decide (p.1≠d)
structure Mod (K:Frag)(mg:Str->Option Value)(base:Heap):Prop where
  kin:K.In base
  glob:base.Ns mainGlobals mg
  blt:∃ mb,base.Ns builtinsNs mb/\∀ x:Str,x ≠ "__name__"->mb x=bootBuiltins x
  nolimit:base.NoLimit
structure Cx where
  prog:Program
  w:World
  K:Frag
  mg:Str->Option Value
  base:Heap
  A:Around
  N:List Str
  s₀:Shared
  H₀:Hp
  env:Env
  outer:List Env
  stack:List Env
  ex:List Addr
  fn:Str->Bool
  calm:Bool
  pn:List (Addr×Obj)
  xe:Value->Shared->Prop
def frs (l:List Env):List Addr:=l.filterMap (·.frame)
abbrev Cx.fs (X:Cx):List Addr:=frs X.outer
def Vis (sc:Scope)(x:Str):Prop:=sc.names.lookup x=some .local\/sc.names.lookup x=some .cell\/sc.names.lookup x=some .free
def Loc (sc:Scope)(x:Str):Prop:=sc.names.lookup x=some .local\/sc.names.lookup x=some .cell
def Look (env:Env)(h:Heap)(m:Str->Option Value)(x:Str)(u:Value):Prop:=
  (env.kindOf x=some .local/\m x=some u)\/((env.kindOf x=some .cell\/env.kindOf x=some .free)/\∃ c,env.cells.lookup x=some c/\h.IsCell c (some u))
structure Cx.Ok (X:Cx):Prop where
  mod:Mod X.K X.mg X.base
  kind:X.env.scope.kind=.function
  glob:X.env.globals=mainGlobals
  blt:X.env.builtins=builtinsNs
  above:X.s₀.heap.objs.size<=X.env.locals
  inj:∀ x y c,X.env.cells.lookup x=some c->X.env.cells.lookup y=some c->x=y
  has:∀ x,(X.env.kindOf x=some .cell\/X.env.kindOf x=some .free)->∃ c,X.env.cells.lookup x=some c
  cab:∀ x c,X.fn x=true->X.env.cells.lookup x=some c->X.s₀.heap.objs.size<=c
  hd:X.calm=true->X.A.handled=none
  frames:X.A.frames=some X.stack
  stk:X.stack=X.outer\/(X.stack=X.env::X.outer/\X.env.frame=some X.env.locals)
  exf:∀ b∈X.ex,b≠X.env.locals/\∀ x c,X.env.cells.lookup x=some c->c≠b
  bs:∀ b o,X.base.get? b=some o->X.s₀.heap.get? b=some o/\X.H₀ b=none
  bsz:X.base.objs.size<=X.s₀.heap.objs.size
  noex:∀ b o,X.base.get? b=some o->b∉X.ex
  exfs:∀ b∈X.ex,b∉X.fs
  funs:X.s₀.heap.FunFrames X.base X.outer
  frf:∀ b∈X.fs,X.H₀ b=none
structure Inv (X:Cx)(LB:List (Addr×Obj))(Z:List (Option V))(H:Hp)(s:Shared):Prop where
  ok:X.Ok
  os:s.os=X.s₀.os
  bare:AllBare s.gens
  base:Un X.fs X.ex X.H₀ H X.s₀.heap s.heap
  loc:∃ m,s.heap.Ns X.env.locals m/\∀(i:Nat) (x:Str) (v:V),X.N[i]?=some x->Z[i]?=some (some v)->Vis X.env.scope x->∃ u,RelV v u/\Look X.env s.heap m x u
  cell:∀ x c,X.env.cells.lookup x=some c->∃ v,s.heap.IsCell c v
  free:H X.env.locals=none
  freeC:∀ x c,X.env.cells.lookup x=some c->H c=none
  pin:∀ p∈X.pn++LB,s.heap.get? p.1=some p.2/\H p.1=none/\p.1≠X.env.locals/\p.1∉X.fs/\∀ v,p.2.data≠.cell v
  hok:HOk X.prog X.w H s.heap
  len:Z.length=X.N.length
section
variable {X:Cx}{LB:List (Addr×Obj)}{Z:List (Option V)}{H H':Hp}{s:Shared}{h':Heap}
def Cx.Ok.nofr (ok:X.Ok){b:Addr}{o:Obj}(e:X.base.get? b=some o):b∉X.fs:=λhb=>by
  have:=(ok.funs.mem hb).1;rw[e]at this;cases this
def Inv.bs (I:Inv X LB Z H s):∀ b o,X.base.get? b=some o->s.heap.get? b=some o/\H b=none:=λb o e=>
  #[I.base.keep b o (I.ok.bs b o e).1 (I.ok.bs b o e).2 (I.ok.nofr e) (I.ok.noex b o e),I.base.free b o (I.ok.bs b o e).1 (I.ok.bs b o e).2 (I.ok.noex b o e)]
def Inv.bk (I:Inv X LB Z H s):∀ b o,X.base.get? b=some o->s.heap.get? b=some o:=λb o e=>(I.bs b o e).1
def Inv.mod (I:Inv X LB Z H s):Mod X.K X.mg X.base:=I.ok.mod
def Inv.kIn (I:Inv X LB Z H s):X.K.In s.heap:=I.ok.mod.kin.keeps I.bk
def Inv.lt (I:Inv X LB Z H s):X.env.locals<s.heap.objs.size:=let ⟨_,hn,_⟩:=I.loc;hn.lt
def Inv.sz (I:Inv X LB Z H s):X.s₀.heap.objs.size<=s.heap.objs.size:=ax I.ok.above (aZ I.lt)
def Inv.nofs (I:Inv X LB Z H s){a:Addr}(h:s.heap.objs.size<=a):a∉X.fs:=λhb=>by
  obtain ⟨_,o,ho,_⟩:=I.ok.funs.mem hb;exact absurd (aP (aK ho) (ax I.sz h)) (dQ _)
def Inv.cne (I:Inv X LB Z H s):∀ x c,X.env.cells.lookup x=some c->c≠X.env.locals:=λx c e z=>by
  obtain ⟨v,o,ho,hd⟩:=I.cell x c e;obtain ⟨m,⟨o',es,ep,ho',hd',_⟩,_⟩:=I.loc;rw[z,ho']at ho;cases ho;rw[hd']at hd;cases hd
def Inv.funs (I:Inv X LB Z H s):s.heap.FunFrames X.base X.outer:=by
  have all:∀(l:List Env),(∀ b∈frs l,b∈X.fs)->X.s₀.heap.FunFrames X.base l->s.heap.FunFrames X.base l:=by
    intro l
    induction l with
    | nil=>intro _ _;trivial
    | cons env r ih=>
      intro hs hl;obtain ⟨hk,⟨L,o,hf,hn,ho,hd⟩,hr⟩:=hl;have hL:L∈X.fs:=hs L (by unfold frs;rw[kI,hf];exact bx);obtain ⟨sl,e⟩:=I.base.slot L o ho (I.ok.frf L hL) hL λz=>I.ok.exfs L z hL;exact #[hk,#[L,_,hf,hn,e,hd],ih (λb hb=>hs b (by unfold frs;rw[kI,hf];exact bG _ hb)) hr]
  exact all X.outer (λ_ hb=>hb) I.ok.funs
def Inv.stack (I:Inv X LB Z H s):s.heap.FunFrames X.base X.stack:=by
  rcases I.ok.stk with e|⟨e,hf⟩
  · rw[e];exact I.funs
  · rw[e]
    obtain ⟨m,hn,_⟩:=I.loc;refine .cons (by rw[I.ok.kind];decide) hf hn ?_ I.funs;exact Heap.get?_none_of_le (ax I.ok.bsz I.ok.above)
def Inv.stkSub (I:Inv X LB Z H s):∀ b∈frs X.stack,b∈X.env.locals::X.fs:=λb hb=>by
  rcases I.ok.stk with e|⟨e,hf⟩
  · rw[e]at hb;exact bG _ hb
  · rw[e]at hb
    unfold frs at hb;rw[kI,hf]at hb;exact hb
def Inv.stkFree (I:Inv X LB Z H s):∀ b∈frs X.stack,H b=none:=λb hb=>by
  rcases aW.mp (I.stkSub b hb) with e|hb
  · rw[e];exact I.free
  · obtain ⟨_,o,ho,_⟩:=I.ok.funs.mem hb
    exact I.base.free b o ho (I.ok.frf b hb) λz=>I.ok.exfs b z hb
def Inv.step {g':Array GenState}{t':Nat}{d':Drawn}{ch:List Addr}(I:Inv X LB Z H s)
    (hch:∀ b∈ch,(b∈X.ex\/X.s₀.heap.objs.size<=b)/\b≠X.env.locals/\(∀ x c,X.env.cells.lookup x=some c->c≠b)/\∀ p∈X.pn++LB,p.1≠b)
    (keep:∀ b o,b≠X.env.locals->b∉X.fs->b∉ch->s.heap.get? b=some o->H b=none->h'.get? b=some o)
    (slot:∀ b o,b≠X.env.locals->b∈X.fs->b∉ch->s.heap.get? b=some o->H b=none->∃ sl,h'.get? b=some { o with slots:=sl }) (free:∀ b o,b∉ch->s.heap.get? b=some o->H b=none->H' b=none)
    (there:∀ b o,b∉ch->s.heap.get? b=some o->∃ o',h'.get? b=some o')
    (tups:∀ b xs,H b=some (.tup xs)->H' b=some (.tup xs)) (frzs:∀ b o u,H b=some (.frz o u)->H' b=some (.frz o u)) (tbls:∀ b ps,H b=some (.tbl ps)->∃ more,H' b=some (.tbl (ps++more)))
    (ns:∀ m,s.heap.Ns X.env.locals m->h'.Ns X.env.locals m) (hok:HOk X.prog X.w H' h') (hg:AllBare g') :
    Inv X LB Z H' { s with heap:=h',gens:=g',drawn:=d',toks:=t' }:=by
  have neL:∀ b o,X.s₀.heap.get? b=some o->b≠X.env.locals:=λb o e=>bo (aP (aK e) I.ok.above);have neC:∀ b o,X.s₀.heap.get? b=some o->b∉X.ex->b∉ch:=λb o e hx hb=>by
    rcases (hch b hb).1 with z|z
    · exact hx z
    · exact absurd (aP (aK e) z) (dQ _)
  have cellK:∀ x c,X.env.cells.lookup x=some c->∀ v,s.heap.IsCell c v->h'.IsCell c v:=λx c e v ⟨o,ho,hd⟩=>by
    have nch:c∉ch:=λz=>(hch c z).2.2.1 x c e rfl;by_cases hc:c∈X.fs
    · obtain ⟨sl,q⟩:=slot c o (I.cne x c e) hc nch ho (I.freeC x c e)
      exact #[_,q,hd]
    · exact #[o,keep c o (I.cne x c e) hc nch ho (I.freeC x c e),hd]
  refine #[I.ok,I.os,hg,#[λb o e n hb hx=>?_,λb o e n hb hx=>?_,λb o e n hx=>?_,λb o e hx=>?_,λb xs e=>tups b xs (I.base.tups b xs e),λb o xs e=>frzs b o xs (I.base.frzs b o xs e),λb ps e=>?_],?_,λx c e=>?_,?_,λx c e=>?_,λp hp=>?_,hok,I.len]
  · exact keep b o (neL b o e) hb (neC b o e hx) (I.base.keep b o e n hb hx) (I.base.free b o e n hx)
  · obtain ⟨sl,e1⟩:=I.base.slot b o e n hb hx
    obtain ⟨sl',e2⟩:=slot b _ (neL b o e) hb (neC b o e hx) e1 (I.base.free b o e n hx);exact #[sl',e2]
  · obtain ⟨o',e1⟩:=I.base.there b o e hx
    exact free b o' (neC b o e hx) e1 (I.base.free b o e n hx)
  · obtain ⟨o',e1⟩:=I.base.there b o e hx
    exact there b o' (neC b o e hx) e1
  · obtain ⟨m1,e1⟩:=I.base.tbls b ps e
    obtain ⟨m2,e2⟩:=tbls b _ e1;exact #[m1++m2,by rw[e2,Array.append_assoc]]
  · obtain ⟨m,hn,hl⟩:=I.loc
    refine #[m,ns m hn,λi x v e1 e2 e3=>?_];obtain ⟨u,r,l⟩:=hl i x v e1 e2 e3;refine #[u,r,?_];rcases l with l|⟨k,c,e,z⟩
    · exact .inl l
    · exact .inr #[k,c,e,cellK x c e _ z]
  · obtain ⟨v,z⟩:=I.cell x c e
    exact #[v,cellK x c e v z]
  · obtain ⟨m,⟨o,_,_,ho,_⟩,_⟩:=I.loc
    exact free _ o (λz=>(hch _ z).2.1 rfl) ho I.free
  · obtain ⟨v,o,ho,hd⟩:=I.cell x c e
    exact free c o (λz=>(hch c z).2.2.1 x c e rfl) ho (I.freeC x c e)
  · obtain ⟨e,n,ne,nf,d⟩:=I.pin p hp
    have nch:p.1∉ch:=λz=>(hch p.1 z).2.2.2 p hp rfl;exact #[keep p.1 p.2 ne nf nch e n,free p.1 p.2 nch e n,ne,nf,d]
def Inv.un {t':Nat}(I:Inv X LB Z H s)(u:Un X.fs [] H H' s.heap h')(hok:HOk X.prog X.w H' h'):Inv X LB Z H' { s with heap:=h',toks:=t' }:=by
  obtain ⟨m,⟨o,es,ep,ho,r⟩,_⟩:=id I.loc;obtain ⟨sl,hL⟩:=u.any ho I.free (by simp);exact I.step (g':=s.gens) (d':=s.drawn) (ch:=[]) (λ_ z=>nomatch z) (λb o _ hb _ e n=>u.keep b o e n hb (by simp)) (λb o _ hb _ e n=>u.slot b o e n hb (by simp)) (λb o _ e n=>u.free b o e n (by simp)) (λb o _ e=>u.there b o e (by simp)) u.tups u.frzs u.tbls (λm' hm=>by
    obtain ⟨o',es',ep',ho',r'⟩:=hm;rw[ho]at ho';cases ho'
    exact #[_,es',ep',hL,r']) hok I.bare
def Inv.call {g':Array GenState}{t':Nat}{d':Drawn}(I:Inv X LB Z H s)(u:Un (frs X.stack) ch H H' s.heap h')(hok:HOk X.prog X.w H' h')(hg:AllBare g')
    (hch:∀ b∈ch,(b∈X.ex\/X.s₀.heap.objs.size<=b)/\b≠X.env.locals/\(∀ x c,X.env.cells.lookup x=some c->c≠b)/\∀ p∈X.pn++LB,p.1≠b) :
    Inv X LB Z H' { s with heap:=h',gens:=g',drawn:=d',toks:=t' }:=by
  obtain ⟨m,⟨o,es,ep,ho,r⟩,_⟩:=id I.loc;obtain ⟨sl,hL⟩:=u.any ho I.free λz=>(hch _ z).2.1 rfl;exact I.step (ch:=ch) hch (λb o hL hb hc e n=>u.keep b o e n (λz=>(aW.mp (I.stkSub b z)).elim hL hb) hc) (λb o _ _ hc e n=>u.any e n hc) (λb o hc e n=>u.free b o e n hc) (λb o hc e=>u.there b o e hc) u.tups u.frzs u.tbls (λm' hm=>by
    obtain ⟨o',es',ep',ho',r'⟩:=hm;rw[ho]at ho';cases ho'
    exact #[_,es',ep',hL,r']) hok hg
def Inv.turned {t':Nat}{it:Addr}(I:Inv X LB Z H s)(k:∀ b o,b≠it->s.heap.get? b=some o->h'.get? b=some o)(hn:H it=none)(hL:it≠X.env.locals)
    (h1:it∈X.ex\/X.s₀.heap.objs.size<=it) (h2:∀ x c,X.env.cells.lookup x=some c->c≠it) (h3:∀ p∈X.pn++LB,p.1≠it):Inv X LB Z H { s with heap:=h',toks:=t' }:=by
  have nit:∀ b u,H b=some u->b≠it:=λb u e z=>by rw[z,hn]at e;cases e
  refine I.step (g':=s.gens) (d':=s.drawn) (ch:=[it]) (λb hb=>?_) (λb o _ _ hc e _=>k b o (λz=>hc (by simp[z])) e) (λb o _ _ hc e _=>#[o.slots,k b o (λz=>hc (by simp[z])) e]) (λ_ _ _ _ n=>n)
    (λb o hc e=>#[o,k b o (λz=>hc (by simp[z])) e]) (λ_ _ e=>e) (λ_ _ _ e=>e) (λb ps e=>#[(List.toArray []),by rw[e];simp]) (λm hm=>?_) (λb u e=>?_) I.bare
  · have e:b=it:=by simpa using hb
    subst e;exact #[h1,hL,h2,h3]
  · obtain ⟨o,es,ep,ho,r⟩:=hm
    exact #[o,es,ep,k _ o (aS hL) ho,r]
  · refine (I.hok b u e).stay (λc v hc q=>k c v ?_ q) (λ_ q=>q) λ_ _ q=>q
    rcases hc with z|z
    · rw[z];exact nit b u e
    · exact nit c _ z
def Inv.tok (I:Inv X LB Z H s)(t:Nat):Inv X LB Z H { s with toks:=t }:=I.un (h':=s.heap) (t':=t) Un.refl I.hok
def Inv.kept {t':Nat}(I:Inv X LB Z H s)(k:∀ b u,s.heap.get? b=some u->h'.get? b=some u):Inv X LB Z H { s with heap:=h',toks:=t' }:=I.un (Un.kept k) (I.hok.kept k)
def Inv.laid {a:Addr}{t':Nat}(I:Inv X LB Z H s)(k:∀ b u,s.heap.get? b=some u->h'.get? b=some u)(hp:s.heap.objs.size<=a)(new:bD X.prog X.w (upd H a o) h' a o) :
    Inv X LB Z (upd H a o) { s with heap:=h',toks:=t' }:=I.un (Un.laid k hp (I.hok.fresh hp)) (I.hok.laid k hp new)
def Inv.write {x e:Addr}{t':Nat}(I:Inv X LB Z H s)(mu:Mut (H x))(he:e=x\/H e=some (.own x))(k:∀ b u,b≠e->s.heap.get? b=some u->h'.get? b=some u)(heo:∃ u,h'.get? e=some u)
    (new:bD X.prog X.w (upd H x o) h' x o):Inv X LB Z (upd H x o) { s with heap:=h',toks:=t' }:=I.un (Un.write mu he k heo) (I.hok.write mu he k heo new)
def Inv.pins_of {pins':List (Addr×Obj)}(I:Inv X LB Z H s)(h:∀ p∈pins',s.heap.get? p.1=some p.2/\H p.1=none/\p.1≠X.env.locals/\p.1∉X.fs/\∀ v,p.2.data≠.cell v):Inv X pins' Z H s:=
  #[I.ok,I.os,I.bare,I.base,I.loc,I.cell,I.free,I.freeC,λp hp=>(bp.mp hp).elim (λz=>I.pin p (eX _ z)) (h p),I.hok,I.len]
def xC {N:List Str}(hN:N.Nodup){i j:Nat}{x:Str}(a:N[i]?=some x)(b:N[j]?=some x):i=j:=by
  obtain ⟨h1,e1⟩:=aM.mp a;obtain ⟨h2,e2⟩:=aM.mp b;exact (List.getElem_inj hN).mp (e1.trans e2.symm)
def tj {M:Model}{A:Around}{E:Value->Shared->Prop}{i:Nat}{x:Str}{v:V}{u:Value}{Q:Unit->Shared->Prop}(I:Inv X LB Z H s)(hN:X.N.Nodup)(hi:X.N[i]?=some x)(hx:Loc X.env.scope x)(r:RelV v u)
    (h:∀ s',Inv X LB (Z.set i (some v)) H s'->(∃ a,Heap.SameBut a s.heap s'.heap/\(a=X.env.locals\/X.env.cells.lookup x=some a))->Q () s') (hf:X.fn x=true\/X.env.scope.names.lookup x=some .local:=by first|exact .inl rfl|exact .inr rfl|assumption):wpAny M A (storeName X.env x u) Q E s:=by
  obtain ⟨m,hn,hl⟩:=id I.loc;have hcls:(X.env.scope.kind == .class||(X.env.scope.kind == .module&&X.env.locals != X.env.globals))=false:=by rw[I.ok.kind];rfl
  have hiσ:i<Z.length:=by rw[I.len];exact (aM.mp hi).1
  have cne:=I.cne;have tracked:∀{a:Addr} {h':Heap},(∃ o,s.heap.get? a=some o/\H a=none)->Heap.SameBut a s.heap h'->HOk X.prog X.w H h':=λ{a h'} ha hs b ob e=>by
    obtain ⟨_,_,hfree⟩:=ha;refine (I.hok b ob e).stay (λc w' hc q=>(hs.2 c ?_).trans q) (λ_ q=>q) λ_ _ q=>q;rintro rfl;rcases hc with rfl|hc
    · rw[hfree]at e;cases e
    · rw[hfree]at hc;cases hc
  rcases hx with hk|hk
  · refine wpAny_storeName_local hk hn (λh' hn' hs=>?_) hcls
    obtain ⟨oL,_,_,hoL,_⟩:=id hn;refine h _ #[I.ok,I.os,I.bare,#[λb o e n hb hx=>?_,λb o e n hb hx=>?_,I.base.free,λb o e hx=>?_,I.base.tups,I.base.frzs,I.base.tbls],#[_,hn',λj y v' e1 e2 e3=>?_],λy c e=>?_,I.free,I.freeC,λp hp=>?_,tracked #[oL,hoL,I.free] hs,by simpa using I.len] #[_,hs,.inl rfl]
    · exact (hs.2 b (bo (aP (aK e) I.ok.above))).trans (I.base.keep b o e n hb hx)
    · obtain ⟨sl,e1⟩:=I.base.slot b o e n hb hx
      exact #[sl,(hs.2 b (bo (aP (aK e) I.ok.above))).trans e1]
    · obtain ⟨o',e1⟩:=I.base.there b o e hx
      exact #[o',(hs.2 b (bo (aP (aK e) I.ok.above))).trans e1]
    · by_cases hj:j=i
      · subst hj
        rw[hi]at e1;cases e1
        rw[List.getElem?_set_self hiσ]at e2;cases e2
        exact #[u,r,.inl #[hk,by simp]]
      · rw[List.getElem?_set_ne (aS hj)]at e2
        obtain ⟨u',r',q⟩:=hl j y v' e1 e2 e3;refine #[u',r',?_];rcases q with ⟨k,e⟩|⟨k,c,e,z⟩
        · refine .inl #[k,?_]
          have:y≠x:=λe=>hj (xC hN e1 (e ▸ hi));simp[this,e]
        · exact .inr #[k,c,e,z.sameBut hs (cne y c e)]
    · obtain ⟨w',z⟩:=I.cell y c e
      exact #[w',z.sameBut hs (cne y c e)]
    · obtain ⟨e,n,ne,nf,d⟩:=I.pin p hp
      exact #[(hs.2 p.1 ne).trans e,n,ne,nf,d]
  · have hfn:X.fn x=true:=by
      rcases hf with z|z
      · exact z
      · rw[z]at hk;cases hk
    obtain ⟨c,hc⟩:=I.ok.has x (.inl hk);obtain ⟨w',z⟩:=I.cell x c hc;refine wpAny_storeName_cell I.ok.kind hk hc z (λh' hc' hs=>?_);obtain ⟨oc,hoc,hocd⟩:=id z;refine h { s with heap:=h' } #[I.ok,I.os,I.bare,#[λb o e n hb hx=>?_,λb o e n hb hx=>?_,I.base.free,λb o e hx=>?_,I.base.tups,I.base.frzs,I.base.tbls],#[m,hn.sameBut hs (aS (cne x c hc)),λj y v' e1 e2 e3=>?_],λy c' e=>?_,I.free,I.freeC,λp hp=>?_,tracked #[oc,hoc,I.freeC x c hc] hs,by simpa using I.len] #[c,hs,.inr hc]
    · exact (hs.2 b (bo (aP (aK e) (I.ok.cab x c hfn hc)))).trans (I.base.keep b o e n hb hx)
    · obtain ⟨sl,e1⟩:=I.base.slot b o e n hb hx
      exact #[sl,(hs.2 b (bo (aP (aK e) (I.ok.cab x c hfn hc)))).trans e1]
    · obtain ⟨o',e1⟩:=I.base.there b o e hx
      exact #[o',(hs.2 b (bo (aP (aK e) (I.ok.cab x c hfn hc)))).trans e1]
    · by_cases hj:j=i
      · subst hj
        rw[hi]at e1;cases e1
        rw[List.getElem?_set_self hiσ]at e2;cases e2
        exact #[u,r,.inr #[.inl hk,c,hc,hc']]
      · rw[List.getElem?_set_ne (aS hj)]at e2
        obtain ⟨u',r',q⟩:=hl j y v' e1 e2 e3;refine #[u',r',?_];rcases q with q|⟨k,c',e,z'⟩
        · exact .inl q
        · refine .inr #[k,c',e,z'.sameBut hs ?_]
          rintro rfl;exact hj (xC hN e1 (I.ok.inj _ _ _ e hc ▸ hi))
    · by_cases hcc:c'=c
      · subst hcc;exact #[_,hc']
      · obtain ⟨w2,z2⟩:=I.cell y c' e
        exact #[w2,z2.sameBut hs hcc]
    · obtain ⟨e,n,ne,nf,d⟩:=I.pin p hp
      refine #[(hs.2 p.1 ?_).trans e,n,ne,nf,d];intro q;rw[q,hoc]at e;have q':oc=p.2:=aJ e;exact d w' (by rw[<-q'];exact hocd)
def nO {M:Model}{A:Around}{E:Value->Shared->Prop}{i:Nat}{x:Str}{v:V}{u:Value}{Q:Unit->Shared->Prop}(I:Inv X LB Z H s)(hN:X.N.Nodup)(hi:X.N[i]?=some x)(hx:Loc X.env.scope x)(r:RelV v u)
    (h:∀ s',Inv X LB (Z.set i (some v)) H s'->Q () s') (hf:X.fn x=true\/X.env.scope.names.lookup x=some .local:=by first|exact .inl rfl|exact .inr rfl|assumption):wpAny M A (storeName X.env x u) Q E s:=
  tj I hN hi hx r (λs' I' _=>h s' I') hf
def Inv.call' {s':Shared}(I:Inv X LB Z H s)(ho:s'.os=s.os)(u:Un (frs X.stack) ch H H' s.heap s'.heap)(hok:HOk X.prog X.w H' s'.heap)(hg:AllBare s'.gens)
    (hch:∀ b∈ch,(b∈X.ex\/X.s₀.heap.objs.size<=b)/\b≠X.env.locals/\(∀ x c,X.env.cells.lookup x=some c->c≠b)/\∀ p∈X.pn++LB,p.1≠b):Inv X LB Z H' s':=by
  obtain ⟨h',g',d',t',o'⟩:=s';have e:o'=s.os:=ho;subst e;exact I.call (g':=g') (t':=t') (d':=d') u hok hg hch
end
abbrev XK:=Value->Option Addr->Hp->Prop
abbrev St:=List (Option V)
abbrev VK:=V->Hp->Prop
abbrev TE:=St->Hp->VK->Prop
abbrev TT:=St->Hp->(Bool->Hp->Prop)->Prop
abbrev TA:=St->Hp->(List V->Hp->Prop)->Prop
structure Ends where
  nx:St->Hp->Prop
  rt:VK
  bk:St->Hp->Prop:=λ_ _=>False
  ct:St->Hp->Prop:=λ_ _=>False
abbrev TS:=Ends->St->Hp->Prop
inductive EP (X:Cx)(LB:List (Addr×Obj))(Z:St)(Q:VK)(u:Value)(s':Shared):Prop
  | c:∀ v H',Inv X LB Z H' s'->RelV v u->Q v H'->EP X LB Z Q u s'
def TP (X:Cx)(LB:List (Addr×Obj))(Z:St)(Q:Bool->Hp->Prop)(b:Bool)(s':Shared):Prop:=∃ H',Inv X LB Z H' s'/\Q b H'
inductive AP (X:Cx)(LB:List (Addr×Obj))(Z:St)(Q:List V->Hp->Prop)(us:List Value)(s':Shared):Prop
  | c:∀ vs H',Inv X LB Z H' s'->Vals vs us->Q vs H'->AP X LB Z Q us s'
def SP (X:Cx)(LB:List (Addr×Obj))(D:Ends)(f:Flow)(s':Shared):Prop:=
  match f with
  | .next=>∃ Z' H',Inv X LB Z' H' s'/\D.nx Z' H'
  | .brk=>∃ Z' H',Inv X LB Z' H' s'/\D.bk Z' H'
  | .cont=>∃ Z' H',Inv X LB Z' H' s'/\D.ct Z' H'
  | .ret u=>∃ v Z' H',Inv X LB Z' H' s'/\RelV v u/\D.rt v H'
def PE (X:Cx)(e:Expr)(t:TE):Prop:=
  ∀(LB:List (Addr×Obj)) (s:Shared) (Z:St) (H:Hp) (Q:VK),Inv X LB Z H s->t Z H Q->wpAny (model X.prog X.w) X.A (eval e X.env) (EP X LB Z Q) X.xe s
def PT (X:Cx)(e:Expr)(t:TT):Prop:=
  ∀(LB:List (Addr×Obj)) (s:Shared) (Z:St) (H:Hp) (Q:Bool->Hp->Prop),Inv X LB Z H s->t Z H Q->wpAny (model X.prog X.w) X.A (isTrue e X.env (eval e X.env)) (TP X LB Z Q) X.xe s
def PW (X:Cx)(e:Expr)(t:TT):Prop:=
  ∀(whole:Sem Value) (LB:List (Addr×Obj)) (s:Shared) (Z:St) (H:Hp) (Q:Bool->Hp->Prop),Inv X LB Z H s->t Z H Q->wpAny (model X.prog X.w) X.A (isTrue e X.env whole) (TP X LB Z Q) X.xe s
def PW.pt {t:TT}(h:PW X e t):PT X e t:=h _
def PA (X:Cx)(es:List Expr)(t:TA):Prop:=
  ∀(pos:Pos) (LB:List (Addr×Obj)) (s:Shared) (Z:St) (H:Hp) (Q:List V->Hp->Prop),Inv X LB Z H s->t Z H Q->wpAny (model X.prog X.w) X.A (spliced (backTo pos (starEach es X.env))) (AP X LB Z Q) X.xe s
def PS (X:Cx)(st:Stmt)(t:TS):Prop:=
  ∀(LB:List (Addr×Obj)) (s:Shared) (Z:St) (H:Hp) (D:Ends),Inv X LB Z H s->t D Z H->wpAny (model X.prog X.w) X.A (exec st X.env) (SP X LB D) X.xe s
def PSs (X:Cx)(st:List Stmt)(t:TS):Prop:=
  ∀(LB:List (Addr×Obj)) (s:Shared) (Z:St) (H:Hp) (D:Ends),Inv X LB Z H s->t D Z H->wpAny (model X.prog X.w) X.A (execs st X.env) (SP X LB D) X.xe s
def thn {α:Type}{t:Sem α}{Q Q':α->Shared->Prop}{M:Model}{A:Around}{E:Value->Shared->Prop}{s:Shared}(h:wpAny M A t Q E s)(hQ:∀ a s,Q a s->Q' a s):wpAny M A t Q' E s:=dP h hQ λ_ _ x=>x
section
variable {X:Cx}
inductive tVar (i:Nat)(Z:St)(H:Hp)(Q:VK):Prop
  | c:∀ v,Z[i]?=some (some v)->Q v H->tVar i Z H Q
def tC (v:V):TE:=λ_ H Q=>Q v H
def Df {i:Nat}{x:Str}{pos:Pos}(hN:X.N[i]?=some x)(hv:Vis X.env.scope x)(hd:(x==("__debug__" : Str))=false:=by decide)(hcd:(x==("__classdict__" : Str))=false:=by decide):PE X (.Name x pos) (tVar i):=by
  intro LB s Z H Q I h;obtain ⟨v,e,h⟩:=h;obtain ⟨m,hn,hl⟩:=I.loc;obtain ⟨u,r,l⟩:=hl i x v hN e hv;have fin:EP X LB Z Q u s:=#[v,H,I,r,h];rcases l with ⟨hk,hm⟩|⟨hk,c,hc,hcell⟩
  · exact wpAny_Name (wpAny_loadName_local I.ok.kind hk hn hm fin) hd
  · rcases hk with hk|hk
    · exact wpAny_Name (wpAny_loadName_cell I.ok.kind hk hc hcell fin) hd
    · exact wpAny_Name (wpAny_loadName_free I.ok.kind hk hc hcell fin hcd) hd
def ah {i j pos}:PE X (.Constant (.int i) j pos) (tC (.int i)):=λ_ _ _ H _ I h=>wpAny_Constant_int #[.int i,H,I.tok _,#[_,rfl],h]
def dE {b j pos}:PE X (.Constant (.bool b) j pos) (tC (.bl b)):=λ_ _ _ H _ I h=>Constant_bool #[.bl b,H,I,rfl,h]
def xD {j pos}:PE X (.Constant .none j pos) (tC .non):=λ_ _ _ H _ I h=>Constant_none #[.non,H,I,rfl,h]
def fR {x j pos}:PE X (.Constant (.str x) j pos) (tC (.str x)):=λ_ _ _ H _ I h=>Calls.Constant_str #[.str x,H,I.tok _,#[_,rfl],h]
def Gl (X:Cx)(x:Str):Prop:=X.env.kindOf x=some .globalImplicit
def nQ {E:Value->Shared->Prop}{u:Value}{pos:Pos}{Q:Value->Shared->Prop}(I:Inv X LB Z H s)(hg:Gl X x)(hm:X.mg x=some u)(h:Q u s)
    (hd:(x==("__debug__" : Str))=false:=by decide):wpAny (model X.prog X.w) X.A (eval (.Name x pos) X.env) Q E s:=
  Calls.Name_function_global I.ok.kind hg (Calls.loadGlobal_global (by rw[I.ok.glob];exact I.mod.glob.keeps I.bk) hm h) hd
def gD {E:Value->Shared->Prop}{u:Value}{pos:Pos}{Q:Value->Shared->Prop}(I:Inv X LB Z H s)(hg:Gl X x)(hm:X.mg x=none)(hv:bootBuiltins x=some u)(h:Q u s)
    (hn:x ≠ "__name__":=by decide) (hd:(x==("__debug__" : Str))=false:=by decide):wpAny (model X.prog X.w) X.A (eval (.Name x pos) X.env) Q E s:=by
  obtain ⟨mb,h1,h2⟩:=I.mod.blt;exact Calls.Name_function_global I.ok.kind hg (Calls.loadGlobal_builtin (by rw[I.ok.glob];exact I.mod.glob.keeps I.bk) hm (by rw[I.ok.blt];exact h1.keeps I.bk) ((h2 x hn).trans hv) h) hd
def Dg {v:V}{u:Value}{pos:Pos}(hg:Gl X x)(hm:X.mg x=some u)(r:RelV v u)(hd:(x==("__debug__" : Str))=false:=by decide):PE X (.Name x pos) (tC v):=
  λ_ _ _ H _ I h=>nQ I hg hm #[v,H,I,r,h] hd
def nR {v:V}{u:Value}{pos:Pos}(hg:Gl X x)(hm:X.mg x=none)(hv:bootBuiltins x=some u)(r:RelV v u)(hn:x ≠ "__name__":=by decide)(hd:(x==("__debug__" : Str))=false:=by decide):PE X (.Name x pos) (tC v):=
  λ_ _ _ H _ I h=>gD I hg hm hv #[v,H,I,r,h] hn hd
variable {a b:Expr}{ta tb:TE}{pos:Pos}
inductive GtB (Q:Bool->Hp->Prop)(x:V)(H1:Hp):Prop
  | c:∀ c,x=.bl c->Q c H1->GtB Q x H1
def tB (t:TE):TT:=λZ H Q=>t Z H λx H1=>GtB Q x H1
def hG {t:TE}(h:PE X e t)(he:∀ whole,isTrue e X.env whole=(do let v <-whole;standAt e.pos;holding [v] (truthy v)):=by intro _;rfl):PT X e (tB t):=by
  intro LB s Z H Q I hw;refine isTrue_plain (thn (h LB s Z H _ I hw) λv s1 zq0=>?_) (he _);obtain ⟨x,H1,I1,r1,q1⟩:=zq0;obtain ⟨d,rfl,q⟩:=q1;cases r1
  exact wpAny_truthy_bool #[H1,I1,q]
variable {tA tB':TT}{rest:List Expr}
def tAnd (t u:TT):TT:=λZ H Q=>t Z H λc H1=>if c=true then u Z H1 Q else Q false H1
def tOr (t u:TT):TT:=λZ H Q=>t Z H λc H1=>if c=true then Q true H1 else u Z H1 Q
def tNot (t:TT):TT:=λZ H Q=>t Z H λc H1=>Q (!c) H1
def ly (ha:PT X a tA):PW X (.BoolOp .And [a] pos) tA:=by
  intro wh LB s Z H Q I h;refine isTrue_and (thn (ha LB s Z H Q I h) λc s1 e=>?_);cases c with
  | true=>exact isTrue_and_nil e
  | false=>exact e
def nS (ha:PT X a tA):PW X (.BoolOp .Or [a] pos) tA:=by
  intro wh LB s Z H Q I h;refine isTrue_or (thn (ha LB s Z H Q I h) λc s1 e=>?_);cases c with
  | false=>exact isTrue_or_nil e
  | true=>exact e
def lz (ha:PT X a tA)(hb:PW X (.BoolOp .And (b::rest) pos) tB'):PW X (.BoolOp .And (a::b::rest) pos) (tAnd tA tB'):=by
  intro wh LB s Z H Q I h;refine isTrue_and (thn (ha LB s Z H _ I h) λc s1 zq0=>?_);obtain ⟨H1,I1,q1⟩:=zq0;cases c with
  | true=>exact hb wh LB s1 Z H1 Q I1 q1
  | false=>exact #[H1,I1,q1]
def lA (ha:PT X a tA)(hb:PW X (.BoolOp .Or (b::rest) pos) tB'):PW X (.BoolOp .Or (a::b::rest) pos) (tOr tA tB'):=by
  intro wh LB s Z H Q I h;refine isTrue_or (thn (ha LB s Z H _ I h) λc s1 zq0=>?_);obtain ⟨H1,I1,q1⟩:=zq0;cases c with
  | true=>exact #[H1,I1,q1]
  | false=>exact hb wh LB s1 Z H1 Q I1 q1
def lB (ha:PT X a tA):PT X (.UnaryOp .Not a pos) (tNot tA):=by
  intro LB s Z H Q I h;exact isTrue_not (ha LB s Z H (λc H1=>Q (!c) H1) I h)
inductive xE (tb:TE)(Z:St)(Q:VK)(x:V)(H1:Hp):Prop
  | c:∀ c,x=.bl c->(if c=true then tb Z H1 Q else Q (.bl false) H1)->xE tb Z Q x H1
def Dh (ta tb:TE):TE:=λZ H Q=>ta Z H λx H1=>xE tb Z Q x H1
inductive xF (Q:VK)(x:V)(H1:Hp):Prop
  | c:∀ c,x=.bl c->Q (.bl (!c)) H1->xF Q x H1
def Di (ta:TE):TE:=λZ H Q=>ta Z H λx H1=>xF Q x H1
def xG {op}{t:TE}(h:PE X a t):PE X (.BoolOp op [a] pos) t:=λLB s Z H Q I hw=>BoolOp_one (h LB s Z H Q I hw)
def xH (ha:PE X a ta)(hb:PE X (.BoolOp .And (b::rest) pos) tb):PE X (.BoolOp .And (a::b::rest) pos) (Dh ta tb):=by
  intro LB s Z H Q I h;refine BoolOp_and (thn (ha LB s Z H _ I h) λv s1 zq0=>?_);obtain ⟨x,H1,I1,r1,q1⟩:=zq0;obtain ⟨c,rfl,q1⟩:=q1;cases r1
  refine wpAny_truthy_bool ?_;cases c with
  | true=>exact hb LB s1 Z H1 Q I1 q1
  | false=>exact #[.bl false,H1,I1,rfl,q1]
def Dj (ha:PE X a ta):PE X (.UnaryOp .Not a pos) (Di ta):=by
  intro LB s Z H Q I h;refine UnaryOp_ (thn (ha LB s Z H _ I h) λv s1 zq0=>?_);obtain ⟨x,H1,I1,r1,q1⟩:=zq0;obtain ⟨c,rfl,q1⟩:=q1;cases r1
  exact not_of (wpAny_truthy_bool #[.bl (!c),H1,I1,rfl,q1])
def tIf (t:TT)(ta tb:TE):TE:=λZ H Q=>t Z H λc H1=>if c=true then ta Z H1 Q else tb Z H1 Q
def xI (hc:PT X c tA)(ha:PE X a ta)(hb:PE X b tb):PE X (.IfExp c a b pos) (tIf tA ta tb):=by
  intro LB s Z H Q I h;refine wpAny_IfExp (thn (hc LB s Z H _ I h) λd s1 zq0=>?_);obtain ⟨H1,I1,q1⟩:=zq0;cases d with
  | true=>exact ha LB s1 Z H1 Q I1 q1
  | false=>exact hb LB s1 Z H1 Q I1 q1
end
def SqL (K:Frag)(H:Hp)(a:Addr)(xs:List V):Prop:=
  Rd H a (.lst xs)\/
    ∃(o:Obj) (its:Array Value) (n:Nat),K.lookup a=some o/\o.cls=.type "list"/\o.dict=none/\o.data=.seq its n/\its.size<=sizeLine/\Vals xs its.toList
def SqT (K:Frag)(H:Hp)(a:Addr)(xs:List V):Prop:=
  Rd H a (.tup xs)\/
    ∃(o:Obj) (its:Array Value) (n:Nat),K.lookup a=some o/\o.cls=.type "tuple"/\o.data=.seq its n/\its.size<=sizeLine/\Vals xs its.toList
def absV:Value->Option V
  | .none=>some .non
  | .bool b=>some (.bl b)
  | .int i _=>some (.int i)
  | .str x _=>some (.str x)
  | .bytes b _=>some (.byt b)
  | .float b _=>some (.flt b)
  | .ref a=>some (.ref a)
  | .type n=>some (.ty n)
  | _=>none
def RelV.abs {x:V}{u:Value}(r:RelV x u):absV u=some x:=by
  cases x with
  | non=>cases r;rfl
  | bl _=>cases r;rfl
  | int _=>obtain ⟨t,rfl⟩:=r;rfl
  | str _=>obtain ⟨t,rfl⟩:=r;rfl
  | byt _=>obtain ⟨t,rfl⟩:=r;rfl
  | flt _=>obtain ⟨t,rfl⟩:=r;rfl
  | ref _=>cases r;rfl
  | ty _=>cases r;rfl
def RelV.inj {x y:V}{u:Value}(r:RelV x u)(q:RelV y u):x=y:=aJ (r.abs.symm.trans q.abs)
def Vals.inj:∀{xs ys:List V} {us:List Value},Vals xs us->Vals ys us->xs=ys
  | _,_,_,.nil,.nil=>rfl
  | _,_,_,.cons r t,.cons r' t'=>by rw[r.inj r',Vals.inj t t']
section
variable {X:Cx}{LB:List (Addr×Obj)}{Z:St}{H:Hp}{s:Shared}{a:Addr}{xs ys:List V}
def SqL.of {K:Frag}(h:H a=some (.lst xs)):SqL K H a xs:=.inl (.inl h)
def SqT.of {K:Frag}(h:H a=some (.tup xs)):SqT K H a xs:=.inl (.inl h)
def Inv.list (I:Inv X LB Z H s)(h:SqL X.K H a xs):∃ its:List Value,Vals xs its/\PlainL s.heap a its.toArray/\xs.length<=sizeLine:=by
  rcases h with h|⟨o,its,n,hk,hc,hd,hs,hz,r⟩
  · obtain ⟨z,its,n,r,e⟩:=h.ok I.hok
    exact #[its,r,#[_,n,e,rfl,rfl,rfl],z]
  · refine #[its.toList,r,#[o,n,I.kIn a o hk,hc,hd,by simpa using hs],?_]
    have e:=r.length;simp only[bH]at e;lia
def Inv.tuple (I:Inv X LB Z H s)(h:SqT X.K H a xs):∃ its:List Value,Vals xs its/\IsTup s.heap a its.toArray/\xs.length<=sizeLine:=by
  rcases h with h|⟨o,its,n,hk,hc,hs,hz,r⟩
  · obtain ⟨z,its,r,p⟩:=h.ok I.hok
    exact #[its,r,p,z]
  · refine #[its.toList,r,#[o,I.kIn a o hk,hc,n,by simpa using hs],?_]
    have e:=r.length;simp only[bH]at e;lia
def Inv.list_inj (I:Inv X LB Z H s)(h:SqL X.K H a xs)(h':SqL X.K H a ys):xs=ys:=by
  obtain ⟨its,r,⟨o,n,e,_,_,d⟩,_⟩:=I.list h;obtain ⟨its',r',⟨o',n',e',_,_,d'⟩,_⟩:=I.list h';rw[e]at e';cases e'
  rw[d]at d';injection d' with d1 _;have:its=its':=by simpa using congrArg Array.toList d1
  subst this;exact r.inj r'
def Inv.tuple_inj (I:Inv X LB Z H s)(h:SqT X.K H a xs)(h':SqT X.K H a ys):xs=ys:=by
  obtain ⟨its,r,⟨o,e,_,n,d⟩,_⟩:=I.tuple h;obtain ⟨its',r',⟨o',e',_,n',d'⟩,_⟩:=I.tuple h';rw[e]at e';cases e'
  rw[d]at d';injection d' with d1 _;have:its=its':=by simpa using congrArg Array.toList d1
  subst this;exact r.inj r'
end
abbrev Cx.wish (X:Cx)(E:Value->Shared->Prop):Cx:={ X with xe:=E }
abbrev Cx.nox (X:Cx):Cx:=X.wish λ_ _=>False
def Cx.Ok.wish {X:Cx}(ok:X.Ok)(E:Value->Shared->Prop):(X.wish E).Ok:=
  #[ok.mod,ok.kind,ok.glob,ok.blt,ok.above,ok.inj,ok.has,ok.cab,ok.hd,ok.frames,ok.stk,ok.exf,ok.bs,ok.bsz,ok.noex,ok.exfs,ok.funs,ok.frf]
def Cx.Ok.unwish {X:Cx}{E:Value->Shared->Prop}(ok:(X.wish E).Ok):X.Ok:=
  #[ok.mod,ok.kind,ok.glob,ok.blt,ok.above,ok.inj,ok.has,ok.cab,ok.hd,ok.frames,ok.stk,ok.exf,ok.bs,ok.bsz,ok.noex,ok.exfs,ok.funs,ok.frf]
section
variable {X:Cx}{LB:List (Addr×Obj)}{Z:St}{H:Hp}{s:Shared}{E:Value->Shared->Prop}
def Inv.wish (I:Inv X LB Z H s)(E:Value->Shared->Prop):Inv (X.wish E) LB Z H s:=#[I.ok.wish E,I.os,I.bare,I.base,I.loc,I.cell,I.free,I.freeC,I.pin,I.hok,I.len]
def Inv.unwish (I:Inv (X.wish E) LB Z H s):Inv X LB Z H s:=#[I.ok.unwish,I.os,I.bare,I.base,I.loc,I.cell,I.free,I.freeC,I.pin,I.hok,I.len]
def SP.unwish {f:Flow}(h:SP (X.wish E) LB D f s'):SP X LB D f s':=by
  cases f with
  | next=>obtain ⟨Z',H',I,q⟩:=h;exact #[Z',H',I.unwish,q]
  | brk=>obtain ⟨Z',H',I,q⟩:=h;exact #[Z',H',I.unwish,q]
  | cont=>obtain ⟨Z',H',I,q⟩:=h;exact #[Z',H',I.unwish,q]
  | ret u=>obtain ⟨v,Z',H',I,r,q⟩:=h;exact #[v,Z',H',I.unwish,r,q]
def PSs.nox {st:List Stmt}{t:TS}(h:PSs X.nox st t):PSs X st t:=λLB s Z H D I hw=>
  dP (h LB s Z H D (I.wish _) hw) (λ_ _ q=>q.unwish) λ_ _ z=>False.elim z
end
section
variable {X:Cx}{st:Stmt}{rest:List Stmt}{t u:TS}{e:Expr}{te:TE}{pos:Pos}
def Dk:TS:=λD Z H=>D.nx Z H
def tSeq (t u:TS):TS:=λD Z H=>t { D with nx:=u D } Z H
def cv:PSs X [] Dk:=λ_ _ Z H _ I h=>wpAny_execs_nil #[Z,H,I,h]
def ay (h1:PS X st t)(h2:PSs X rest u):PSs X (st::rest) (tSeq t u):=by
  intro LB s Z H D I h;refine wpAny_execs_cons (thn (h1 LB s Z H { D with nx:=u D } I h) λf s1 q=>?_);cases f with
  | next=>
    obtain ⟨Z',H',I',q⟩:=q;exact h2 LB s1 Z' H' D I' q
  | ret v=>exact q
  | brk=>exact q
  | cont=>exact q
def av (h1:PS X st t):PSs X [st] t:=by
  intro LB s Z H D I h;refine wpAny_execs_cons (thn (h1 LB s Z H D I h) λf s1 q=>?_);cases f with
  | next=>exact wpAny_execs_nil q
  | ret v=>exact q
  | brk=>exact q
  | cont=>exact q
def Inv.quiet (I:Inv X LB Z H s):interactive X.env=false:=by simp[interactive,I.ok.kind]
def Dl (te:TE):TS:=λD Z H=>te Z H λ_ H1=>D.nx Z H1
def dX (he:PE X e te)(hs:swapsWith e none pos.line X.env=pure false:=by rfl):PS X (.Expr e pos) (Dl te):=by
  intro LB s Z H D I h;exact wpAny_Expr_any (thn (he LB s Z H _ I h) λv s1 zq0=>(by obtain ⟨x,H1,I1,r1,q1⟩:=zq0;exact #[Z,H1,I1,q1])) I.quiet hs
def tRet (te:TE):TS:=λD Z H=>te Z H D.rt
def aN (he:PE X e te):PS X (.Return (some e) pos) (tRet te):=by
  intro LB s Z H D I h;exact wpAny_Return_some (thn (he LB s Z H _ I h) λv s1 zq0=>(by obtain ⟨x,H1,I1,r1,q1⟩:=zq0;exact #[x,Z,H1,I1,r1,q1]))
def tIfS (c:TT)(t u:TS):TS:=λD Z H=>c Z H λb H1=>if b=true then t D Z H1 else u D Z H1
def bR {a:List Stmt}(hc:PT X c tc)(ha:PSs X a t)(hb:PSs X b u):PS X (.If c a b pos) (tIfS tc t u):=by
  intro LB s Z H D I h;refine wpAny_If (thn (hc LB s Z H _ I h) λd s1 zq0=>?_);obtain ⟨H1,I1,q1⟩:=zq0;cases d with
  | true=>exact ha LB s1 Z H1 D I1 q1
  | false=>exact hb LB s1 Z H1 D I1 q1
end
abbrev TG:=V->St->Hp->(St->Hp->Prop)->Prop
abbrev TGs:=List V->St->Hp->(St->Hp->Prop)->Prop
def PG (X:Cx)(target:Expr)(t:TG):Prop:=
  ∀(LB:List (Addr×Obj)) (s:Shared) (Z:St) (H:Hp) (v:V) (u:Value) (Q:St->Hp->Prop),Inv X LB Z H s->RelV v u->t v Z H Q->
    wpAny (model X.prog X.w) X.A (assign target X.env u) (λ_ s'=>∃ Z' H',Inv X LB Z' H' s'/\Q Z' H') X.xe s
def PGs (X:Cx)(ts:List Expr)(t:TGs):Prop:=
  ∀(LB:List (Addr×Obj)) (s:Shared) (Z:St) (H:Hp) (vs:List V) (us:List Value) (Q:St->Hp->Prop),Inv X LB Z H s->Vals vs us->t vs Z H Q->
    wpAny (model X.prog X.w) X.A (assignInOrder ((assignEach ts X.env).map (·.2)) us) (λ_ s'=>∃ Z' H',Inv X LB Z' H' s'/\Q Z' H') X.xe s
abbrev TSet:=V->V->V->Hp->(Hp->Prop)->Prop
def PSet (X:Cx)(t:TSet):Prop:=
  ∀(LB:List (Addr×Obj)) (s:Shared) (Z:St) (H:Hp) (o i v:V) (ov iv u:Value) (Q:Hp->Prop),Inv X LB Z H s->RelV o ov->RelV i iv->RelV v u->t o i v H Q->
    wpAny (model X.prog X.w) X.A (setItem ov iv u) (λ_ s'=>∃ H',Inv X LB Z H' s'/\Q H') X.xe s
section
variable {X:Cx}{pos:Pos}
def gE (i:Nat):TG:=λv Z H Q=>Q (Z.set i (some v)) H
def aF {i:Nat}{x:Str}(hN:X.N.Nodup)(hi:X.N[i]?=some x)(hx:Loc X.env.scope x)(hf:X.fn x=true\/X.env.scope.names.lookup x=some .local:=by first|exact .inl rfl|exact .inr rfl|assumption):PG X (.Name x pos) (gE i):=by
  intro LB s Z H v u Q I r h;exact wpAny_assign_Name (nO I hN hi hx r (λs' I'=>#[_,H,I',h]) hf)
inductive gNil (vs:List V)(Z:St)(H:Hp)(Q:St->Hp->Prop):Prop
  | c:vs=[]->Q Z H->gNil vs Z H Q
inductive xJ (t:TG)(u:TGs)(vs:List V)(Z:St)(H:Hp)(Q:St->Hp->Prop):Prop
  | c:∀ v r,vs=v::r->(t v Z H λZ' H'=>u r Z' H' Q)->xJ t u vs Z H Q
def fF:PGs X [] gNil:=by
  intro LB s Z H vs us Q I r h;obtain ⟨e,h⟩:=h;subst e;cases r
  exact assignInOrder_nil #[Z,H,I,h]
def cB {t:TG}(h1:PG X e t)(h2:PGs X es u)
    (hs:(assignEach (e::es) X.env).map (·.2)=assign e X.env::(assignEach es X.env).map (·.2):=by rfl):PGs X (e::es) (xJ t u):=by
  intro LB s Z H vs us Q I r h;obtain ⟨v,vr,e1,h⟩:=h;subst e1;cases r with
  | cons r rr=>
    rw[hs];refine assignInOrder_cons (thn (h1 LB s Z H _ _ _ I r h) λ_ s1 zq0=>?_);obtain ⟨Z1,H1,I1,q1⟩:=zq0;exact h2 LB s1 Z1 H1 _ _ Q I1 rr q1
inductive gTup (K:Frag)(n:Nat)(t:TGs)(v:V)(Z:St)(H:Hp)(Q:St->Hp->Prop):Prop
  | c:∀ a xs,v=.ref a->SqT K H a xs->xs.length=n->t xs Z H Q->gTup K n t v Z H Q
def gF {k:Nat}{t:TGs}{n:Nat}(hc:X.calm=true)(h:PGs X es t)
    (hn:(assignEach es X.env).length=n:=by rfl) (hst:(assignEach es X.env).findIdx? (·.1)=none:=by rfl):PG X (.Tuple es k pos) (gTup X.K n t):=by
  intro LB s Z H v u Q I r hw;obtain ⟨a,xs,e1,hq,hl,hw⟩:=hw;subst e1;cases r
  obtain ⟨its,rv,ht,hz⟩:=I.tuple hq;refine assign_Tuple_tuple (I.ok.hd hc) ht (by simp[hn,<-hl,rv.length]) hst λh' hx=>?_;have I1:Inv X LB Z H { s with heap:=h' }:=I.kept (t':=s.toks) λb o e=>hx b o (bo (aK e)) e;exact h LB _ Z H xs _ Q I1 (by simpa using rv) hw
def gSub (to ti:TE)(t:TSet):TG:=λv Z H Q=>to Z H λo H1=>ti Z H1 λi H2=>t o i v H2 λH3=>Q Z H3
def jB {t:TSet}(ho:PE X o to)(hi:PE X i ti)(hs:PSet X t)
    (ha:∀ v,assign (.Subscript o i pos) X.env v=(do
      let ov <-holding [v] (eval o X.env)
      let iv <-holding [v,ov] (eval i X.env)
      standAt pos
      holding [v,ov,iv] (setItem ov iv v)
      release [v,ov,iv] []):=by intro _;rfl):PG X (.Subscript o i pos) (gSub to ti t):=by
  intro LB s Z H v u Q I r h;rw[ha];refine ao (wpAny_holding (thn (ho LB s Z H _ I h) λov s1 zq0=>?_));obtain ⟨x,H1,I1,r1,q1⟩:=zq0;refine ao (wpAny_holding (thn (hi LB s1 Z H1 _ I1 q1) λiv s2 zq0=>?_));obtain ⟨y,H2,I2,r2,q2⟩:=zq0;refine ao (wpAny_standAt (ao (wpAny_holding (thn (hs LB s2 Z H2 x y v ov iv u _ I2 r1 r2 r q2) λ_ s3 zq0=>?_))));obtain ⟨H3,I3,q3⟩:=zq0;exact wpAny_release #[Z,H3,I3,q3]
def tAsg (te:TE)(g:TG):TS:=λD Z H=>te Z H λx H1=>g x Z H1 D.nx
def gG (he:PE X e te)(hg:PG X tg g)(hs:swapsWithSole [tg] e pos.line X.env=pure false:=by rfl)(hw:swappedStores [tg] e X.env=pure none:=by rfl)
    (h1:(assignEach [tg] X.env).map (·.2)=[assign tg X.env]:=by rfl):PS X (.Assign [tg] e pos) (tAsg te g):=by
  intro LB s Z H D I h;refine wpAny_Assign_stores (thn (he LB s Z H _ I h) λv s1 zq0=>?_) hs hw;obtain ⟨x,H1,I1,r1,q1⟩:=zq0;rw[h1];exact thn (hg LB s1 Z H1 x v _ I1 r1 q1) λ_ s2 q=>q
def aC {i:Nat}{x:Str}{pos':Pos}(hN:X.N.Nodup)(hi:X.N[i]?=some x)(hx:Loc X.env.scope x)(he:PE X e te)(hs:swapsWith e (some (.Name x pos')) pos.line X.env=pure false:=by rfl)(hf:X.fn x=true\/X.env.scope.names.lookup x=some .local:=by first|exact .inl rfl|exact .inr rfl|assumption) :
    PS X (.Assign [.Name x pos'] e pos) (tAsg te (gE i)):=by
  intro LB s Z H D I h;refine wpAny_Assign_Name (thn (he LB s Z H _ I h) λv s1 zq0=>?_) hs;obtain ⟨y,H1,I1,r1,q1⟩:=zq0;exact nO I1 hN hi hx r1 (λs2 I2=>#[_,H1,I2,q1]) hf
inductive xK (i:Nat)(j:Nat)(D:Ends)(Z:St)(vs:List V)(H1:Hp):Prop
  | c:∀ v w,vs=[v,w]->D.nx ((Z.set i (some v)).set j (some w)) H1->xK i j D Z vs H1
def tPar (i j:Nat)(ta:TA):TS:=λD Z H=>ta Z H λvs H1=>xK i j D Z vs H1
def Dm {i j:Nat}{x y:Str}{a b:Expr}{px py pt:Pos}{kt k2 pt2}(hc:X.calm=true)(hN:X.N.Nodup)(hi:X.N[i]?=some x)(hj:X.N[j]?=some y)(hij:i≠j)
    (hx:X.env.scope.names.lookup x=some .local) (hy:X.env.scope.names.lookup y=some .local) (ha:PA X [a,b] ta)
    (hw:swappedStores [.Tuple [.Name x px,.Name y py] kt pt] (.Tuple [a,b] k2 pt2) X.env=pure (some [x,y]))
    (hs:swapsWithSole [.Tuple [.Name x px,.Name y py] kt pt] (.Tuple [a,b] k2 pt2) pos.line X.env=pure false:=by rfl) :
    PS X (.Assign [.Tuple [.Name x px,.Name y py] kt pt] (.Tuple [a,b] k2 pt2) pos) (tPar i j ta):=by
  intro LB s Z H D I h;rw[exec_Assign_arm];refine ao (wpAny_standAt ?_);rw[hs];refine ao (aA ?_);rw[af (by decide)];refine ao (Tuple_ (thn (ha _ LB s Z H _ I h) λus s1 zq0=>?_));obtain ⟨vs,H1,I1,r1,q1⟩:=zq0;obtain ⟨v,w,e1,q1⟩:=q1;subst e1;obtain ⟨u1,u2,rfl,rv,rw'⟩:∃ u1 u2,us=[u1,u2]/\RelV v u1/\RelV w u2:=by
    cases r1 with
    | cons p q=>
      cases q with
      | cons p' q'=>
        cases q'
        exact #[_,_,rfl,p,p']
  refine wpAny_newObj_type ?_ (by show 2<=sizeLine;decide);have I2:Inv X LB Z H1 { s1 with heap:=s1.heap.push { cls:=.type "tuple",data:=.seq [u1,u2].toArray } }:=I1.kept (t':=s1.toks) λb o e=>aR _ e;rw[hw];refine ao (aA ?_);show wpAny (model X.prog X.w) X.A (do rule "assign.swapped-stores";let items <-unpackItems (.ref s1.heap.objs.size) 2 none;assignInOrder [λv=>bindName X.env y v,λv=>bindName X.env x v] items.reverse;pure Flow.next) _ _ _
  refine ao (wpAny_rule (ao (unpackItems_tuple (items:=(List.toArray [u1,u2])) (I.ok.hd hc) (IsTup.new s1.heap _) λh' hx'=>?_)));have I3:=I2.kept (h':=h') (t':=s1.toks) λb o e=>hx' b o (bo (aK e)) e;show wpAny _ _ (assignInOrder [λv=>bindName X.env y v,λv=>bindName X.env x v] [u2,u1] >>= λ_=>pure Flow.next) _ _ _;refine ao (assignInOrder_cons (wpAny_bindName (nO I3 hN hj (.inl hy) rw' (λs2 I4=>?_) (.inr hy))));refine assignInOrder_cons (wpAny_bindName (nO I4 hN hi (.inl hx) rv (λs3 I5=>assignInOrder_nil (aA ?_)) (.inr hx)));rw[List.set_comm _ _ (aS hij)]at I5;exact #[_,H1,I5,q1]
end
section
variable {X:Cx}{pos:Pos}
def tm (c:TT)(tb:TS):TS:=λD Z H=>∃ W:Nat->St->Hp->Prop,(∃ m,W m Z H)/\∀ m Z H,W m Z H->
  c Z H λb H1=>if b=true then ∃ N:St->Hp->Prop,(∀ Z' H',N Z' H'->∃ m',m'<m/\W m' Z' H')/\tb { D with nx:=N,ct:=N,bk:=D.nx } Z H1 else D.nx Z H1
def nT (hp:PassesOwn (model X.prog X.w) X.A X.env X.xe)(hc:PT X c tc)(hb:PSs X body tb):PS X (.While c body [] pos) (tm tc tb):=by
  intro LB s Z H D I h;obtain ⟨W,⟨m0,w0⟩,turn⟩:=h;refine wpAny_While (codeAny_whileLoop (λn s'=>∃ Z' H',Inv X LB Z' H' s'/\W n Z' H') ?_ m0 #[Z,H,I,w0]);rintro n s1 ⟨Z1,H1,I1,w1⟩;refine wpAny_passesOwn hp (thn (hc LB s1 Z1 H1 _ I1 (turn n Z1 H1 w1)) λb s2 zq0=>?_);obtain ⟨H2,I2,q2⟩:=zq0;cases b with
  | true=>
    obtain ⟨N,hN,q2⟩:=q2;rw[ae rfl];refine wpAny_passesOwn hp (thn (hb LB s2 Z1 H2 _ I2 q2) λf s3 q3=>?_);cases f with
    | next=>
      obtain ⟨Z3,H3,I3,n3⟩:=q3;obtain ⟨m',hm,w3⟩:=hN Z3 H3 n3;exact #[m',hm,Z3,H3,I3,w3]
    | cont=>
      obtain ⟨Z3,H3,I3,n3⟩:=q3;obtain ⟨m',hm,w3⟩:=hN Z3 H3 n3;exact #[m',hm,Z3,H3,I3,w3]
    | brk=>exact q3
    | ret v=>exact q3
  | false=>
    rw[af cm];exact wpAny_execs_nil #[Z1,H2,I2,q2]
end
structure It where
  go:Nat->Hp->Prop
  yld:Nat->Hp->V->Hp->Prop
  stop:Nat->Hp->Prop
def FpOk (X:Cx)(LB:List (Addr×Obj))(H:Hp)(b:Addr):Prop:=
  H b=none/\b≠X.env.locals/\b∉X.fs/\(b∈X.ex\/X.s₀.heap.objs.size<=b)/\(∀ x c,X.env.cells.lookup x=some c->c≠b)/\∀ p∈X.pn++LB,p.1≠b
def Inv.fpOk {H':Hp}{b:Addr}(I:Inv X LB Z H s)(hb:s.heap.objs.size<=b)(hn:H' b=none):FpOk X LB H' b:=by
  refine #[hn,iD (aP I.lt hb),I.nofs hb,.inr (ax I.sz hb),λx c e z=>?_,λp hp z=>?_]
  · obtain ⟨v,q⟩:=I.cell x c e
    exact absurd (aP q.lt (by rw[z];exact hb)) (dQ _)
  · exact absurd (aP (aK (I.pin p hp).1) (by rw[z];exact hb)) (dQ _)
structure Turn (P:Program)(w:World)(K:Frag)(tg:Expr)(J:It)(fp:List Addr)(it:Addr)(tn:Nat->Heap->Prop):Prop where
  mem:it∈fp
  obj:∀ i h,tn i h->∀ b∈fp,∃ o,h.get? b=some o/\∀ v,o.data≠.cell v
  keep:∀ i h h',tn i h->(∀ b∈fp,∀ o,h.get? b=some o->h'.get? b=some o)->tn i h'
  item:∀(X:Cx),X.prog=P->X.w=w->X.K=K->X.calm=true->∀(i:Nat) (LB:List (Addr×Obj)) (s:Shared) (Z:St) (H:Hp) (E:Value->Shared->Prop),Inv X LB Z H s->(∀ b∈fp,FpOk X LB H b)->tn i s.heap->J.go i H->
    wpAny (model P w) X.A (pyNext (.ref it)) (λr s1=>∃ u,r=some u/\
      wpAny (model P w) X.A (letOwnedTupleGo tg (.ref it) u) (λ_ s2=>∃ x H',Inv X LB Z H' s2/\RelV x u/\J.yld i H x H'/\tn (i+1) s2.heap/\∀ b∈fp,H' b=none) E s1) E s
  done:∀(X:Cx),X.prog=P->X.w=w->X.K=K->X.calm=true->∀(i:Nat) (LB:List (Addr×Obj)) (s:Shared) (Z:St) (H:Hp) (E:Value->Shared->Prop),Inv X LB Z H s->(∀ b∈fp,FpOk X LB H b)->tn i s.heap->J.stop i H->
    wpAny (model P w) X.A (pyNext (.ref it)) (λr s1=>r=none/\Inv X LB Z H s1) E s
  self:∀(A:Around) (i:Nat) (s:Shared) (Q:Value->Shared->Prop) (E:Value->Shared->Prop),tn i s.heap->Q (.ref it) s->wpAny (model P w) A (pyIter (.ref it)) Q E s
abbrev TI:=St->Hp->(It->Hp->Prop)->Prop
inductive PIE (X:Cx)(LB:List (Addr×Obj))(Z:St)(tg:Expr)(R:It->Hp->Prop)(itv:Value)(s2:Shared):Prop
  | c:∀(it:Addr) (fp:List Addr) (tn:Nat->Heap->Prop) (J:It) (H':Hp),itv=.ref it->Inv X LB Z H' s2->Turn X.prog X.w X.K tg J fp it tn->tn 0 s2.heap->(∀ b∈fp,FpOk X LB H' b)->R J H'->PIE X LB Z tg R itv s2
def PI (X:Cx)(tg iter:Expr)(wi:TI):Prop:=
  ∀(LB:List (Addr×Obj)) (s:Shared) (Z:St) (H:Hp) (R:It->Hp->Prop),Inv X LB Z H s->wi Z H R->
    wpAny (model X.prog X.w) X.A (eval iter X.env) (λv s1=>wpAny (model X.prog X.w) X.A (pyIter v) (PIE X LB Z tg R) X.xe s1) X.xe s
def lC {M:Model}{A:Around}{E:Value->Shared->Prop}{s:Shared}{tg:Expr}{it:Addr}{u:Value}{o:Obj}{n:String}{vs:Array Value}{Q:Unit->Shared->Prop}(ho:s.heap.get? it=some o)(hc:o.cls=.type n)(hd:o.data=.fields vs)
    (hn:["enumerate","zip","dict_itemiterator","dict_reverseitemiterator","odict_iterator","itertools.zip_longest","itertools.pairwise"].contains n=false) (hQ:Q () s):wpAny M A (letOwnedTupleGo tg (.ref it) u) Q E s:=by
  unfold letOwnedTupleGo;cases tg<;>first
    | exact aA hQ
    | (cases u <;> first
        | exact aA hQ
        | (refine ao (wpAny_load ho ?_)
           rw[hc,hd];show wpAny M A (if (["enumerate","zip","dict_itemiterator","dict_reverseitemiterator","odict_iterator","itertools.zip_longest","itertools.pairwise"].contains n&&vs[0]?==some (rawInt _))=true then _ else _) Q E s
           rw[af (by intro h;rw[hn,Bool.false_and]at h;cases h)]
           exact aA hQ))
def Itl (K:Frag)(a:Addr):It:=
  #[λi H=>∃ xs x,SqL K H a xs/\xs[i]?=some x,λi H x H'=>H'=H/\∀ xs,SqL K H a xs->xs[i]?=some x,λi H=>∃ xs,SqL K H a xs/\xs.length<=i]
def Itt (K:Frag)(a:Addr):It:=
  #[λi H=>∃ xs x,SqT K H a xs/\xs[i]?=some x,λi H x H'=>H'=H/\∀ xs,SqT K H a xs->xs[i]?=some x,λi H=>∃ xs,SqT K H a xs/\xs.length<=i]
def Itr (lo:Int)(n:Nat):It:=#[λi _=>i<n,λi H x H'=>H'=H/\x=.int (lo+i),λi _=>n<=i]
def Do {K:Frag}(a it:Addr):Turn P w K tg (Itl K a) [it] it (λi h=>h.IsListIter it a i) where
  mem:=by simp
  obj:=λi h st b hb=>by
    have e:b=it:=by simpa using hb
    subst e;obtain ⟨o,e,c,d⟩:=st;exact #[o,e,λv z=>by rw[d]at z;cases z]
  keep:=λi h h' st k=>st.at λo e=>k it (by simp) o e
  item:=by
    intro X hP hw hK hc i LB s Z H E I hf st hg;subst hP hw hK;obtain ⟨xs,x,hq,hx⟩:=hg;obtain ⟨its,rv,p,hz⟩:=I.list hq;obtain ⟨u,hu,ru⟩:=rv.get hx;obtain ⟨f0,f1,f2,f3,f4,f5⟩:=hf it (by simp);refine wpAny_pyNext_list_item st p.isList (x:=u) (by simpa using hu) λh' st' sb=>?_;have I1:Inv X LB Z H { s with heap:=h' }:=I.turned (t':=s.toks) (λb o hb e=>(sb.2 b hb).trans e) f0 f1 f3 f4 f5;obtain ⟨o,e,c,d⟩:=id st';exact #[u,rfl,lC (s:={ s with heap:=h' }) e c d (by decide) #[x,H,I1,ru,#[rfl,λys hy=>by rw[I.list_inj hy hq];exact hx],st',λb hb=>(hf b hb).1]]
  done:=by
    intro X hP hw hK hc i LB s Z H E I hf st hg;subst hP hw hK;obtain ⟨xs,hq,hx⟩:=hg;obtain ⟨its,rv,p,hz⟩:=I.list hq;obtain ⟨f0,f1,f2,f3,f4,f5⟩:=hf it (by simp);have hl:=rv.length;exact wpAny_pyNext_list_end (I.ok.hd hc) st p.isList (by simp;lia) λh' eb=>#[rfl,I.turned (t':=s.toks) (λb o hb e=>eb b o hb e) f0 f1 f3 f4 f5]
  self:=λ_ _ _ _ _ st h=>wpAny_pyIter_listiter st h
def Dp {K:Frag}(a it:Addr):Turn P w K tg (Itt K a) [it] it (λi h=>h.IsTupleIter it a i) where
  mem:=by simp
  obj:=λi h st b hb=>by
    have e:b=it:=by simpa using hb
    subst e;obtain ⟨o,e,c,d⟩:=st;exact #[o,e,λv z=>by rw[d]at z;cases z]
  keep:=λi h h' st k=>st.at λo e=>k it (by simp) o e
  item:=by
    intro X hP hw hK hc i LB s Z H E I hf st hg;subst hP hw hK;obtain ⟨xs,x,hq,hx⟩:=hg;obtain ⟨its,rv,p,hz⟩:=I.tuple hq;obtain ⟨u,hu,ru⟩:=rv.get hx;obtain ⟨f0,f1,f2,f3,f4,f5⟩:=hf it (by simp);refine wpAny_pyNext_tuple_item st (show s.heap.IsTuple a its.toArray from p) (x:=u) (by simpa using hu) λh' st' sb=>?_;have I1:Inv X LB Z H { s with heap:=h' }:=I.turned (t':=s.toks) (λb o hb e=>(sb.2 b hb).trans e) f0 f1 f3 f4 f5;obtain ⟨o,e,c,d⟩:=id st';exact #[u,rfl,lC (s:={ s with heap:=h' }) e c d (by decide) #[x,H,I1,ru,#[rfl,λys hy=>by rw[I.tuple_inj hy hq];exact hx],st',λb hb=>(hf b hb).1]]
  done:=by
    intro X hP hw hK hc i LB s Z H E I hf st hg;subst hP hw hK;obtain ⟨xs,hq,hx⟩:=hg;obtain ⟨its,rv,p,hz⟩:=I.tuple hq;obtain ⟨f0,f1,f2,f3,f4,f5⟩:=hf it (by simp);have hl:=rv.length;exact wpAny_pyNext_tuple_end (I.ok.hd hc) st (show s.heap.IsTuple a its.toArray from p) (by simp;lia) λh' eb=>#[rfl,I.turned (t':=s.toks) (λb o hb e=>eb b o hb e) f0 f1 f3 f4 f5]
  self:=λ_ _ _ _ _ st h=>wpAny_pyIter_tupleiter st h
def Dq {K:Frag}(it:Addr)(lo:Int)(n:Nat):Turn P w K tg (Itr lo n) [it] it (λi h=>IsRangeIter h it (lo+(i:Nat)*1) ((n:Int)-(i:Nat)) 1) where
  mem:=by simp
  obj:=λi h st b hb=>by
    have e:b=it:=by simpa using hb
    subst e;exact #[_,st,λv z=>by
      have z':Data.fields _=Data.cell v:=z;cases z']
  keep:=λi h h' st k=>k it (by simp) _ st
  item:=by
    intro X hP hw hK hc i LB s Z H E I hf st hg;subst hP hw hK;obtain ⟨f0,f1,f2,f3,f4,f5⟩:=hf it (by simp);have W:=Walks.range (prog:=X.prog) (w:=X.w) (I.ok.hd hc) it lo 1 n;refine W.item i s _ _ hg st λv h' tk hv st' kk=>?_;obtain ⟨t,rfl⟩:=hv;have I1:Inv X LB Z H { s with heap:=h',toks:=tk }:=I.turned (λb o hb e=>kk b o (by simpa using hb) e) f0 f1 f3 f4 f5;refine #[_,rfl,lC (s:={ s with heap:=h',toks:=tk }) (n := "range_iterator") st' rfl rfl (by decide) #[.int (lo+i),H,I1,#[t,?_],#[rfl,rfl],st',λb hb=>(hf b hb).1]];rw[Int.mul_one]
  done:=by
    intro X hP hw hK hc i LB s Z H E I hf st hg;subst hP hw hK;obtain ⟨f0,f1,f2,f3,f4,f5⟩:=hf it (by simp);exact wpAny_pyNext_range_end (I.ok.hd hc) st (by have:n<=i:=hg;lia) λh' eb=>#[rfl,I.turned (t':=s.toks) (λb o hb e=>eb b o hb e) f0 f1 f3 f4 f5]
  self:=λ_ _ _ _ _ st h=>wpAny_pyIter_rangeiter st h
section
variable {X:Cx}{tg:Expr}
inductive xM (K:Frag)(R:It->Hp->Prop)(x:V)(H1:Hp):Prop
  | c:∀ a,x=.ref a->(∃ xs,SqL K H1 a xs)->R (Itl K a) H1->xM K R x H1
def xN (K:Frag)(tl:TE):TI:=λZ H R=>tl Z H λx H1=>xM K R x H1
inductive xO (K:Frag)(R:It->Hp->Prop)(x:V)(H1:Hp):Prop
  | c:∀ a,x=.ref a->(∃ xs,SqT K H1 a xs)->R (Itt K a) H1->xO K R x H1
def iTup (K:Frag)(tl:TE):TI:=λZ H R=>tl Z H λx H1=>xO K R x H1
def du (hl:PE X l tl):PI X tg l (xN X.K tl):=by
  intro LB s Z H R I h;refine thn (hl LB s Z H _ I h) λv s1 zq0=>?_;obtain ⟨x,H1,I1,r1,q1⟩:=zq0;obtain ⟨a,e,⟨xs,hq⟩,q⟩:=q1;subst e;cases r1
  obtain ⟨its,rv,p,hz⟩:=I1.list hq;refine wpAny_pyIter_list p.isList ?_;refine #[s1.heap.objs.size,[s1.heap.objs.size],_,_,H1,rfl,I1.kept (t':=s1.toks) λb o e=>aR _ e,Do a _,#[_,cQ _ rfl,rfl,rfl],λb hb=>?_,q];have e:b=s1.heap.objs.size:=by simpa using hb
  subst e;exact I1.fpOk (ai _) (I1.hok.fresh (ai _))
def gH (hl:PE X l tl):PI X tg l (iTup X.K tl):=by
  intro LB s Z H R I h;refine thn (hl LB s Z H _ I h) λv s1 zq0=>?_;obtain ⟨x,H1,I1,r1,q1⟩:=zq0;obtain ⟨a,e,⟨xs,hq⟩,q⟩:=q1;subst e;cases r1
  obtain ⟨its,rv,p,hz⟩:=I1.tuple hq;refine wpAny_pyIter_tuple (show s1.heap.IsTuple a its.toArray from p) ?_;refine #[s1.heap.objs.size,[s1.heap.objs.size],_,_,H1,rfl,I1.kept (t':=s1.toks) λb o e=>aR _ e,Dp a _,#[_,cQ _ rfl,rfl,rfl],λb hb=>?_,q];have e:b=s1.heap.objs.size:=by simpa using hb
  subst e;exact I1.fpOk (ai _) (I1.hok.fresh (ai _))
def xP {R:It->Hp->Prop}{E:Value->Shared->Prop}{lo hi:Int}{t u v:Tok}{tk:Nat}(I:Inv X LB Z H s)(h1:-(2^62)<=lo)(h2:lo<2^62)(h3:-(2^62)<=hi)(h4:hi<2^62)
    (q:R (Itr lo (hi-lo).toNat) H):wpAny (model X.prog X.w) X.A (pyIter (.ref s.heap.objs.size)) (PIE X LB Z tg R) E { s with heap:=s.heap.push { cls:=.type "range",data:=.fields (List.toArray [.int lo t,.int hi u,.int 1 v]) },toks:=tk }:=by
  refine wpAny_pyIter_range (IsRange.new ..) (small_one h1 h2 h3 h4) ?_;have I1:Inv X LB Z H { s with heap:=s.heap.push { cls:=.type "range",data:=.fields (List.toArray [.int lo t,.int hi u,.int 1 v]) },toks:=tk }:=I.kept λb o e=>aR _ e;refine #[(s.heap.push { cls:=.type "range",data:=.fields (List.toArray [.int lo t,.int hi u,.int 1 v]) }).objs.size,[(s.heap.push { cls:=.type "range",data:=.fields (List.toArray [.int lo t,.int hi u,.int 1 v]) }).objs.size],_,_,H,rfl,
    I1.kept (t':=tk) λb o e=>aR _ e,Dq _ lo (hi-lo).toNat,?_,λb hb=>?_,q]
  · have e1:lo+((0:Nat):Int)*1=lo:=by simp
    have e2:(((hi-lo).toNat:Nat):Int)-((0:Nat):Int)=Builtin.Range.rangeSize lo hi 1:=by rw[rangeSize_one];split<;>lia
    show IsRangeIter _ _ (lo+((0:Nat):Int)*1) ((((hi-lo).toNat:Nat):Int)-((0:Nat):Int)) 1;rw[e1,e2];exact cQ _ rfl
  · have e:b=(s.heap.push { cls:=.type "range",data:=.fields (List.toArray [.int lo t,.int hi u,.int 1 v]) }).objs.size:=by simpa using hb
    subst e;exact I1.fpOk (ai _) (I1.hok.fresh (ai _))
inductive xQ (R:It->Hp->Prop)(vs:List V)(H1:Hp):Prop
  | c:∀(j:Int),vs=[.int j]->-(2^62)<=j->j<2^62->R (Itr 0 j.toNat) H1->xQ R vs H1
def Dr (ta:TA):TI:=λZ H R=>ta Z H λvs H1=>xQ R vs H1
inductive xR (R:It->Hp->Prop)(vs:List V)(H1:Hp):Prop
  | c:∀(i j:Int),vs=[.int i,.int j]->(-(2^62)<=i/\i<2^62/\-(2^62)<=j/\j<2^62)->R (Itr i (j-i).toNat) H1->xR R vs H1
def Ds (ta:TA):TI:=λZ H R=>ta Z H λvs H1=>xR R vs H1
def ff {a:Expr}{p pos:Pos}(hg:Gl X "range")(hm:X.mg "range" = none)(ha:PA X [a] ta)(hs:starEach [a] X.env=[(false,eval a X.env)]:=by rfl):PI X tg (.Call (.Name "range" p) [a] [] pos) (Dr ta):=by
  intro LB s Z H R I h;refine Call_ (gD I hg hm boot_range (PyProof.Rows.callWith_type1 (thn (ha pos LB s Z H _ I h) λus s1 zq0=>?_) hs rfl));obtain ⟨vs,H1,I1,r1,q1⟩:=zq0;obtain ⟨j,e,q1,q2,q⟩:=q1;subst e;cases r1 with
  | cons r rr=>
    cases rr
    obtain ⟨t,rfl⟩:=r;exact call_range_1 (xP I1 (by lia) (by lia) q1 q2 (by simpa using q))
def jC {a b:Expr}{p pos:Pos}(hg:Gl X "range")(hm:X.mg "range" = none)(ha:PA X [a,b] ta)(hs:starEach [a,b] X.env=[(false,eval a X.env),(false,eval b X.env)]:=by rfl)(hs2:starEach [b] X.env=[(false,eval b X.env)]:=by rfl) :
    PI X tg (.Call (.Name "range" p) [a,b] [] pos) (Ds ta):=by
  intro LB s Z H R I h;refine Call_ (gD I hg hm boot_range (PyProof.Rows.callWith_type1 (thn (ha pos LB s Z H _ I h) λus s1 zq0=>?_) (by rw[hs,hs2]) (by rw[hs2];rfl)));obtain ⟨vs,H1,I1,r1,q1⟩:=zq0;obtain ⟨i,j,e,⟨q1,q2,q3,q4⟩,q⟩:=q1;subst e;cases r1 with
  | cons r rr=>
    cases rr with
    | cons r' rr=>
      cases rr
      obtain ⟨t,rfl⟩:=r;obtain ⟨t',rfl⟩:=r';exact call_range_2 (xP I1 q1 q2 q3 q4 q)
def tFor (wi:TI)(g:TG)(tb:TS):TS:=λD Z H=>wi Z H λJ H1=>∃ W:Nat->Nat->St->Hp->Prop,(∃ m,W 0 m Z H1)/\∀ i m Z H,W i m Z H->
  (J.stop i H/\D.nx Z H)\/(J.go i H/\∃ N:St->Hp->Prop,(∀ Z' H',N Z' H'->∃ m',m'<m/\W (i+1) m' Z' H')/\∀ x H',J.yld i H x H'->g x Z H' λZ2 H2=>tb { D with nx:=N,ct:=N,bk:=D.nx } Z2 H2)
def jD (fp:List Addr)(h:Heap):List (Addr×Obj):=fp.filterMap λb=>(h.get? b).map λo=>(b,o)
def jE {fp:List Addr}{h:Heap}{b:Addr}{o:Obj}(hb:b∈fp)(e:h.get? b=some o):(b,o)∈jD fp h:=sx.mpr #[b,hb,by rw[e];rfl]
def Dt {p:Addr×Obj}(hp:p∈jD fp h):p.1∈fp/\h.get? p.1=some p.2:=by
  obtain ⟨b,hb,e⟩:=sx.mp hp;cases q:h.get? b with
  | none=>rw[q]at e;cases e
  | some o=>
    rw[q]at e;have e':(b,o)=p:=aJ e;subst e';exact #[hb,q]
def Inv.pinned {fp:List Addr}(I:Inv X LB Z H s)(hf:∀ b∈fp,FpOk X LB H b)(ho:∀ b∈fp,∃ o,s.heap.get? b=some o/\∀ v,o.data≠.cell v):Inv X (LB++jD fp s.heap) Z H s:=
  I.pins_of λp hp=>(bp.mp hp).elim (λz=>I.pin p (cn _ z)) λz=>by
    obtain ⟨hb,e⟩:=Dt z;obtain ⟨f0,f1,f2,_⟩:=hf p.1 hb;obtain ⟨o,e',d⟩:=ho p.1 hb;rw[e]at e';cases e'
    exact #[e,f0,f1,f2,d]
def Inv.unpinned {LB pl:List (Addr×Obj)}(I:Inv X (LB++pl) Z H s):Inv X LB Z H s:=I.pins_of λp hp=>I.pin p (cn _ (eX _ hp))
def bZ {pos:Pos}(hp:PassesOwn (model X.prog X.w) X.A X.env X.xe)(hc:X.calm=true)(hi:PI X tg iter wi)(hg:PG X tg g)(hb:PSs X body tb)
    (hs:∀ x,foldedSetIterable iter X.env x=pure x:=by intro _;rfl):PS X (.For tg iter body [] pos) (tFor wi g tb):=by
  intro LB s Z H D I h;refine wpAny_For (thn (hi LB s Z H _ I h) λv s1 h1=>thn h1 λitv s2 h2=>?_) hs;obtain ⟨it,fp,tn,J,H2,e,I2,T,st2,f2,W,⟨m0,w0⟩,turn⟩:=h2;subst e;have stat:∀{H':Hp},(∀ b∈fp,H' b=none)->∀ b∈fp,FpOk X LB H' b:=λhn b hb=>#[hn b hb,(f2 b hb).2];refine codeAny_forLoop_any (λn s'=>∃ i Z' H',Inv X LB Z' H' s'/\tn i s'.heap/\(∀ b∈fp,H' b=none)/\W i n Z' H') ?_ m0 #[0,Z,H2,I2,st2,λb hb=>(f2 b hb).1,w0];rintro n s3 ⟨i,Z3,H3,I3,st3,fr3,w3⟩;rcases turn i n Z3 H3 w3 with ⟨stop,qn⟩|⟨go,N,hN,step⟩
  · refine wpAny_passesOwn hp (thn (T.done X rfl rfl rfl hc i LB s3 Z3 H3 X.xe I3 (stat fr3) st3 stop) λr s4 zq0=>?_)
    obtain ⟨hr,I4⟩:=zq0;subst hr;exact wpAny_execs_nil #[Z3,H3,I4,qn]
  · refine wpAny_passesOwn hp (thn (T.item X rfl rfl rfl hc i LB s3 Z3 H3 X.xe I3 (stat fr3) st3 go) λr s4 zq0=>?_)
    obtain ⟨u,hr,h4⟩:=zq0;subst hr;refine wpAny_passesOwn hp (thn h4 λ_ s5 zq0=>?_);obtain ⟨x,H5,I5,r5,y5,st5,fr5⟩:=zq0;have I5':=I5.pinned (stat fr5) (T.obj _ _ st5);refine wpAny_passesOwn hp (thn (hg _ s5 Z3 H5 x u _ I5' r5 (step x H5 y5)) λ_ s6 zq0=>?_);obtain ⟨Z6,H6,I6,q6⟩:=zq0;refine wpAny_passesOwn hp (thn (hb _ s6 Z6 H6 _ I6 q6) λf s7 q7=>?_);have again:∀{Z7:St} {H7:Hp},Inv X (LB++jD fp s5.heap) Z7 H7 s7->N Z7 H7->∃ m,m<n/\∃ i Z' H',Inv X LB Z' H' s7/\tn i s7.heap/\(∀ b∈fp,H' b=none)/\W i m Z' H':=λ{Z7 H7} I7 n7=>by
      obtain ⟨m',hm,w7⟩:=hN Z7 H7 n7;refine #[m',hm,i+1,Z7,H7,I7.unpinned,T.keep _ _ _ st5 λb hb o e=>(I7.pin (b,o) (cn _ (cn _ (jE hb e)))).1,λb hb=>?_,w7];obtain ⟨o,e,d⟩:=T.obj _ _ st5 b hb;exact (I7.pin (b,o) (cn _ (cn _ (jE hb e)))).2.1
    cases f with
    | next=>obtain ⟨Z7,H7,I7,n7⟩:=q7;exact again I7 n7
    | cont=>obtain ⟨Z7,H7,I7,n7⟩:=q7;exact again I7 n7
    | brk=>obtain ⟨Z7,H7,I7,q7⟩:=q7;exact #[Z7,H7,I7.unpinned,q7]
    | ret v=>obtain ⟨x7,Z7,H7,I7,r7,q7⟩:=q7;exact #[x7,Z7,H7,I7.unpinned,r7,q7]
end
def jF {K:Frag}{a:Addr}{g:TG}{tb:TS}{D:Ends}{Z:St}{H:Hp}(Pv:Nat->St->Hp->Prop)(h0:Pv 0 Z H)(hl:∀ i Z H,i<=xs.length->Pv i Z H->SqL K H a xs)
    (hs:∀ i x Z H,xs[i]?=some x->Pv i Z H->g x Z H λZ2 H2=>tb { D with nx:=Pv (i+1),ct:=Pv (i+1),bk:=D.nx } Z2 H2) (hd:∀ Z H,Pv xs.length Z H->D.nx Z H) :
    ∃ W:Nat->Nat->St->Hp->Prop,(∃ m,W 0 m Z H)/\∀ i m Z H,W i m Z H->
      ((Itl K a).stop i H/\D.nx Z H)\/((Itl K a).go i H/\∃ N:St->Hp->Prop,(∀ Z' H',N Z' H'->∃ m',m'<m/\W (i+1) m' Z' H')/\∀ x H',(Itl K a).yld i H x H'->g x Z H' λZ2 H2=>tb { D with nx:=N,ct:=N,bk:=D.nx } Z2 H2):=by
  refine #[λi m Z H=>m=xs.length-i/\i<=xs.length/\Pv i Z H,#[xs.length,by simp,bK _,h0],?_];rintro i m Z H ⟨rfl,hi,p⟩;have q:=hl i Z H hi p;by_cases hlt:i<xs.length
  · refine .inr #[#[xs,xs[i],q,by simp[hlt]],Pv (i+1),λZ' H' p'=>#[xs.length-(i+1),by lia,rfl,hlt,p'],λx H' y=>?_]
    obtain ⟨e,y⟩:=y;subst e;exact hs i x Z _ (y xs q) p
  · have e:i=xs.length:=by lia
    subst e;exact .inl #[#[xs,q,ai _],hd Z H p]
def nU {K:Frag}{a:Addr}{g:TG}{tb:TS}{D:Ends}{Z:St}{H:Hp}(Pv:Nat->St->Hp->Prop)(h0:Pv 0 Z H)(hl:∀ i Z H,i<=xs.length->Pv i Z H->SqT K H a xs)
    (hs:∀ i x Z H,xs[i]?=some x->Pv i Z H->g x Z H λZ2 H2=>tb { D with nx:=Pv (i+1),ct:=Pv (i+1),bk:=D.nx } Z2 H2) (hd:∀ Z H,Pv xs.length Z H->D.nx Z H) :
    ∃ W:Nat->Nat->St->Hp->Prop,(∃ m,W 0 m Z H)/\∀ i m Z H,W i m Z H->
      ((Itt K a).stop i H/\D.nx Z H)\/((Itt K a).go i H/\∃ N:St->Hp->Prop,(∀ Z' H',N Z' H'->∃ m',m'<m/\W (i+1) m' Z' H')/\∀ x H',(Itt K a).yld i H x H'->g x Z H' λZ2 H2=>tb { D with nx:=N,ct:=N,bk:=D.nx } Z2 H2):=by
  refine #[λi m Z H=>m=xs.length-i/\i<=xs.length/\Pv i Z H,#[xs.length,by simp,bK _,h0],?_];rintro i m Z H ⟨rfl,hi,p⟩;have q:=hl i Z H hi p;by_cases hlt:i<xs.length
  · refine .inr #[#[xs,xs[i],q,by simp[hlt]],Pv (i+1),λZ' H' p'=>#[xs.length-(i+1),by lia,rfl,hlt,p'],λx H' y=>?_]
    obtain ⟨e,y⟩:=y;subst e;exact hs i x Z _ (y xs q) p
  · have e:i=xs.length:=by lia
    subst e;exact .inl #[#[xs,q,ai _],hd Z H p]
def fg {lo:Int}{n:Nat}{g:TG}{tb:TS}{D:Ends}{Z:St}{H:Hp}(Pv:Nat->St->Hp->Prop)(h0:Pv 0 Z H)
    (hs:∀ i Z H,i<n->Pv i Z H->g (.int (lo+i)) Z H λZ2 H2=>tb { D with nx:=Pv (i+1),ct:=Pv (i+1),bk:=D.nx } Z2 H2) (hd:∀ Z H,Pv n Z H->D.nx Z H) :
    ∃ W:Nat->Nat->St->Hp->Prop,(∃ m,W 0 m Z H)/\∀ i m Z H,W i m Z H->
      ((Itr lo n).stop i H/\D.nx Z H)\/((Itr lo n).go i H/\∃ N:St->Hp->Prop,(∀ Z' H',N Z' H'->∃ m',m'<m/\W (i+1) m' Z' H')/\∀ x H',(Itr lo n).yld i H x H'->g x Z H' λZ2 H2=>tb { D with nx:=N,ct:=N,bk:=D.nx } Z2 H2):=by
  refine #[λi m Z H=>m=n-i/\i<=n/\Pv i Z H,#[n,by simp,bK _,h0],?_];rintro i m Z H ⟨rfl,hi,p⟩;by_cases hlt:i<n
  · refine .inr #[hlt,Pv (i+1),λZ' H' p'=>#[n-(i+1),by lia,rfl,hlt,p'],λx H' y=>?_]
    obtain ⟨e,y⟩:=y;subst e y;exact hs i Z _ hlt p
  · have e:i=n:=by lia
    subst e;exact .inl #[ai _,hd Z H p]
def xS {c:TT}{tb:TS}{D:Ends}{Z:St}{H:Hp}(Pv:St->Hp->Prop)(μ:St->Hp->Nat)(h0:Pv Z H)
    (hs:∀ Z H,Pv Z H->c Z H λb H1=>if b=true then tb { D with nx:=λZ' H'=>Pv Z' H'/\μ Z' H'<μ Z H,ct:=λZ' H'=>Pv Z' H'/\μ Z' H'<μ Z H,bk:=D.nx } Z H1 else D.nx Z H1)
    (mono:∀ Z H Q Q',(∀ b H1,Q b H1->Q' b H1)->c Z H Q->c Z H Q'):tm c tb D Z H:=by
  refine #[λm Z H=>m=μ Z H/\Pv Z H,#[_,rfl,h0],?_];rintro m Z H ⟨rfl,p⟩;refine mono Z H _ _ (λb H1 q=>?_) (hs Z H p);cases b with
  | true=>exact #[_,λZ' H' ⟨p',l⟩=>#[_,l,rfl,p'],q]
  | false=>exact q
abbrev R2:=V->V->Hp->VK->Prop
def OpR (X:Cx)(f:Value->Value->Sem Value)(r:R2):Prop:=
  ∀(LB:List (Addr×Obj)) (s:Shared) (Z:St) (H:Hp) (x y:V) (v u:Value) (Q:VK),Inv X LB Z H s->RelV x v->RelV y u->r x y H Q->
    wpAny (model X.prog X.w) X.A (f v u) (EP X LB Z Q) X.xe s
def UnR (X:Cx)(f:Value->Sem Value)(r:V->Hp->VK->Prop):Prop:=
  ∀(LB:List (Addr×Obj)) (s:Shared) (Z:St) (H:Hp) (x:V) (v:Value) (Q:VK),Inv X LB Z H s->RelV x v->r x H Q->
    wpAny (model X.prog X.w) X.A (f v) (EP X LB Z Q) X.xe s
def cV (X:Cx)(f:Value)(r:List V->Hp->VK->Prop):Prop:=
  ∀(LB:List (Addr×Obj)) (s:Shared) (Z:St) (H:Hp) (xs:List V) (us:List Value) (Q:VK),Inv X LB Z H s->Vals xs us->r xs H Q->
    wpAny (model X.prog X.w) X.A (call f us) (EP X LB Z Q) X.xe s
def tOp (r:R2)(ta tb:TE):TE:=λZ H Q=>ta Z H λx H1=>tb Z H1 λy H2=>r x y H2 Q
def tUn (r:V->Hp->VK->Prop)(ta:TE):TE:=λZ H Q=>ta Z H λx H1=>r x H1 Q
inductive rI (C:Int->Int->Prop)(g:Int->Int->V)(x:V)(y:V)(H:Hp)(Q:VK):Prop
  | c:∀ i j,x=.int i->y=.int j->C i j->Q (g i j) H->rI C g x y H Q
inductive rI0 (g:Int->Int->V)(x:V)(y:V)(H:Hp)(Q:VK):Prop
  | c:∀ i j,x=.int i->y=.int j->Q (g i j) H->rI0 g x y H Q
inductive rU (g:Int->V)(x:V)(H:Hp)(Q:VK):Prop
  | c:∀ i,x=.int i->Q (g i) H->rU g x H Q
section
variable {X:Cx}{a b c:Expr}{ta tb tc:TE}{pos:Pos}
def binT (ha:PE X a ta)(hb:PE X b tb){R:V->V->Hp->Prop}(I:Inv X LB Z H s)
    (h:ta Z H λx H1=>tb Z H1 λy H2=>R x y H2) {Q:Value->Shared->Prop} {f:Value->Value->Sem Value}
    (hf:∀ v u s2 x y H2,Inv X LB Z H2 s2->RelV x v->RelV y u->R x y H2->wpAny (model X.prog X.w) X.A (f v u) Q X.xe s2) :
    wpAny (model X.prog X.w) X.A (eval a X.env) (λv s₁=>wpAny (model X.prog X.w) X.A (eval b X.env) (λu s₂=>wpAny (model X.prog X.w) X.A (f v u) Q X.xe s₂) X.xe s₁) X.xe s:=by
  refine thn (ha LB s Z H _ I h) λv s1 zq0=>?_;obtain ⟨x,H1,I1,r1,q1⟩:=zq0;refine thn (hb LB s1 Z H1 _ I1 q1) λu s2 zq0=>?_;obtain ⟨y,H2,I2,r2,q2⟩:=zq0;exact hf v u s2 x y H2 I2 r1 r2 q2
def aw {op:Operator}(ho:OpR X (binaryOp op) r)(ha:PE X a ta)(hb:PE X b tb):PE X (.BinOp a op b pos) (tOp r ta tb):=by
  intro LB s Z H Q I h;exact wpAny_BinOp (binT ha hb I h λv u s2 x y H2 I2 rx ry q=>ho LB s2 Z H2 x y v u Q I2 rx ry q)
def hW {op:UnaryOp}(ho:UnR X (unaryOp op) r)(ha:PE X a ta):PE X (.UnaryOp op a pos) (tUn r ta):=by
  intro LB s Z H Q I h;exact UnaryOp_ (thn (ha LB s Z H _ I h) λv s1 zq0=>(by obtain ⟨x,H1,I1,r1,q1⟩:=zq0;exact ho LB s1 Z H1 x v Q I1 r1 q1))
def opI {f:Value->Value->Sem Value}{C:Int->Int->Prop}{g:Int->Int->Int}
    (rule:∀(i j:Int) (t u:Tok) (s:Shared) (Q:Value->Shared->Prop) (E:Value->Shared->Prop),C i j->Q (.int (g i j) s.toks) { s with toks:=s.toks+1 }->wpAny (model X.prog X.w) X.A (f (.int i t) (.int j u)) Q E s) :
    OpR X f (rI C λi j=>.int (g i j)):=by
  intro LB s Z H x y v u Q I rx ry h;obtain ⟨i,j,rfl,rfl,hc,q⟩:=h;obtain ⟨t,rfl⟩:=rx;obtain ⟨t',rfl⟩:=ry;exact rule i j t t' s _ _ hc #[.int (g i j),H,I.tok _,#[_,rfl],q]
def opI0 {f:Value->Value->Sem Value}{g:Int->Int->Int}
    (rule:∀(i j:Int) (t u:Tok) (s:Shared) (Q:Value->Shared->Prop) (E:Value->Shared->Prop),Q (.int (g i j) s.toks) { s with toks:=s.toks+1 }->wpAny (model X.prog X.w) X.A (f (.int i t) (.int j u)) Q E s) :
    OpR X f (rI0 λi j=>.int (g i j)):=by
  intro LB s Z H x y v u Q I rx ry h;obtain ⟨i,j,rfl,rfl,q⟩:=h;obtain ⟨t,rfl⟩:=rx;obtain ⟨t',rfl⟩:=ry;exact rule i j t t' s _ _ #[.int (g i j),H,I.tok _,#[_,rfl],q]
def opB0 {f:Value->Value->Sem Value}{g:Int->Int->Bool}
    (rule:∀(i j:Int) (t u:Tok) (s:Shared) (Q:Value->Shared->Prop) (E:Value->Shared->Prop),Q (.bool (g i j)) s->wpAny (model X.prog X.w) X.A (f (.int i t) (.int j u)) Q E s) :
    OpR X f (rI0 λi j=>.bl (g i j)):=by
  intro LB s Z H x y v u Q I rx ry h;obtain ⟨i,j,rfl,rfl,q⟩:=h;obtain ⟨t,rfl⟩:=rx;obtain ⟨t',rfl⟩:=ry;exact rule i j t t' s _ _ #[.bl (g i j),H,I,rfl,q]
def CDiv (i j:Int):Prop:=0<j/\j<1073741824
def CPow (i j:Int):Prop:=0<=j/\j<=1000000/\i.natAbs<2^64
def CMul (i j:Int):Prop:=(-(2^64)<i/\i<2^64)\/(-(2^64)<j/\j<2^64)
def CMul.ok (h:CMul i j):IntMulOk i j:=by
  rcases h with ⟨h1,h2⟩|⟨h1,h2⟩
  · exact .of_left (intBits_le_64 h1 h2)
  · exact .of_right (intBits_le_64 h1 h2)
def Du (k:Nat):(0:Int)<=2^k:=by
  rw[two_pow_cast];exact iE _
def bF:OpR X (binaryOp .Add) (rI0 λi j=>.int (i+j)):=opI0 λ_ _ _ _ _ _ _ q=>add_int q
def dv:OpR X (binaryOp .Sub) (rI0 λi j=>.int (i-j)):=opI0 λ_ _ _ _ _ _ _ q=>sub_int q
def dh:OpR X (binaryOp .Mult) (rI CMul λi j=>.int (i*j)):=opI λ_ _ _ _ _ _ _ hc q=>mul_int q hc.ok
def jG:OpR X (binaryOp .FloorDiv) (rI CDiv λi j=>.int (i/j)):=opI λi j _ _ _ _ _ hc q=>by
  have h1:(0:Int)<j:=hc.1;have h2:j<1073741824:=hc.2;exact floordiv_int (by lia) (by rw[Int.fdiv_eq_ediv_of_nonneg i (by lia)];exact q) (.inl (PyProof.noPylong_small (by lia)))
def fG:OpR X (binaryOp .Mod) (rI (λ_ j=>0<j) λi j=>.int (i%j)):=opI λi j _ _ _ _ _ hc q=>by
  have h1:(0:Int)<j:=hc;exact mod_int' (by lia) (by rw[Int.fmod_eq_emod_of_nonneg i (by lia)];exact q)
def jH:OpR X (binaryOp .Pow) (rI CPow λi j=>.int (i^j.toNat)):=opI λ_ _ _ _ _ _ _ hc q=>pow_int_small hc.1 hc.2.1 hc.2.2 q
def Dv:OpR X (binaryOp .RShift) (rI (λ_ j=>0<=j) λi j=>.int (i/2^j.toNat)):=opI λi j _ _ _ _ _ hc q=>
  rshift_int hc (by rw[Int.fdiv_eq_ediv_of_nonneg i (Du _)];exact q)
def xT:OpR X (binaryOp .BitAnd) (rI0 λi j=>.int (Builtin.bitAnd i j)):=opI0 λ_ _ _ _ _ _ _ q=>and_int q
def Dw:OpR X (binaryOp .BitXor) (rI0 λi j=>.int (Builtin.bitXor i j)):=opI0 λ_ _ _ _ _ _ _ q=>xor_int q
def unI {f:Value->Sem Value}{g:Int->Int}
    (rule:∀(i:Int) (t:Tok) (s:Shared) (Q:Value->Shared->Prop) (E:Value->Shared->Prop),Q (.int (g i) s.toks) { s with toks:=s.toks+1 }->wpAny (model X.prog X.w) X.A (f (.int i t)) Q E s) :
    UnR X f (rU λi=>.int (g i)):=by
  intro LB s Z H x v Q I rx h;obtain ⟨i,rfl,q⟩:=h;obtain ⟨t,rfl⟩:=rx;exact rule i t s _ _ #[.int (g i),H,I.tok _,#[_,rfl],q]
def hZ:UnR X (unaryOp .USub) (rU λi=>.int (-i)):=unI λ_ _ _ _ _ q=>neg_int q
end
def scal:V->V->Bool
  | .non,.non=>true|.non,.int _=>true|.int _,.non=>true|.non,.bl _=>true|.bl _,.non=>true|.non,.str _=>true|.str _,.non=>true
  | .int _,.int _=>true|.bl _,.bl _=>true|.str _,.str _=>true|.byt _,.byt _=>true
  | .int _,.str _=>true|.str _,.int _=>true|.bl _,.str _=>true|.str _,.bl _=>true
  | _,_=>false
inductive rEq (x:V)(y:V)(H:Hp)(Q:VK):Prop
  | c:scal x y=true->Q (.bl (decide (x=y))) H->rEq x y H Q
inductive rNe (x:V)(y:V)(H:Hp)(Q:VK):Prop
  | c:scal x y=true->Q (.bl (!decide (x=y))) H->rNe x y H Q
def xU {i j:Int}:decide (V.int i=V.int j)=(i==j):=by
  rw[mU];simp
def xV {i j:Bool}:decide (V.bl i=V.bl j)=(i==j):=by
  rw[mU];simp
def xW {i j:Str}:decide (V.str i=V.str j)=(i==j):=by
  rw[mU];simp
def xX {i j:Array UInt8}:decide (V.byt i=V.byt j)=(i.toList==j.toList):=by
  rw[mU];cases i
  cases j
  simp
section
variable {X:Cx}{a b c:Expr}{ta tb tc:TE}{pos:Pos}
def bW {Q:VK}{k k':Bool}(I:Inv X LB Z H s)(q:Q (.bl k) H)(e:k=k'):EP X LB Z Q (.bool k') s:=by
  subst e;exact #[.bl k,H,I,rfl,q]
def dF:OpR X (compareOp .Eq) rEq:=by
  intro LB s Z H x y v u Q I rx ry h;obtain ⟨hs,q⟩:=h;cases x with
  | non=>
    cases rx
    cases y with
    | non=>cases ry;exact PySem.EqNone.eq_none_none (bW I q (by simp))
    | bl j=>cases ry;exact PySem.EqNone.eq_none_bool (bW I q (by simp))
    | int j=>obtain ⟨t',rfl⟩:=ry;exact PySem.EqNone.eq_none_int (bW I q (by simp))
    | str j=>obtain ⟨t',rfl⟩:=ry;exact PySem.EqNone.eq_none_str (bW I q (by simp))
    | _=>exact absurd (show false=true from hs) cm
  | bl i=>
    cases rx
    cases y with
    | non=>cases ry;exact PySem.EqNone.eq_bool_none (bW I q (by simp))
    | bl j=>cases ry;exact eq_bool (bW I q xV)
    | str j=>obtain ⟨t',rfl⟩:=ry;exact PySem.EqMixed.eq_bool_str (bW I q (by simp))
    | _=>exact absurd (show false=true from hs) cm
  | int i=>
    obtain ⟨t,rfl⟩:=rx;cases y with
    | non=>cases ry;exact PySem.EqNone.eq_int_none (bW I q (by simp))
    | int j=>obtain ⟨t',rfl⟩:=ry;exact eq_int (bW I q xU)
    | str j=>obtain ⟨t',rfl⟩:=ry;exact PySem.EqMixed.eq_int_str (bW I q (by simp))
    | _=>exact absurd (show false=true from hs) cm
  | str i=>
    obtain ⟨t,rfl⟩:=rx;cases y with
    | non=>cases ry;exact PySem.EqNone.eq_str_none (bW I q (by simp))
    | bl j=>cases ry;exact PySem.EqMixed.eq_str_bool (bW I q (by simp))
    | int j=>obtain ⟨t',rfl⟩:=ry;exact PySem.EqMixed.eq_str_int (bW I q (by simp))
    | str j=>obtain ⟨t',rfl⟩:=ry;exact eq_str (bW I q xW)
    | _=>exact absurd (show false=true from hs) cm
  | byt i=>
    obtain ⟨t,rfl⟩:=rx;cases y with
    | byt j=>obtain ⟨t',rfl⟩:=ry;exact W.eq_bytes (bW I q xX)
    | _=>exact absurd (show false=true from hs) cm
  | _=>cases y<;>exact absurd (show false=true from hs) cm
def nW:OpR X (compareOp .NotEq) rNe:=by
  intro LB s Z H x y v u Q I rx ry h;obtain ⟨hs,q⟩:=h;cases x with
  | non=>
    cases rx
    cases y with
    | non=>cases ry;exact PySem.EqNone.ne_none_none (bW I q (by simp))
    | bl j=>cases ry;exact PySem.EqNone.ne_none_bool (bW I q (by simp))
    | int j=>obtain ⟨t',rfl⟩:=ry;exact PySem.EqNone.ne_none_int (bW I q (by simp))
    | str j=>obtain ⟨t',rfl⟩:=ry;exact PySem.EqNone.ne_none_str (bW I q (by simp))
    | _=>exact absurd (show false=true from hs) cm
  | bl i=>
    cases rx
    cases y with
    | non=>cases ry;exact PySem.EqNone.ne_bool_none (bW I q (by simp))
    | bl j=>cases ry;exact ne_bool (bW I q (congrArg not xV))
    | str j=>obtain ⟨t',rfl⟩:=ry;exact PySem.EqMixed.ne_bool_str (bW I q (by simp))
    | _=>exact absurd (show false=true from hs) cm
  | int i=>
    obtain ⟨t,rfl⟩:=rx;cases y with
    | non=>cases ry;exact PySem.EqNone.ne_int_none (bW I q (by simp))
    | int j=>obtain ⟨t',rfl⟩:=ry;exact ne_int (bW I q (congrArg not xU))
    | str j=>obtain ⟨t',rfl⟩:=ry;exact PySem.EqMixed.ne_int_str (bW I q (by simp))
    | _=>exact absurd (show false=true from hs) cm
  | str i=>
    obtain ⟨t,rfl⟩:=rx;cases y with
    | non=>cases ry;exact PySem.EqNone.ne_str_none (bW I q (by simp))
    | bl j=>cases ry;exact PySem.EqMixed.ne_str_bool (bW I q (by simp))
    | int j=>obtain ⟨t',rfl⟩:=ry;exact PySem.EqMixed.ne_str_int (bW I q (by simp))
    | str j=>obtain ⟨t',rfl⟩:=ry;exact ne_str (bW I q (congrArg not xW))
    | _=>exact absurd (show false=true from hs) cm
  | byt i=>
    obtain ⟨t,rfl⟩:=rx;cases y with
    | byt j=>obtain ⟨t',rfl⟩:=ry;exact W.ne_bytes (bW I q (congrArg not xX))
    | _=>exact absurd (show false=true from hs) cm
  | _=>cases y<;>exact absurd (show false=true from hs) cm
def fS:OpR X (compareOp .Lt) (rI0 λi j=>.bl (decide (i<j))):=opB0 λ_ _ _ _ _ _ _ q=>lt_int q
def xY:OpR X (compareOp .LtE) (rI0 λi j=>.bl (decide (i<=j))):=opB0 λ_ _ _ _ _ _ _ q=>le_int q
def nX:OpR X (compareOp .Gt) (rI0 λi j=>.bl (decide (j<i))):=opB0 λ_ _ _ _ _ _ _ q=>gt_int q
def xZ:OpR X (compareOp .GtE) (rI0 λi j=>.bl (decide (j<=i))):=opB0 λ_ _ _ _ _ _ _ q=>ge_int q
def bz (b:Expr){op:CmpOp}(h:op≠.In:=by decide)(h2:op≠.NotIn:=by decide):behindInMarks op b=false:=by
  have e1:(op==CmpOp.In)=false:=by cases op<;>first|rfl|exact absurd rfl h
  have e2:(op==CmpOp.NotIn)=false:=by cases op<;>first|rfl|exact absurd rfl h2
  cases b<;>simp[behindInMarks,e1,e2]
def Dx {op:CmpOp}(ho:OpR X (compareOp op) r)(ha:PE X a ta)(hb:PE X b tb)(hm:behindInMarks op b=false):PE X (.Compare a [op] [b] pos) (tOp r ta tb):=by
  intro LB s Z H Q I h;exact wpAny_Compare1 (binT ha hb I h λv u s2 x y H2 I2 rx ry q=>ho LB s2 Z H2 x y v u Q I2 rx ry q) hm
inductive ya (Q:Bool->Hp->Prop)(x:V)(H':Hp):Prop
  | c:∀ k,x=.bl k->Q k H'->ya Q x H'
def tq (t:TE):TT:=λZ H Q=>t Z H λx H'=>ya Q x H'
def bg {op:CmpOp}(ho:OpR X (compareOp op) r)(ha:PE X a ta)(hb:PE X b tb)(hm:behindInMarks op b=false):PT X (.Compare a [op] [b] pos) (tq (tOp r ta tb)):=by
  intro LB s Z H Q I h;refine wpAny_isTrue_Compare1 (thn (ha LB s Z H _ I h) λv s1 ⟨x,H1,I1,r1,q1⟩=>thn (hb LB s1 Z H1 _ I1 q1) λu s2 ⟨y,H2,I2,r2,q2⟩=>
    thn (ho LB s2 Z H2 x y v u _ I2 r1 r2 q2) λc s3 ⟨z,H3,I3,r3,k,e,q3⟩=>?_) hm
  subst e;cases r3
  exact wpAny_truthy_bool #[H3,I3,q3]
inductive yb (r':R2)(tc:TE)(Z:St)(Q:VK)(y:V)(z:V)(H3:Hp):Prop
  | c:∀ k,z=.bl k->(if k=true then tc Z H3 λw' H4=>r' y w' H4 Q else Q (.bl false) H3)->yb r' tc Z Q y z H3
def yc (r r':R2)(ta tb tc:TE):TE:=λZ H Q=>ta Z H λx H1=>tb Z H1 λy H2=>r x y H2 λz H3=>yb r' tc Z Q y z H3
def Dy {op op':CmpOp}(ho:OpR X (compareOp op) r)(ho':OpR X (compareOp op') r')(ha:PE X a ta)(hb:PE X b tb)(hc:PE X c tc)
    (hm:lastMarks [op,op'] [b,c]=false:=by with_unfolding_all rfl):PE X (.Compare a [op,op'] [b,c] pos) (yc r r' ta tb tc):=by
  intro LB s Z H Q I h;refine Compare_chain (thn (ha LB s Z H _ I h) λv s1 ⟨x,H1,I1,r1,q1⟩=>chain_link (thn (hb LB s1 Z H1 _ I1 q1) λu s2 ⟨y,H2,I2,r2,q2⟩=>
    thn (ho LB s2 Z H2 x y v u _ I2 r1 r2 q2) λd s3 ⟨z,H3,I3,r3,k,e,q3⟩=>?_)) hm
  subst e;cases r3
  refine wpAny_truthy_bool ?_;cases k with
  | false=>exact ite_ff #[.bl false,H3,I3,rfl,q3]
  | true=>exact ite_tt (chain_last (thn (hc LB s3 Z H3 _ I3 q3) λw' s4 ⟨z',H4,I4,r4,q4⟩=>ho' LB s4 Z H4 y z' u w' Q I4 r2 r4 q4))
def Dz {op op':CmpOp}(ho:OpR X (compareOp op) r)(ho':OpR X (compareOp op') r')(ha:PE X a ta)(hb:PE X b tb)(hc:PE X c tc)
    (hm:lastMarks [op,op'] [b,c]=false:=by with_unfolding_all rfl):PT X (.Compare a [op,op'] [b,c] pos) (tq (yc r r' ta tb tc)):=by
  intro LB s Z H Q I h;refine isTrue_chain (thn (ha LB s Z H _ I h) λv s1 ⟨x,H1,I1,r1,q1⟩=>test_link (thn (hb LB s1 Z H1 _ I1 q1) λu s2 ⟨y,H2,I2,r2,q2⟩=>
    thn (ho LB s2 Z H2 x y v u _ I2 r1 r2 q2) λd s3 ⟨z,H3,I3,r3,k,e,q3⟩=>?_)) hm
  subst e;cases r3
  refine wpAny_truthy_bool ?_;cases k with
  | false=>
    obtain ⟨k',e',q'⟩:=q3;cases e'
    exact ite_ff #[H3,I3,q']
  | true=>
    refine ite_tt (test_last (thn (hc LB s3 Z H3 _ I3 q3) λw' s4 zq0=>?_));obtain ⟨z',H4,I4,r4,q4⟩:=zq0;refine thn (ho' LB s4 Z H4 y z' u w' _ I4 r2 r4 q4) λd' s5 cM=>?_;obtain ⟨z2,H5,I5,r5,k2,e2,q5⟩:=cM;subst e2;cases r5
    exact wpAny_truthy_bool #[H5,I5,q5]
def nY:(sizeLine:Nat)<2^63:=by rw[sizeLine_eq];decide
def fh {x:V}{us:List Value}(r:Vals [x] us):∃ u,us=[u]/\RelV x u:=by
  cases r with
  | cons r1 r2=>cases r2;exact #[_,rfl,r1]
def gI {x y:V}{us:List Value}(r:Vals [x,y] us):∃ u w',us=[u,w']/\RelV x u/\RelV y w':=by
  cases r with
  | cons r1 r2=>
    cases r2 with
    | cons r3 r4=>cases r4;exact #[_,_,rfl,r1,r3]
def yd:cV X (.builtin "abs") (λxs H Q=>∃ i,xs=[.int i]/\Q (.int (if i<0 then -i else i)) H):=by
  intro LB s Z H xs us Q I r h;obtain ⟨i,rfl,q⟩:=h;obtain ⟨u,rfl,t,rfl⟩:=fh r;exact call_abs_int λu tk=>#[.int (if i<0 then -i else i),H,I.tok _,#[_,rfl],q]
def tu (hc:X.calm=true):cV X (.builtin "max") (λxs H Q=>∃ i j,xs=[.int i,.int j]/\Q (.int (if j>i then j else i)) H):=by
  intro LB s Z H xs us Q I r h;obtain ⟨i,j,rfl,q⟩:=h;obtain ⟨u,w',rfl,⟨t,rfl⟩,⟨t',rfl⟩⟩:=gI r;refine max_two_ints (I.ok.hd hc) λh' tk k=>#[_,H,I.kept k,?_,q];by_cases hj:j>i
  · rw[ae hj,ae hj];exact #[_,rfl]
  · rw[af hj,af hj];exact #[_,rfl]
def DA (hc:X.calm=true):cV X (.builtin "min") (λxs H Q=>∃ i j,xs=[.int i,.int j]/\Q (.int (if j<i then j else i)) H):=by
  intro LB s Z H xs us Q I r h;obtain ⟨i,j,rfl,q⟩:=h;obtain ⟨u,w',rfl,⟨t,rfl⟩,⟨t',rfl⟩⟩:=gI r;refine min_two_ints (I.ok.hd hc) λh' tk k=>#[_,H,I.kept k,?_,q];by_cases hj:j<i
  · rw[ae hj,ae hj];exact #[_,rfl]
  · rw[af hj,af hj];exact #[_,rfl]
end
structure ObjM (h:Heap)(x dx C:Addr)(mA:Str->Option Value):Prop where
  obj:h.get? x=some (W.instObj C dx)
  ns:h.Ns1 dx mA
  ne:dx≠x
def DB {h:Heap}{dx:Addr}{mA:Str->Option Value}(n:h.Ns1 dx mA):∃ od,h.get? dx=some od/\∀ name,W.lookIn name od=some (mA name):=by
  obtain ⟨o,es,ep,ho,hd,hk,_,hm⟩:=n;refine #[o,ho,λname=>?_];have e:=hm name;unfold nsFind findBy at e;rw[<-Array.find?_toList]at e;unfold W.lookIn;rw[hd];dsimp only;split
  · rename_i y q
    rw[q]at e;exact congrArg some e
  · rename_i q
    rw[q]at e;have a:es.toList.any (·.refKey)=false:=by
      rw[List.any_eq_false];intro y hy;obtain ⟨z,t,hkey⟩:=hk y (Array.mem_toList_iff.mp hy);simp[DictEntry.refKey,hkey]
    have a':¬ es.toList.any (·.refKey)=true:=by rw[a];exact cm
    rw[af a'];exact congrArg some e
def ObjM.look (I:ObjM h x dx C mA):∃ od,W.InstAt h x (W.instObj C dx) C (some od)/\∀ name,W.lookIn name od=some (mA name):=
  let ⟨od,ho,hl⟩:=DB I.ns
  #[od,#[I.obj,rfl,rfl,ho],hl]
def RelO.some_of {v:V}{o:Option Value}(r:RelO (some v) o):∃ u,o=some u/\RelV v u:=by
  cases o with
  | none=>exact (show False from r).elim
  | some u=>exact #[u,rfl,r]
section
variable {P:Program}{w:World}{H H':Hp}{h h':Heap}{a C dx:Addr}{fs fs':List (Str×V)}
def DC (hok:HOk P w H h)(e:H a=some (.ins C dx fs)):∃ mA,ObjM h a dx C mA/\(∀ f,RelO (fs.lookup f) (mA f))/\PySem.Within mA (fs.map (·.1))/\fs.length<=1000/\H dx=some (.own a):=by
  obtain ⟨d,z,ne,ob,mA,n,r,q⟩:=(show bD P w H h a (.ins C dx fs) from hok a _ e);exact #[mA,#[ob,n,ne],r,q,z,d]
end
structure Cls (K:Frag)(C:Addr):Prop where
  pg:W.plainGet K C Str.empty=true
  hd:W.hasDictIn K C=true
  po:W.plainOver K C=true
  sa:findIn K (.ref C) "__setattr__" = some (some (.builtin "object.__setattr__"))
def Cls.get {K:Frag}(c:Cls K C)(f:Str):W.plainGet K C f=true:=c.pg
section
variable {X:Cx}{LB:List (Addr×Obj)}{Z:St}{H:Hp}{s:Shared}{A:Around}{E:Value->Shared->Prop}{Q:Value->Shared->Prop}{c:Value}{b:Bool}
inductive TyOf (K:Frag)(H:Hp):V->Value->Prop where
  | non:TyOf K H .non (.type "NoneType")
  | bl (x:Bool):TyOf K H (.bl x) (.type "bool")
  | int (i:Int):TyOf K H (.int i) (.type "int")
  | str (x:Str):TyOf K H (.str x) (.type "str")
  | flt (x:UInt64):TyOf K H (.flt x) (.type "float")
  | lst {a:Addr} {xs:List V} (e:H a=some (.lst xs)):TyOf K H (.ref a) (.type "list")
  | frz {a:Addr} {o:Obj} {xs:List V} (e:H a=some (.frz o (.lst xs))):TyOf K H (.ref a) (.type "list")
  | tup {a:Addr} {xs:List V} (e:H a=some (.tup xs)):TyOf K H (.ref a) (.type "tuple")
  | dK {a:Addr} {kvs:List (Key×V)} (e:H a=some (.dK kvs)):TyOf K H (.ref a) (.type "dict")
  | dT {a:Addr} {kvs:List (List Key×V)} (e:H a=some (.dT kvs)):TyOf K H (.ref a) (.type "dict")
  | ins {a C dx:Addr} {fs:List (Str×V)} (e:H a=some (.ins C dx fs)) (cl:Cls K C) (ha:findIn K (.ref C) "__class__" = some (some (.builtin "object.__class__")))
      (hn:W.specialIn K (.builtin "object.__class__") "__get__" = some (some (.builtin "getset_descriptor.__get__"))) (htk:W.takesIn K (.builtin "object.__class__")=some true)
      (hm:mroIn K C (.type "object")=some true):TyOf K H (.ref a) (.ref C)
def DD {x:V}{u t:Value}(I:Inv X LB Z H s)(rx:RelV x u)(ty:TyOf X.K H x t)(e:kitOne X.K t c=some b)(h:∀ tk,Q (.bool b) { s with toks:=tk }) :
    wpAny (model X.prog X.w) A (call (.builtin "isinstance") [u,c]) Q E s:=by
  cases ty with
  | non=>cases (show u=Value.none from rx);exact W.kia_one W.kitx_none I.kIn True.intro e nofun h
  | bl y=>cases (show u=Value.bool y from rx);exact W.kia_one W.kitx_bool I.kIn True.intro e nofun h
  | int i=>obtain ⟨t,q⟩:=(show ∃ t,u=Value.int i t from rx);cases q;exact W.kia_one W.kitx_int I.kIn True.intro e nofun h
  | str y=>obtain ⟨t,q⟩:=(show ∃ t,u=Value.str y t from rx);cases q;exact W.kia_one W.kitx_str I.kIn True.intro e nofun h
  | flt y=>obtain ⟨t,q⟩:=(show ∃ t,u=Value.float y t from rx);cases q;exact W.kia_one W.kitx_float I.kIn True.intro e nofun h
  | @lst a xs ea=>
    cases (show u=Value.ref a from rx)
    obtain ⟨_,_,n,_,h1⟩:=(show bD X.prog X.w H s.heap a (.lst xs) from I.hok a _ ea);exact W.kia_one W.kitx_list I.kIn #[_,h1,rfl] e nofun h
  | @frz a ob xs ea=>
    cases (show u=Value.ref a from rx)
    obtain ⟨_,_,_,n,_,h1⟩:=(show bD X.prog X.w H s.heap a (.frz ob (.lst xs)) from I.hok a _ ea);exact W.kia_one W.kitx_list I.kIn #[_,h1,rfl] e nofun h
  | @tup a xs ea=>
    cases (show u=Value.ref a from rx)
    obtain ⟨_,_,_,p⟩:=(show bD X.prog X.w H s.heap a (.tup xs) from I.hok a _ ea);obtain ⟨o,h1,h2,_⟩:=p;exact W.kia_one W.kitx_tuple I.kIn #[o,h1,h2] e nofun h
  | @dK a kvs ea=>
    cases (show u=Value.ref a from rx)
    obtain ⟨_,_,vs,_,p⟩:=(show bD X.prog X.w H s.heap a (.dK kvs) from I.hok a _ ea);obtain ⟨o,es,ep,h1,h2,_⟩:=p;exact W.kia_one W.kitx_dict I.kIn #[o,h1,h2.1] e nofun h
  | @dT a kvs ea=>
    cases (show u=Value.ref a from rx)
    obtain ⟨_,_,xs,_,o,es,ep,h1,h2,_⟩:=(show bD X.prog X.w H s.heap a (.dT kvs) from I.hok a _ ea);exact W.kia_one W.kitx_dict I.kIn #[o,h1,h2.1] e nofun h
  | @ins a C dx fs ea cl ha hn htk hm=>
    cases (show u=Value.ref a from rx)
    obtain ⟨mA,O,_⟩:=DC I.hok ea;obtain ⟨od,J,_⟩:=O.look;exact W.kia_one (W.kitx_own (cl.get _) cl.hd ha hn htk hm) I.kIn J e nofun h
end
structure Room (k:Nat)(A:Around):Prop where
  hd:A.handled=none
  dp:A.depth+3*k+5<recursionLimit
  un:A.units+16*k+200<cLine
  gd:A.guards=some []
def Room.mono {j k:Nat}{A:Around}(r:Room k A)(h:j<=k):Room j A:=#[r.hd,by have:=r.dp;lia,by have:=r.un;lia,r.gd]
def Room.deeper {k:Nat}{A:Around}(r:Room (k+1) A)(env:Env):Room k (A.deeper env):=
  #[r.hd,by have:=r.dp;show A.depth+1+3*k+5<_;lia,by have:=r.un;show A.units+3+16*k+200<_;lia,r.gd]
def Room.depth {k:Nat}{A:Around}(r:Room k A):A.depth<recursionLimit:=by have:=r.dp;lia
def Room.units {k:Nat}{A:Around}(r:Room k A):A.units+64<cLine:=by have:=r.un;lia
def tNil:TA:=λ_ H Q=>Q [] H
def tw (ta:TE)(tr:TA):TA:=λZ H Q=>ta Z H λx H1=>tr Z H1 λxs H2=>Q (x::xs) H2
section
variable {X:Cx}{e:Expr}{es:List Expr}{te:TE}{t:TA}{pos:Pos}
def ag:PA X [] tNil:=λ_ _ _ _ H Q I h=>Calls.spliced_nil #[[],H,I,.nil,h]
def aa (ha:PE X e te)(hr:PA X es t)(hs:starEach (e::es) X.env=(false,eval e X.env)::starEach es X.env:=by rfl):PA X (e::es) (tw te t):=by
  intro pos LB s Z H Q I h;rw[hs];show wpAny _ _ (spliced ((false,eval e X.env)::backTo pos (starEach es X.env))) _ _ s;refine Calls.spliced_cons (thn (ha LB s Z H _ I h) λu s1 zq0=>?_);obtain ⟨x,H1,I1,r1,q1⟩:=zq0;exact thn (hr pos LB s1 Z H1 _ I1 q1) λus s2 zq0=>(by obtain ⟨xs,H2,I2,r2,q2⟩:=zq0;exact #[x::xs,H2,I2,.cons r1 r2,q2])
inductive ye (Q:VK)(xs:List V)(H1:Hp):Prop
  | c:xs.length<=sizeLine->(∀ p,H1 p=none->Q (.ref p) (upd H1 p (.tup xs)))->ye Q xs H1
def tTup (t:TA):TE:=λZ H Q=>t Z H λxs H1=>ye Q xs H1
inductive yf (Q:VK)(xs:List V)(H1:Hp):Prop
  | c:xs.length<=sizeLine->(∀ p,H1 p=none->Q (.ref p) (upd H1 p (.lst xs)))->yf Q xs H1
def tLst (t:TA):TE:=λZ H Q=>t Z H λxs H1=>yf Q xs H1
def cC {x1}(h:PA X es t):PE X (.Tuple es x1 pos) (tTup t):=by
  intro LB s Z H Q I hq;refine wpAny_Tuple_spliced (thn (h pos LB s Z H _ I hq) λus s1 zq0=>?_);obtain ⟨xs,H1,I1,r,z,q⟩:=zq0;refine #[by rw[<-r.length];exact z,?_];have hf:H1 s1.heap.objs.size=none:=I1.hok.fresh (ai _);refine #[.ref s1.heap.objs.size,upd H1 s1.heap.objs.size (.tup xs),I1.laid (t':=s1.toks) (λb u e=>aR _ e) (ai _) ?_,rfl,q _ hf];exact #[z,us,r,#[_,cQ _ rfl,rfl,_,rfl]]
def eC (h:PA X es t):PE X (.List es pos) (tLst t):=by
  intro LB s Z H Q I hq;refine wpAny_List_spliced (thn (h pos LB s Z H _ I hq) λus s1 zq0=>?_);obtain ⟨xs,H1,I1,r,z,q⟩:=zq0;refine #[by rw[<-r.length];exact z,?_];have hf:H1 s1.heap.objs.size=none:=I1.hok.fresh (ai _);refine #[.ref s1.heap.objs.size,upd H1 s1.heap.objs.size (.lst xs),I1.laid (t':=s1.toks) (λb u e=>aR _ e) (ai _) ?_,rfl,q _ hf];exact #[z,us,0,r,cQ _ rfl]
end
abbrev Sp:=List V->Hp->VK->XK->Prop
abbrev CXT:=List Env->Hp->Shared->XK->Value->Shared->Prop
structure Env0 (P:Program)(w:World)(K:Frag)(mg:Str->Option Value)(base:Heap)(A:Around)(outer:List Env)(s:Shared)(H:Hp):Prop where
  frames:A.frames=some outer
  mod:Mod K mg base
  bs:∀ b o,base.get? b=some o->s.heap.get? b=some o/\H b=none
  bsz:base.objs.size<=s.heap.objs.size
  funs:s.heap.FunFrames base outer
  frf:∀ b∈frs outer,H b=none
  hok:HOk P w H s.heap
  bare:AllBare s.gens
def CE (outer:List Env)(P:Program)(w:World)(H:Hp)(s:Shared)(Q:VK)(u:Value)(s':Shared):Prop:=
  ∃ v H',s'.os=s.os/\AllBare s'.gens/\Un (frs outer) [] H H' s.heap s'.heap/\HOk P w H' s'.heap/\RelV v u/\Q v H'
def CR (CX:CXT)(outer:List Env)(P:Program)(w:World)(H:Hp)(s:Shared)(Q:VK)(E:XK)(r:Result)(s':Shared):Prop:=
  match r with
  | .ok (.ret u)=>CE outer P w H s Q u s'
  | .ok _=>False
  | .error e=>CX outer H s E e s'
structure FnOk (P:Program)(w:World)(K:Frag)(mg:Str->Option Value)(base:Heap)(CX:CXT)(k:Nat)(f:Addr)(fd:FuncData)(ps:List Str)(sp:Sp):Prop where
  len:∀ vs H Q E,sp vs H Q E->vs.length=ps.length
  run:∀(A:Around) (outer:List Env) (s:Shared) (H:Hp) (args:Args) (us:List Value) (vs:List V) (Q:VK) (E:XK),Room k A->Env0 P w K mg base A outer s H->BindsTo s fd args (ps.zip us)->Vals vs us->sp vs H Q E->
    codeAny (model P w) A (.call (.ref f) args) (CR CX outer P w H s Q E) s
section
variable {X:Cx}{LB:List (Addr×Obj)}{Z:St}{H:Hp}{s s':Shared}
def Inv.env0 (I:Inv X LB Z H s):Env0 X.prog X.w X.K X.mg X.base X.A X.stack s H:=
  #[I.ok.frames,I.ok.mod,I.bs,ax I.ok.bsz I.sz,I.stack,I.stkFree,I.hok,I.bare]
def Inv.after (I:Inv X LB Z H s)(h:CE X.stack X.prog X.w H s Q u s'):EP X LB Z Q u s':=by
  obtain ⟨v,H',os,bare,un,hok,r,q⟩:=h;obtain ⟨hh,g,d,t,os'⟩:=s';obtain rfl:os'=s.os:=os;exact #[v,H',I.call (h':=hh) (g':=g) (d':=d) (t':=t) (ch:=[]) un hok bare (λb z=>absurd z (by simp)),r,q]
end
def yh (sp:Sp)(dvs:List V)(E:XK)(t:TA):TE:=λZ H Q=>t Z H λvs H1=>sp (vs++dvs) H1 Q E
def gJ (K:Frag)(fd:FuncData)(ps:List Str)(ds:List Value):Prop:=
  ∀(s:Shared) (us:List Value),K.In s.heap->(us++ds).length=ps.length->BindsTo s fd #[us,[]] (ps.zip (us++ds))
def gJ.all {K:Frag}{fd:FuncData}{ps:List Str}(h:∀ us:List Value,us.length=ps.length->bindArgs fd #[us,[]]=pure (ps.zip us)):gJ K fd ps []:=λs us _ hl=>by
  rw[bY]at hl ⊢;exact .of_eq (h us hl)
def tD (CX:CXT)(X:Cx)(E:XK):Prop:=∀(LB:List (Addr×Obj)) (Z:St) (H:Hp) (s:Shared) (e:Value) (s':Shared),Inv X LB Z H s->CX X.stack H s E e s'->X.xe e s'
section
variable {X:Cx}{CX:CXT}{k:Nat}{f C:Addr}{fd:FuncData}{ps:List Str}{sp:Sp}{dvs:List V}{ds:List Value}{E:XK}{x m:Str}{p pos apos:Pos}{e o:Expr}{es:List Expr}{ta:TE}{t:TA}
def yi {Q:VK}{us:List Value}{vs:List V}(F:FnOk X.prog X.w X.K X.mg X.base CX k f fd ps sp)(hr:Room k X.A)(hb:gJ X.K fd ps ds)(hd:Vals dvs ds)(hx:tD CX X E)
    (I:Inv X LB Z H s) (r:Vals vs us) (h:sp (vs++dvs) H Q E):wpAny (model X.prog X.w) X.A (call (.ref f) us) (EP X LB Z Q) X.xe s:=by
  have r2:Vals (vs++dvs) (us++ds):=r.append hd;have hl:(us++ds).length=ps.length:=by rw[<-r2.length];exact F.len _ _ _ _ h
  refine wpAny_call (codeAny_mono (F.run X.A X.stack s H #[us,[]] (us++ds) (vs++dvs) Q E hr I.env0 (hb s us I.kIn hl) r2 h) λr s' hq=>?_);cases r with
  | error e=>exact hx LB Z H s e s' I hq
  | ok fl=>
    cases fl with
    | ret u=>exact I.after hq
    | next=>exact False.elim hq
    | brk=>exact False.elim hq
    | cont=>exact False.elim hq
def DE (F:FnOk X.prog X.w X.K X.mg X.base CX k f fd ps sp)(hr:Room k X.A)(hg:Gl X x)(hm:X.mg x=some (.ref f))(hk:keepIn X.K (.ref f)=true)(hb:gJ X.K fd ps ds)(hd:Vals dvs ds)(hx:tD CX X E)
    (ha:PA X (e::es) t) (hdb:(x==("__debug__" : Str))=false:=by decide) (he:starEach (e::es) X.env=(false,eval e X.env)::starEach es X.env:=by rfl) (hpl:(backTo pos (starEach es X.env)).any (·.1)=false:=by rfl) :
    PE X (.Call (.Name x p) (e::es) [] pos) (yh sp dvs E t):=by
  intro LB s Z H Q I h;refine wpAny_Call_Name_kw (nQ I hg hm ?_ hdb);refine W.callWith_K (h₀:=X.base) I.ok.mod.kin hk (thn (ha pos LB s Z H _ I h) λus s1 zq0=>?_) he hpl;obtain ⟨vs,H1,I1,r,q⟩:=zq0;refine #[I1.kIn,?_];exact yi F hr hb hd hx I1 r q
end
structure aU (N P:List Str)(sc:Scope):Prop where
  kind:sc.kind=.function
  co:sc.isCoroutine=false
  gen:sc.isGenerator=false
  nd:N.Nodup
  pre:N.take P.length=P
  par:∀ x∈P,sc.names.lookup x=some .local\/sc.names.lookup x=some .cell
  nofree:∀ y∈sc.names,y.2≠.free
def yj {kindOf:Str->Option NameKind}{x:Str}:∀{binds:List (Str×Value)} {m:Str->Option Value},(∀ v,(x,v)∉binds)->bindL kindOf binds m x=m x
  | [],_,_=>rfl
  | (n,v)::r,m,h=>by
    unfold bindL;rw[yj λw hw=>h w (bG _ hw)];split
    · have:x≠n:=by rintro rfl;exact h v bx
      simp[this]
    · rfl
def yk {kindOf:Str->Option NameKind}{x:Str}:∀{binds:List (Str×Value)} {m:Str->Option Value},(∀ v,(x,v)∉binds)->bindC kindOf binds m x=m x
  | [],_,_=>rfl
  | (n,v)::r,m,h=>by
    unfold bindC;rw[yk λw hw=>h w (bG _ hw)];split
    · rfl
    · have:x≠n:=by rintro rfl;exact h v bx
      simp[this]
def yn {kindOf:Str->Option NameKind}{x:Str}{v:Value}:∀{P:List Str} {vs:List Value} {i:Nat} {m:Str->Option Value},P.Nodup->P[i]?=some x->vs[i]?=some v->kindOf x=some .local->
    bindL kindOf (P.zip vs) m x=some v
  | [],_,_,_,_,h,_,_=>by simp at h
  | _::_,[],_,_,_,_,h,_=>by simp at h
  | p::P,w::vs,0,m,nd,h1,h2,hk=>by
    simp at h1 h2;subst h1;subst h2;show bindL kindOf ((p,w)::P.zip vs) m p=_;unfold bindL;rw[yj λv hv=>(dz.mp nd).1 (kJ hv).1,ae hk];simp
  | p::P,w::vs,i+1,m,nd,h1,h2,hk=>by
    show bindL kindOf ((p,w)::P.zip vs) m x=_;unfold bindL;exact yn (i:=i) (dz.mp nd).2 (by simpa using h1) (by simpa using h2) hk
def yo {kindOf:Str->Option NameKind}{x:Str}{v:Value}:∀{P:List Str} {vs:List Value} {i:Nat} {m:Str->Option Value},P.Nodup->P[i]?=some x->vs[i]?=some v->kindOf x≠some .local->
    bindC kindOf (P.zip vs) m x=some v
  | [],_,_,_,_,h,_,_=>by simp at h
  | _::_,[],_,_,_,_,h,_=>by simp at h
  | p::P,w::vs,0,m,nd,h1,h2,hk=>by
    simp at h1 h2;subst h1;subst h2;show bindC kindOf ((p,w)::P.zip vs) m p=_;unfold bindC;rw[yk λv hv=>(dz.mp nd).1 (kJ hv).1,af hk];simp
  | p::P,w::vs,i+1,m,nd,h1,h2,hk=>by
    show bindC kindOf ((p,w)::P.zip vs) m x=_;unfold bindC;exact yo (i:=i) (dz.mp nd).2 (by simpa using h1) (by simpa using h2) hk
def di (N:List Str)(vs:List V):St:=vs.map some++List.replicate (N.length-vs.length) none
def cxOf (CX:CXT)(P:Program)(w:World)(K:Frag)(mg:Str->Option Value)(base:Heap)(N:List Str)(qual:Str)(scope:Scope)(f:Addr)(cd:Value)(A:Around)(outer:List Env)(s:Shared)(H:Hp)(E:XK):Cx where
  prog:=P
  w:=w
  K:=K
  mg:=mg
  base:=base
  A:=A.deeper (envOfC qual scope s.heap.objs.size f cd)
  N:=N
  s₀:=s
  H₀:=H
  env:=envOfC qual scope s.heap.objs.size f cd
  outer:=outer
  stack:=envOfC qual scope s.heap.objs.size f cd::outer
  ex:=[]
  calm:=true
  fn:=λ_=>true
  pn:=[]
  xe:=λe s'=>wpAny (model P w) (A.deeper (envOfC qual scope s.heap.objs.size f cd)) (leaving (envOfC qual scope s.heap.objs.size f cd) e) (λ_ s''=>CX outer H s E e s'') (λe' s''=>CX outer H s E e' s'') s'
def yp {sc:Scope}{n:Nat}{x:Str}(h:sc.names.lookup x=some .cell):∃ c,(cellsFrom n sc.names []).lookup x=some c:=by
  have q:=W.cellsFrom_some sc.names n [] (.inl h);exact sy.mp q
def DG {K:Frag}{qual:Str}{f:Addr}{cd:Value}{A:Around}{s1:Shared}{us:List Value}{vs:List V}
    (S:aU N ps scope) (hd:A.handled=none) (e0:Env0 P w K mg base A outer s H) (hl:vs.length=ps.length) (r:Vals vs us)
    (x:InCallC s s.heap.objs.size (bindL (envOfC qual scope s.heap.objs.size f cd).kindOf (ps.zip us) λ_=>none) (cellsFrom (s.heap.objs.size+1) scope.names []) (bindC (envOfC qual scope s.heap.objs.size f cd).kindOf (ps.zip us) λ_=>none) s1) :
    Inv (cxOf CX P w K mg base N qual scope f cd A outer s H E) [] (di N vs) H s1:=by
  have hpl:ps.length<=N.length:=by have:=congrArg List.length S.pre;rw[aT]at this;lia
  obtain ⟨h1,tk,rfl,hk⟩:=x.done;have noA:∀ b:Addr,b∉(cxOf CX P w K mg base N qual scope f cd A outer s H E).ex:=λb z=>absurd (show b∈([]:List Addr) from z) (by simp);refine #[#[e0.mod,S.kind,rfl,rfl,ai _,λy z c h1 h2=>?_,λy hy=>?_,λy c _ h=>?_,λ_=>hd,Around.frames_deeper e0.frames,.inr #[rfl,rfl],λb z=>absurd z (noA b),e0.bs,e0.bsz,λb _ _=>noA b,λb z=>absurd z (noA b),e0.funs,e0.frf],
    rfl,e0.bare,Un.kept hk,#[_,x.toInCall.ns,λi y v h1 h2 h3=>?_],λy c h=>#[_,x.cell y c h],e0.hok.fresh (ai _),λy c h=>?_,λp hp=>absurd (show p∈([]:List (Addr×Obj)) from hp) (by simp),e0.hok.kept hk,?_]
  · exact name_of_addr x.apart (PySem.mem_of_lookup h1) (PySem.mem_of_lookup h2)
  · have hy:scope.names.lookup y=some .cell\/scope.names.lookup y=some .free:=hy
    rcases hy with hy|hy
    · exact yp hy
    · exact absurd rfl (S.nofree _ (PySem.mem_of_lookup hy))
  · exact aZ (x.above y c (PySem.mem_of_lookup h))
  · have hi:i<vs.length:=by
      unfold di at h2;by_cases hi:i<vs.length
      · exact hi
      · rw[fM (by simpa using hi)]at h2
        rw[sG]at h2;split at h2<;>cases h2
    have ha:vs[i]?=some v:=by
      unfold di at h2;rw[gS (by simpa using hi),bf]at h2;cases e:vs[i]? with
      | none=>rw[e]at h2;cases h2
      | some a=>rw[e]at h2;cases h2;rfl
    obtain ⟨u,hu,rv⟩:=r.get ha;have hp:ps[i]?=some y:=by
      rw[<-S.pre,List.getElem?_take_of_lt (by lia)];exact h1
    have ndP:ps.Nodup:=by rw[<-S.pre];exact S.nd.sublist (List.take_sublist _ _)
    refine #[u,rv,?_];rcases S.par y (cy hp) with k|k
    · exact .inl #[k,yn ndP hp hu k]
    · obtain ⟨c,e⟩:=yp (n:=s.heap.objs.size+1) k
      refine .inr #[.inl k,c,e,?_];have q:=x.cell y c e;rw[yo ndP hp hu (by show scope.names.lookup y≠_;rw[k];decide)]at q;exact q
  · exact e0.hok.fresh (aZ (x.above y c (PySem.mem_of_lookup h)))
  · unfold di
    show _=N.length;rw[bc,aq,cR];lia
def yr {K:Frag}{k:Nat}{f:Addr}{name qual:Str}{params:Arguments}{body:List Stmt}{scope:Scope}{dV kV doc pm cdv ct oc:Value}{an od:Option Addr}
    {osl:Array (Option Value)}  {sp:Sp} (lk:K.lookup f=some #[oc,od,.func (fnOf name qual params body scope dV kV doc pm an cdv ct),osl]) (hcd:codeIn K cdv qual=true) (S:aU N ps scope)
    (len:∀ vs H Q E,sp vs H Q E->vs.length=ps.length)
    (hbody:∀(A:Around) (outer:List Env) (s:Shared) (H:Hp) (vs:List V) (Q:VK) (E:XK),Room k (A.deeper (envOfC qual scope s.heap.objs.size f cdv))->sp vs H Q E->
      ∃ t,PSs (cxOf CX P w K mg base N qual scope f cdv A outer s H E) body t/\t { nx:=λ_ H'=>Q .non H',rt:=Q } (di N vs) H) :
    FnOk P w K mg base CX (k+1) f (fnOf name qual params body scope dV kV doc pm an cdv ct) ps sp:=by
  refine #[len,λA outer s H args us vs Q E hr e0 hb r hsp=>?_];have hl:=len _ _ _ _ hsp;have KX:K.In s.heap:=e0.mod.kin.keeps λb o e=>(e0.bs b o e).1;have lim:s.heap.NoLimit:=e0.mod.nolimit.keeps λb o e=>(e0.bs b o e).1;have hkind:∀ y∈ps.zip us,scope.names.lookup y.1=some .local\/(scope.names.lookup y.1=some .cell/\((cellsFrom (s.heap.objs.size+1) scope.names []).lookup y.1).isSome=true):=λ⟨n,v⟩ hy=>by
    rcases S.par n (kJ hy).1 with q|q
    · exact .inl q
    · exact .inr #[q,W.cellsFrom_some _ _ _ (.inl q)]
  refine codeAny_call_function hr.depth (KX _ _ lk) rfl S.co S.gen rfl (W.codeRec_of KX hcd) (hb _ _ _ _ ?_);refine wpAny_newFunctionEnv_cells S.kind hkind λenv he s1 x=>?_;subst he;refine #[lim.keeps x.toInCall.keep,codeAny_func ?_];obtain ⟨t,ht,hq⟩:=hbody A outer s H vs Q E (hr.deeper _) hsp;have I:Inv (cxOf CX P w K mg base N qual scope f cdv A outer s H E) [] (di N vs) H s1:=DG S hr.hd e0 hl r x;refine dP (ht [] s1 (di N vs) H _ I hq) (λfl s' hs=>?_) λe s' hs=>hs;have fin:∀{Z':St} {H':Hp} {v:V} {u:Value},Inv (cxOf CX P w K mg base N qual scope f cdv A outer s H E) [] Z' H' s'->RelV v u->Q v H'->CE outer P w H s Q u s':=
    λ{Z' H' v u} J rv q=>#[v,H',J.os,J.bare,J.base,J.hok,rv,q]
  cases fl with
  | ret u=>
    obtain ⟨v,Z',H',J,rv,q⟩:=hs;exact fin J rv q
  | next=>
    obtain ⟨Z',H',J,q⟩:=hs;exact fin (v:=V.non) (u:=Value.none) J rfl q
  | brk=>
    obtain ⟨_,_,_,q⟩:=hs;exact False.elim q
  | cont=>
    obtain ⟨_,_,_,q⟩:=hs;exact False.elim q
section
variable {X:Cx}{x:Str}{p pos:Pos}{e:Expr}{es:List Expr}{t:TA}{id T:String}{r:List V->Hp->VK->Prop}
def tCB (r:List V->Hp->VK->Prop)(t:TA):TE:=λZ H Q=>t Z H λvs H1=>r vs H1 Q
def aV (hc:cV X (.builtin id) r)(hg:Gl X x)(hm:X.mg x=none)(hv:bootBuiltins x=some (.builtin id))(ha:PA X (e::es) t)(hn:x ≠ "__name__":=by decide)(hdb:(x==("__debug__" : Str))=false:=by decide)
    (he:starEach (e::es) X.env=(false,eval e X.env)::starEach es X.env:=by rfl) (hpl:(backTo pos (starEach es X.env)).any (·.1)=false:=by rfl):PE X (.Call (.Name x p) (e::es) [] pos) (tCB r t):=by
  intro LB s Z H Q I h;refine wpAny_Call_Name_kw (gD I hg hm hv ?_ hn hdb);exact PyProof.Rows.callWith_builtin1 (thn (ha pos LB s Z H _ I h) λus s1 zq0=>(by obtain ⟨vs,H1,I1,r1,q1⟩:=zq0;exact hc LB s1 Z H1 vs us Q I1 r1 q1)) he hpl
def fH (hc:cV X (.type T) r)(hg:Gl X x)(hm:X.mg x=none)(hv:bootBuiltins x=some (.type T))(ha:PA X (e::es) t)(hn:x ≠ "__name__":=by decide)(hdb:(x==("__debug__" : Str))=false:=by decide)
    (he:starEach (e::es) X.env=(false,eval e X.env)::starEach es X.env:=by rfl) (hpl:(backTo pos (starEach es X.env)).any (·.1)=false:=by rfl):PE X (.Call (.Name x p) (e::es) [] pos) (tCB r t):=by
  intro LB s Z H Q I h;refine wpAny_Call_Name_kw (gD I hg hm hv ?_ hn hdb);exact PyProof.Rows.callWith_type1 (thn (ha pos LB s Z H _ I h) λus s1 zq0=>(by obtain ⟨vs,H1,I1,r1,q1⟩:=zq0;exact hc LB s1 Z H1 vs us Q I1 r1 q1)) he hpl
end
end L2
namespace HT
open PySem PyProof.Rows
section
variable {prog:Program}{w:World}{A:Around}{E:Value->Shared->Prop}{s:Shared}
def cat_tup {t b:Addr}{vs ws:List Value}{Q:Value->Shared->Prop}(ht:IsTup s.heap t vs.toArray)(hb:IsTup s.heap b ws.toArray)(hv:vs≠[])
    (h1:ws=[]->Q (.ref t) s) (h2:ws≠[]->Q (.ref s.heap.objs.size) { s with heap:=s.heap.push { cls:=.type "tuple",data:=.seq (vs++ws).toArray } })
    (hsz:vs.length+ws.length<=sizeLine):wpAny (model prog w) A (binaryOp .Add (.ref t) (.ref b)) Q E s:=by
  obtain ⟨⟨cls,dd,data,sl⟩,ho,hc,n,hd⟩:=id ht;obtain ⟨⟨cls2,dd2,data2,sl2⟩,ho2,hc2,n2,hd2⟩:=id hb;simp only at hc hd hc2 hd2;subst hc hd hc2 hd2;have e:vs.toArray++ws.toArray=(vs++ws).toArray:=by simp
  by_cases hw:ws=[]
  · exact concat_meets #[_,ho,rfl] #[_,ho2,rfl] noFill_tuple_add seq_tuple_add PySem.F.slot_tuple_add PySem.F.entry_tuple_add (PySem.F.args_tuple_add_2 _ _)
      (tuple_addW1 t b vs.toArray ws.toArray n n2 dd dd2 sl sl2 (by simpa using hv) (by simp[hw])) #[ho,ho2,h1 hw]
  · refine concat_meets #[_,ho,rfl] #[_,ho2,rfl] noFill_tuple_add seq_tuple_add PySem.F.slot_tuple_add PySem.F.entry_tuple_add (PySem.F.args_tuple_add_2 _ _)
      (tuple_addW2 t b vs.toArray ws.toArray n n2 dd dd2 sl sl2 (by simpa using hv) (by simpa using hw) (by rw[bL,bL];exact hsz)) #[ho,ho2,?_]
    rw[e];exact h2 hw
def sIx (n d:Nat):Option Int->Nat
  | none=>d
  | some v=>if v<0 then (v+(n:Int)).toNat else min v.toNat n
def iR (n d k:Nat):sIx n d (some (k:Int))=min k n:=by
  show (if (k:Int)<0 then ((k:Int)+(n:Int)).toNat else min (k:Int).toNat n)=min k n
  rw[af (by lia),fN]
def DH (n d:Nat)(hd:d<=n)(o:Option Int):sIx n d o<=n:=by
  cases o with
  | none=>exact hd
  | some v=>
    show (if v<0 then (v+(n:Int)).toNat else min v.toNat n)<=n
    by_cases hv:v<0
    · rw[ae hv];lia
    · rw[af hv];exact Nat.min_le_right _ _
def yt (v:Int)(n d:Nat):(if v<0 then max (v+(n:Int)) 0 else min v (n:Int))=((sIx n d (some v):Nat):Int):=by
  show (if v<0 then max (v+(n:Int)) 0 else min v (n:Int))=(((if v<0 then (v+(n:Int)).toNat else min v.toNat n):Nat):Int)
  by_cases hv:v<0
  · simp only[ae hv];lia
  · simp only[af hv];lia
def DI (lo hi:Option Int)(n:Nat):Builtin.Slice.sliceAdjust lo hi 1 (n:Int)=(((sIx n 0 lo:Nat):Int),((sIx n n hi:Nat):Int)):=by
  have h1:¬ ((1:Int)<0):=by lia
  unfold Builtin.Slice.sliceAdjust;simp only[h1,if_false];refine Prod.ext ?_ ?_
  · cases lo with
    | none=>rfl
    | some v=>exact yt v n 0
  · cases hi with
    | none=>rfl
    | some v=>exact yt v n n
def DJ (i j:Nat):Builtin.Slice.slicePlaces (i:Int) (j:Int) 1=j-i:=by
  unfold Builtin.Slice.slicePlaces;have h1:(1:Int)>0:=by lia
  simp only[h1,if_true,Int.ediv_one];split<;>lia
def yu {v:Value}{o:Option Int}{Q:Option Int->Shared->Prop}(p:IsPart v o)(h:Q o s):wpAny (model prog w) A (Builtin.Slice.slicePartIndex v) Q E s:=by
  cases p with
  | none=>exact slicePart_none h
  | int i t=>exact slicePart_int h
def yv {sl:Addr}{vl vu:Value}{lo hi:Option Int}{Q:Int×Int×Nat->Shared->Prop}(hs:s.heap.IsSliceOf sl vl vu .none)(pl:IsPart vl lo)(pu:IsPart vu hi)
    (h:Q (((sIx n 0 lo:Nat):Int),1,sIx n n hi-sIx n 0 lo) s):wpAny (model prog w) A (Builtin.Slice.sliceApplied (.ref sl) (pure (n:Int))) Q E s:=by
  obtain ⟨os,hos,hcs,hds⟩:=id hs;unfold Builtin.Slice.sliceApplied Builtin.Slice.sliceFields;refine ao (ao (wpAny_field hos hds (x:=vl) rfl (ao (wpAny_field hos hds (x:=vu) rfl (ao (wpAny_field hos hds (x:=.none) rfl (aA ?_)))))));refine ao (slicePart_none ?_);show wpAny _ _ (if ((1:Int)==0)=true then _ else _) _ _ s
  rw[af (by decide)];refine ao (yu pl (ao (yu pu (ao (aA ?_)))));show wpAny _ _ (match Builtin.Slice.sliceAdjust lo hi 1 (n:Int) with|(lo,hi)=>pure (lo,(1:Int),Builtin.Slice.slicePlaces lo hi 1)) _ _ s
  rw[DI lo hi n];show wpAny _ _ (pure (((sIx n 0 lo:Nat):Int),(1:Int),Builtin.Slice.slicePlaces ((sIx n 0 lo:Nat):Int) ((sIx n n hi:Nat):Int) 1)) _ _ s;rw[DJ];exact aA h
def DK (xs:Array Value)(i k:Nat):((List.range k).filterMap λ(m:Nat)=>xs[((i:Int)+(m:Int)*1).toNat]?).toArray=((xs.toList.drop i).take k).toArray:=by
  have e:(λ(m:Nat)=>xs[((i:Int)+(m:Int)*1).toNat]?)=λm=>xs[i+m]?:=by
    funext m
    have:((i:Int)+(m:Int)*1).toNat=i+m:=by lia
    rw[this]
  rw[e];have:=pick_run xs i k;rw[List.filterMap_map]at this;have e2:((λx=>xs[x]?) ∘ λx=>i+x)=λm=>xs[i+m]?:=rfl;rw[e2]at this;rw[this]
def getItem_tuple_cut {t sl:Addr}{items:Array Value}{vl vu:Value}{lo hi:Option Int}{Q:Value->Shared->Prop}(ht:IsTup s.heap t items)(hs:s.heap.IsSliceOf sl vl vu .none)(pl:IsPart vl lo)(pu:IsPart vu hi)
    (hw:¬ (sIx items.size 0 lo=0/\sIx items.size items.size hi=items.size))
    (h:Q (.ref s.heap.objs.size) { s with heap:=s.heap.push { cls:=.type "tuple",data:=.seq ((items.toList.drop (sIx items.size 0 lo)).take (sIx items.size items.size hi-sIx items.size 0 lo)).toArray } })
    (hsz:items.size<=sizeLine):wpAny (model prog w) A (getItem (.ref t) (.ref sl)) Q E s:=by
  have htake:sizeOk (.seq ((items.toList.drop (sIx items.size 0 lo)).take (sIx items.size items.size hi-sIx items.size 0 lo)).toArray):=by
    show ((items.toList.drop (sIx items.size 0 lo)).take (sIx items.size items.size hi-sIx items.size 0 lo)).toArray.size<=sizeLine;rw[bL,aT,eY,bH];lia
  have hj:sIx items.size items.size hi<=items.size:=DH _ _ (ai _) hi;obtain ⟨os,hos,hcs,hds⟩:=id hs;have hTs:s.TypeIs (.ref sl) "slice":=#[os,hos,hcs];unfold getItem
  try with_reducible refine wpAny_holding ?_
  first|refine ao (aA ?_)|skip
  refine ao (wpAny_sequenceKey ht.typeIs (by decide) ?_);refine ao (wpAny_callSpecial?_slot (name:=Str.ofString "__getitem__") ht.typeIs PyProof.Rows.slot_tuple_getitem
    (wpAny_call_entry PyProof.Rows.slot_tuple_getitem ht.typeIs entry_tuple_getitem ?_ (args_tuple_getitem _ _)))
  show wpAny _ _ (Builtin.Tuple.tupleItemsOf (.ref t) >>= _) _ _ s;refine ao (tupleItemsOf_ ht ?_);refine ao (wpAny_typeOf hTs ?_);rw[ae (by decide)];refine ao (yv hs pl pu ?_);have hno:¬ ((((sIx items.size 0 lo:Nat):Int)==0&&(1:Int)==1&&(sIx items.size items.size hi-sIx items.size 0 lo)==items.size)=true):=by
    intro q;rw[d9,d9]at q;have q1:((sIx items.size 0 lo:Nat):Int)=0:=eq_of_beq q.1.1;have q2:sIx items.size items.size hi-sIx items.size 0 lo=items.size:=eq_of_beq q.2;exact hw #[by lia,by lia]
  show wpAny _ _ (if (((sIx items.size 0 lo:Nat):Int)==0&&(1:Int)==1&&(sIx items.size items.size hi-sIx items.size 0 lo)==items.size)=true then _ else _) _ _ s
  rw[af hno,DK]
  first
    | exact ao (m:=Builtin.Tuple.tupleExact _) (wpAny_newObj_type (aA ⟨_,rfl,aA h⟩) htake)
    | exact ao (m:=Builtin.Tuple.tupleExact _) (wpAny_newObj_type (ao (aA (aA ⟨_,rfl,aA h⟩))) htake)
    | exact ao (ao (m:=Builtin.Tuple.tupleExact _) (wpAny_newObj_type (aA (aA ⟨_,rfl,aA h⟩)) htake))
    | exact ao (ao (m:=Builtin.Tuple.tupleExact _) (wpAny_newObj_type (aA ⟨_,rfl,aA h⟩) htake))
end
end HT
namespace L2
open PySem PySem.Spec PyProof.Rows
abbrev TO:=St->Hp->(Option Int->Hp->Prop)->Prop
def PO (X:Cx)(e:Option Expr)(t:TO):Prop:=
  ∀(LB:List (Addr×Obj)) (s:Shared) (Z:St) (H:Hp) (Q:Option Int->Hp->Prop),Inv X LB Z H s->t Z H Q->
    wpAny (model X.prog X.w) X.A (evalPart e X.env) (λu s'=>∃ o H',Inv X LB Z H' s'/\IsPart u o/\Q o H') X.xe s
def DL:TO:=λ_ H Q=>Q none H
inductive yw (Q:Option Int->Hp->Prop)(x:V)(H1:Hp):Prop
  | c:∀ i,x=.int i->Q (some i) H1->yw Q x H1
def lD (t:TE):TO:=λZ H Q=>t Z H λx H1=>yw Q x H1
section
variable {X:Cx}{e:Expr}{te:TE}{lo hi:Option Expr}{tl th:TO}{pos p2:Pos}
def nZ:PO X none DL:=by
  intro LB s Z H Q I h;rw[evalPart_none];exact aA #[none,H,I,.none,h]
def eQ (h:PE X e te):PO X (some e) (lD te):=by
  intro LB s Z H Q I hw;rw[evalPart_some];refine thn (h LB s Z H _ I hw) λu s1 zq0=>?_;obtain ⟨x,H1,I1,r1,q1⟩:=zq0;obtain ⟨i,rfl,q⟩:=q1;obtain ⟨t,rfl⟩:=r1;exact #[some i,H1,I1,.int i t,q]
def SlR (X:Cx)(r:V->Option Int->Option Int->Hp->VK->Prop):Prop:=
  ∀(LB:List (Addr×Obj)) (s:Shared) (Z:St) (H:Hp) (x:V) (v vl vu:Value) (lo hi:Option Int) (sl:Addr) (Q:VK),Inv X LB Z H s->RelV x v->s.heap.IsSliceOf sl vl vu .none->IsPart vl lo->IsPart vu hi->r x lo hi H Q->
    ∃ T id,typeLookup (.type T) "__getitem__" = pure (some (.builtin id))/\s.TypeIs v T/\wpAny (model X.prog X.w) X.A (getItem v (.ref sl)) (EP X LB Z Q) X.xe s
def tSl (r:V->Option Int->Option Int->Hp->VK->Prop)(te:TE)(tl th:TO):TE:=λZ H Q=>te Z H λx H1=>tl Z H1 λl H2=>th Z H2 λu H3=>r x l u H3 Q
def gK (hr:SlR X r)(he:PE X e te)(hl:PO X lo tl)(hu:PO X hi th):PE X (.Subscript e (.Slice lo hi none p2) pos) (tSl r te tl th):=by
  intro LB s Z H Q I h;refine Subscript_ (thn (he LB s Z H _ I h) λv s1 zq0=>?_);obtain ⟨x,H1,I1,r1,q1⟩:=zq0;refine wpAny_Slice (thn (hl LB s1 Z H1 _ I1 q1) λvl s2 zq0=>?_);obtain ⟨l,H2,I2,pl,q2⟩:=zq0;refine thn (hu LB s2 Z H2 _ I2 q2) λvu s3 cM=>?_;obtain ⟨u,H3,I3,pu,q3⟩:=cM;rw[evalPart_none];refine aA ?_;have I4:Inv X LB Z H3 { s3 with heap:=s3.heap.push { cls:=.type "slice",data:=.fields (List.toArray [vl,vu,.none]) } }:=I3.kept (t':=s3.toks) λb ob q=>aR _ q;obtain ⟨T,id,hT,ht,hg⟩:=hr LB { s3 with heap:=s3.heap.push { cls:=.type "slice",data:=.fields (List.toArray [vl,vu,.none]) } } Z H3 x v vl vu l u s3.heap.objs.size Q I4 r1 (Heap.IsSliceOf.new ..) pl pu q3;show wpAny (model X.prog X.w) X.A (subscriptTail e (.Slice lo hi none p2) v (.ref s3.heap.objs.size)) (EP X LB Z Q) X.xe { s3 with heap:=s3.heap.push { cls:=.type "slice",data:=.fields (List.toArray [vl,vu,.none]) } };exact tail_any (ops:=[.ref s3.heap.objs.size,v]) ht hT hg (by with_unfolding_all rfl)
def cutV (xs:List V)(lo hi:Option Int):List V:=(xs.drop (HT.sIx xs.length 0 lo)).take (HT.sIx xs.length xs.length hi-HT.sIx xs.length 0 lo)
def yx (xs:List V)(lo hi:Option Int):(cutV xs lo hi).length<=xs.length:=by
  unfold cutV;rw[aT,eY];lia
inductive rSlT (K:Frag)(x:V)(lo:Option Int)(hi:Option Int)(H:Hp)(Q:VK):Prop
  | c:∀ a xs,x=.ref a->SqT K H a xs->¬ (HT.sIx xs.length 0 lo=0/\HT.sIx xs.length xs.length hi=xs.length)->(∀ p,H p=none->Q (.ref p) (upd H p (.tup (cutV xs lo hi))))->rSlT K x lo hi H Q
def DM:SlR X (rSlT X.K):=by
  intro LB s Z H x v vl vu lo hi sl Q I rx hs pl pu h;obtain ⟨a,xs,rfl,hx,hw,q⟩:=h;cases rx
  obtain ⟨its,r,ht,hz⟩:=I.tuple hx;have hlen:its.toArray.size=xs.length:=by rw[bL];exact r.length.symm
  refine #["tuple",_,PyProof.Rows.slot_tuple_getitem.lookup,ht.typeIs,?_];refine HT.getItem_tuple_cut ht hs pl pu (by rw[hlen];exact hw) ?_ (by rw[hlen];exact hz);rw[hlen];refine #[.ref s.heap.objs.size,_,I.laid (t':=s.toks) (o:=.tup (cutV xs lo hi)) (λb ob q=>aR _ q) (ai _) ?_,rfl,q _ (I.hok.fresh (ai _))];exact #[ax (yx xs lo hi) hz,_,(r.drop (HT.sIx xs.length 0 lo)).take (HT.sIx xs.length xs.length hi-HT.sIx xs.length 0 lo),IsTup.new _ _]
inductive oa (K:Frag)(x:V)(y:V)(H:Hp)(Q:VK):Prop
  | c:∀ a b xs ys,x=.ref a->y=.ref b->SqT K H a xs->SqT K H b ys->xs≠[]->xs.length+ys.length<=sizeLine->(ys=[]->Q (.ref a) H)->(ys≠[]->∀ p,H p=none->Q (.ref p) (upd H p (.tup (xs++ys))))->oa K x y H Q
def Vals.nil_iff {xs:List V}{us:List Value}(r:Vals xs us):us=[]↔xs=[]:=by
  cases r with
  | nil=>simp
  | cons _ _=>simp
def tE:OpR X (binaryOp .Add) (oa X.K):=by
  intro LB s Z H x y v u Q I rx ry h;obtain ⟨a,b,xs,ys,rfl,rfl,ha,hb,hx,hz,q1,q2⟩:=h;cases rx
  cases ry
  obtain ⟨its,r1,p1,_⟩:=I.tuple ha;obtain ⟨its2,r2,p2,_⟩:=I.tuple hb;refine HT.cat_tup p1 p2 (λz=>hx (r1.nil_iff.mp z)) (λz=>#[.ref a,H,I,rfl,q1 (r2.nil_iff.mp z)]) (λz=>?_) (by rw[<-r1.length,<-r2.length];exact hz);refine #[.ref s.heap.objs.size,_,I.laid (t':=s.toks) (o:=.tup (xs++ys)) (λb ob q=>aR _ q) (ai _) ?_,rfl,q2 (λw=>z (r2.nil_iff.mpr w)) _ (I.hok.fresh (ai _))];exact #[by rw[bc];exact hz,_,r1.append r2,IsTup.new _ _]
end
def ixN (n:Nat)(i:Int):Option Nat:=if 0<=i then (if i<n then some i.toNat else none) else if -(n:Int)<=i then some (i+n).toNat else none
def atI {α:Type}(xs:List α)(i:Int):Option α:=(ixN xs.length i).bind λj=>xs[j]?
def yy {j:Nat}(h:ixN n i=some j):seqIndex? i n=some j/\j<n/\-(n:Int)<=i/\i<n:=by
  unfold ixN at h;by_cases h0:0<=i
  · rw[ae h0]at h
    by_cases h1:i<n
    · rw[ae h1]at h
      have e:i.toNat=j:=aJ h;exact #[by rw[seqIndex_of h0 h1,e],by lia,by lia,h1]
    · rw[af h1]at h;cases h
  · rw[af h0]at h
    by_cases h1:-(n:Int)<=i
    · rw[ae h1]at h
      have e:(i+n).toNat=j:=aJ h;exact #[by rw[seqIndex_neg (by lia) h1,e],by lia,h1,by lia]
    · rw[af h1]at h;cases h
def yA {α:Type}{xs:List α}{v:α}(h:atI xs i=some v):∃ j,seqIndex? i xs.length=some j/\xs[j]?=some v/\j<xs.length/\-(xs.length:Int)<=i/\i<xs.length:=by
  unfold atI at h;cases e:ixN xs.length i with
  | none=>rw[e]at h;cases h
  | some j=>
    rw[e]at h;obtain ⟨h1,h2,h3,h4⟩:=yy e;exact #[j,h1,h,h2,h3,h4]
def dG {α:Type}{xs:List α}{j:Nat}{v:α}(h:xs[j]?=some v):atI xs (j:Int)=some v:=by
  have hj:j<xs.length:=(aM.mp h).1;have e:ixN xs.length (j:Int)=some j:=by
    unfold ixN;rw[ae (by lia),ae (by lia)];simp
  unfold atI;rw[e];exact h
def DN (b:Expr):Prop:=∀ o i,subscripted b false o i=operate [o,i] (getItem o i)
def IxR (X:Cx)(r:R2):Prop:=
  ∀(value slice:Expr) (LB:List (Addr×Obj)) (s:Shared) (Z:St) (H:Hp) (x y:V) (v u:Value) (Q:VK),Inv X LB Z H s->RelV x v->RelV y u->r x y H Q->
    subscripted slice false v u=operate [v,u] (getItem v u)->wpAny (model X.prog X.w) X.A (subscriptTail value slice v u) (EP X LB Z Q) X.xe s
def MtR (X:Cx)(id:String)(r:V->List V->Hp->VK->Prop):Prop:=
  ∀(LB:List (Addr×Obj)) (s:Shared) (Z:St) (H:Hp) (x:V) (xs:List V) (v:Value) (us:List Value) (Q:VK),Inv X LB Z H s->RelV x v->Vals xs us->r x xs H Q->
    wpAny (model X.prog X.w) X.A (call (.builtin id) (v::us)) (EP X LB Z Q) X.xe s
section
variable {X:Cx}{a b:Expr}{ta tb:TE}{pos:Pos}
def aH (hr:IxR X r)(ha:PE X a ta)(hb:PE X b tb)(hs:DN b):PE X (.Subscript a b pos) (tOp r ta tb):=by
  intro LB s Z H Q I h;exact Subscript_ (binT ha hb I h λv u s2 x y H2 I2 rx ry q=>hr a b LB s2 Z H2 x y v u Q I2 rx ry q (hs _ _))
inductive rIxL (K:Frag)(x:V)(y:V)(H:Hp)(Q:VK):Prop
  | c:∀ p xs i v,x=.ref p->y=.int i->SqL K H p xs->atI xs i=some v->Q v H->rIxL K x y H Q
inductive rIxT (K:Frag)(x:V)(y:V)(H:Hp)(Q:VK):Prop
  | c:∀ p xs i v,x=.ref p->y=.int i->SqT K H p xs->atI xs i=some v->Q v H->rIxT K x y H Q
def DO:IxR X (rIxL X.K):=by
  intro value slice LB s Z H x y v u Q I rx ry h hs;obtain ⟨p,xs,i,z,rfl,rfl,hq,he,q⟩:=h;cases rx
  obtain ⟨t,rfl⟩:=ry;obtain ⟨its,r,pl,hz⟩:=I.list hq;obtain ⟨j,h1,h2,h3,h4,h5⟩:=yA he;obtain ⟨w,ew,rw'⟩:=r.get h2;have hl:=r.length;have hn:=nY;have fin:EP X LB Z Q w s:=#[z,H,I,rw',q];by_cases h0:0<=i
  · have hj:i.toNat=j:=by
      rw[seqIndex_of h0 h5]at h1;exact aJ h1
    exact item_listR pl.isList h0 (by lia) (by rw[hj];simpa using ew) fin hs
  · have hj:(i+(its.toArray.size:Int)).toNat=j:=by
      rw[seqIndex_neg (by lia) h4]at h1;rw[bL,<-hl];exact aJ h1
    exact subscriptTail_builtinR (x:=w) pl.isList.typeIs slot_list_getitem.lookup
      (wpAny_getItem_list_neg (Q:=λr s'=>r=w/\EP X LB Z Q r s') pl.isList (by lia) (by rw[bL]<;>lia) (by lia) (by rw[hj];simpa using ew) #[rfl,fin]) hs
def DP:IxR X (rIxT X.K):=by
  intro value slice LB s Z H x y v u Q I rx ry h hs;obtain ⟨p,xs,i,z,rfl,rfl,hq,he,q⟩:=h;cases rx
  obtain ⟨t,rfl⟩:=ry;obtain ⟨its,r,pl,hz⟩:=I.tuple hq;obtain ⟨j,h1,h2,h3,h4,h5⟩:=yA he;obtain ⟨w,ew,rw'⟩:=r.get h2;have hl:=r.length;have hn:=nY;have fin:EP X LB Z Q w s:=#[z,H,I,rw',q];exact subscriptTail_builtinR (x:=w) pl.typeIs slot_tuple_getitem.lookup
    (getItem_tuple (j:=j) (Q:=λr s'=>r=w/\EP X LB Z Q r s') pl (by lia) (by lia) (by rw[bL,<-hl];exact h1) (by simpa using ew) #[rfl,fin]) hs
def DQ (its:List Value)(n j:Nat)(u:Value):Obj.mapSeq (·.setIfInBounds j u) { cls:=.type "list",data:=.seq its.toArray n }={ cls:=.type "list",data:=.seq (its.set j u).toArray n }:=by
  simp[Obj.mapSeq]
def Inv.lst {LB:List (Addr×Obj)}{Z:St}{H:Hp}{s:Shared}{p:Addr}{xs:List V}(I:Inv X LB Z H s)(h:H p=some (.lst xs)) :
    ∃(its:List Value) (n:Nat),Vals xs its/\s.heap.get? p=some { cls:=.type "list",data:=.seq its.toArray n }/\xs.length<=sizeLine:=by
  obtain ⟨z,its,n,r,e⟩:=I.hok p _ h;exact #[its,n,r,e,z]
def Inv.lstUpd {p:Addr}{xs ys:List V}{its its':List Value}{n n':Nat}{f:Obj->Obj}(I:Inv X LB Z H s)(h:H p=some (.lst xs))
    (ho:s.heap.get? p=some { cls:=.type "list",data:=.seq its.toArray n }) (hf:f { cls:=.type "list",data:=.seq its.toArray n }={ cls:=.type "list",data:=.seq its'.toArray n' }) (r:Vals ys its') (hz:ys.length<=sizeLine) (t:Nat) :
    Inv X LB Z (upd H p (.lst ys)) { s with heap:=s.heap.update p f,toks:=t }:=by
  have e:(s.heap.update p f).get? p=some { cls:=.type "list",data:=.seq its'.toArray n' }:=by
    rw[sH f ho (by rw[hf]<;>rfl),hf]
  refine I.write (x:=p) (e:=p) (by rw[h];trivial) (.inl rfl) (λb u hb q=>(iF _ _ (aS hb)).trans q) #[_,e] ?_;exact #[hz,its',n',r,e]
inductive yB (o:V)(i:V)(v:V)(H:Hp)(Q:Hp->Prop):Prop
  | c:∀ p xs k j,o=.ref p->i=.int k->H p=some (.lst xs)->ixN xs.length k=some j->Q (upd H p (.lst (xs.set j v)))->yB o i v H Q
def jI:PSet X yB:=by
  intro LB s Z H o i v ov iv u Q I ro ri rv h;obtain ⟨p,xs,k,j,rfl,rfl,hp,hj,q⟩:=h;cases ro
  obtain ⟨t,rfl⟩:=ri;obtain ⟨its,n,r,ho,hz⟩:=I.lst hp;obtain ⟨h1,h2,h3,h4⟩:=yy hj;have hl:=r.length;have hn:=nY;have I':Inv X LB Z (upd H p (.lst (xs.set j v))) { s with heap:=s.heap.update p (Obj.mapSeq (·.setIfInBounds j u)) }:=
    I.lstUpd hp ho (DQ its n j u) (r.set rv j) (by rw[mV];exact hz) s.toks
  by_cases h0:0<=k
  · have hk:k.toNat=j:=by
      rw[seqIndex_of h0 h4]at h1;exact aJ h1
    exact W.ki_setAt ho h0 (by lia) (by rw[bL,<-hl];exact h4) (by rw[hk];exact #[_,I',q])
  · have hk:(k+(its.toArray.size:Int)).toNat=j:=by
      rw[seqIndex_neg (by lia) h3]at h1;rw[bL,<-hl];exact aJ h1
    exact W.ki_setBack ho (by lia) (by rw[bL,<-hl];exact h3) (by lia) (by rw[hk];exact #[_,I',q])
def DR (lo hi:Option Int)(n:Nat):(sliceBounds lo hi none n).1=((HT.sIx n 0 lo:Nat):Int)/\(sliceBounds lo hi none n).2.1=((HT.sIx n n hi:Nat):Int)/\(sliceBounds lo hi none n).2.2=1:=by
  refine #[?_,?_,rfl]
  · cases lo with
    | none=>simp[sliceBounds,HT.sIx]
    | some i=>
      simp only[sliceBounds,HT.sIx,Option.getD_none,show (1:Int)>0 by decide,if_true];by_cases h:i<0
      · simp only[h,if_true]<;>lia
      · simp only[h,if_false]<;>lia
  · cases hi with
    | none=>simp[sliceBounds,HT.sIx]
    | some i=>
      simp only[sliceBounds,HT.sIx,Option.getD_none,show (1:Int)>0 by decide,if_true];by_cases h:i<0
      · simp only[h,if_true]<;>lia
      · simp only[h,if_false]<;>lia
def DS (its:List Value)(lo hi:Option Int):slicePick its.toArray lo hi none=((its.drop (HT.sIx its.length 0 lo)).take (HT.sIx its.length its.length hi-HT.sIx its.length 0 lo)).toArray:=by
  obtain ⟨h1,h2,h3⟩:=DR lo hi its.toArray.size;unfold slicePick;rw[h1,h2,h3];simp only[sliceRange_one,pick_run,bL]<;>rfl
inductive rSlL (K:Frag)(x:V)(lo:Option Int)(hi:Option Int)(H:Hp)(Q:VK):Prop
  | c:∀ a xs,x=.ref a->SqL K H a xs->(∀ p,H p=none->Q (.ref p) (upd H p (.lst (cutV xs lo hi))))->rSlL K x lo hi H Q
def DT:SlR X (rSlL X.K):=by
  intro LB s Z H x v vl vu lo hi sl Q I rx hs pl pu h;obtain ⟨a,xs,rfl,hx,q⟩:=h;cases rx
  obtain ⟨its,r,ht,hz⟩:=I.list hx;have hlen:=r.length;refine #["list",_,slot_list_getitem.lookup,ht.isList.typeIs,?_];refine wpAny_getItem_list_slice ht.isList hs pl pu .none (by simp) ?_ (by rw[bL]<;>lia)
  rw[DS,<-hlen];refine #[.ref s.heap.objs.size,_,I.laid (t':=s.toks) (o:=.lst (cutV xs lo hi)) (λb ob q=>aR _ q) (ai _) ?_,rfl,q _ (I.hok.fresh (ai _))];exact #[ax (yx xs lo hi) hz,_,0,(r.drop (HT.sIx xs.length 0 lo)).take (HT.sIx xs.length xs.length hi-HT.sIx xs.length 0 lo),cQ _ rfl]
def f9:V->Bool
  | .non=>true
  | .bl _=>true
  | .int _=>true
  | .str _=>true
  | _=>false
def eqV:V->V->Bool
  | .non,.non=>true
  | .bl a,.bl b=>a==b
  | .bl a,.int b=>(if a then 1 else 0)==b
  | .int a,.bl b=>a==(if b then 1 else 0)
  | .int a,.int b=>a==b
  | .str a,.str b=>a==b
  | _,_=>false
def DU {A:Around}{s:Shared}{y x:V}{u v:Value}(ry:RelV y u)(rx:RelV x v)(fy:f9 y=true)(fx:f9 x=true):SeqAt.EqAt A s u v (eqV y x):=by
  cases y with
  | non=>
    cases ry
    cases x with
    | non=>cases rx;exact SeqAt.EqAt.same _
    | bl b=>cases rx;exact SeqAt.EqAt.none_bool b
    | int b=>obtain ⟨t,rfl⟩:=rx;exact SeqAt.EqAt.none_int b t
    | str b=>obtain ⟨t,rfl⟩:=rx;exact SeqAt.EqAt.none_str b t
    | _=>exact absurd (show false=true from fx) cm
  | bl a=>
    cases ry
    cases x with
    | non=>cases rx;exact SeqAt.EqAt.bool_none a
    | bl b=>cases rx;exact SeqAt.EqAt.bool_bool a b
    | int b=>obtain ⟨t,rfl⟩:=rx;exact SeqAt.EqAt.bool_int a b t
    | str b=>obtain ⟨t,rfl⟩:=rx;exact SeqAt.EqAt.bool_str a b t
    | _=>exact absurd (show false=true from fx) cm
  | int a=>
    obtain ⟨t',rfl⟩:=ry;cases x with
    | non=>cases rx;exact SeqAt.EqAt.int_none a t'
    | bl b=>cases rx;exact SeqAt.EqAt.int_bool a t' b
    | int b=>obtain ⟨t,rfl⟩:=rx;exact SeqAt.EqAt.int_int a t' b t
    | str b=>obtain ⟨t,rfl⟩:=rx;exact SeqAt.EqAt.int_str a t' b t
    | _=>exact absurd (show false=true from fx) cm
  | str a=>
    obtain ⟨t',rfl⟩:=ry;cases x with
    | non=>cases rx;exact SeqAt.EqAt.str_none a t'
    | bl b=>cases rx;exact SeqAt.EqAt.str_bool a t' b
    | int b=>obtain ⟨t,rfl⟩:=rx;exact SeqAt.EqAt.str_int a t' b t
    | str b=>obtain ⟨t,rfl⟩:=rx;exact SeqAt.EqAt.str_str a t' b t
    | _=>exact absurd (show false=true from fx) cm
  | _=>exact absurd (show false=true from fy) cm
def eqU (x:V)(u:Value):Bool:=match u with
  | .none=>eqV .non x
  | .bool b=>eqV (.bl b) x
  | .int i _=>eqV (.int i) x
  | .str z _=>eqV (.str z) x
  | _=>false
def yC {y:V}{u:Value}(r:RelV y u)(f:f9 y=true):eqU x u=eqV y x:=by
  cases y with
  | non=>cases r;rfl
  | bl b=>cases r;rfl
  | int i=>obtain ⟨t,rfl⟩:=r;rfl
  | str z=>obtain ⟨t,rfl⟩:=r;rfl
  | _=>exact absurd (show false=true from f) cm
def lE :∀{xs:List V} {us:List Value},Vals xs us->xs.all f9=true->us.any (eqU x)=xs.any λy=>eqV y x
  | _,_,.nil,_=>rfl
  | y::xs,u::us,.cons r t,f=>by
    rw[mW,d9]at f;rw[gx,gx,yC r f.1,lE t f.2]
def lF {A:Around}{s:Shared}{x:V}{v:Value}(rx:RelV x v)(fx:f9 x=true):∀{xs:List V} {us:List Value},Vals xs us->xs.all f9=true->∀ u∈us,SeqAt.EqAt A s u v (eqU x u)
  | _,_,.nil,_=>λu hu=>by cases hu
  | y::xs,u::us,.cons r t,f=>λu' hu=>by
    rw[mW,d9]at f;rcases aW.mp hu with rfl|hu
    · rw[yC r f.1];exact DU r rx f.1 fx
    · exact lF rx fx t f.2 u' hu
def inV (x:V)(xs:List V):Bool:=xs.any λy=>eqV y x
inductive rIn (K:Frag)(neg:Bool)(x:V)(y:V)(H:Hp)(Q:VK):Prop
  | c:∀ p xs,y=.ref p->(SqL K H p xs\/SqT K H p xs)->f9 x=true->xs.all f9=true->Q (.bl (if neg then !inV x xs else inV x xs)) H->rIn K neg x y H Q
def DV:OpR X (compareOp .In) (rIn X.K false):=by
  intro LB s Z H x y v u Q I rx ry h;obtain ⟨p,xs,rfl,hq,fx,fs,q⟩:=h;cases ry
  rcases hq with hq|hq
  · obtain ⟨its,r,pl,hz⟩:=I.list hq
    refine SeqAt.in_listAt (eqU x) pl.isList (λw hw=>lF rx fx r fs w (by simpa using hw)) #[.bl _,H,I,rfl,?_];rw[show its.toArray.any (eqU x)=its.any (eqU x) by simp,lE r fs];exact q
  · obtain ⟨its,r,pl,hz⟩:=I.tuple hq
    refine SeqAt.in_tupleAt (eqU x) pl (λw hw=>lF rx fx r fs w (by simpa using hw)) #[.bl _,H,I,rfl,?_];rw[show its.toArray.any (eqU x)=its.any (eqU x) by simp,lE r fs];exact q
def DW:OpR X (compareOp .NotIn) (rIn X.K true):=by
  intro LB s Z H x y v u Q I rx ry h;obtain ⟨p,xs,rfl,hq,fx,fs,q⟩:=h;cases ry
  rcases hq with hq|hq
  · obtain ⟨its,r,pl,hz⟩:=I.list hq
    refine SeqAt.notIn_listAt (eqU x) pl.isList (λw hw=>lF rx fx r fs w (by simpa using hw)) #[.bl _,H,I,rfl,?_];rw[show its.toArray.any (eqU x)=its.any (eqU x) by simp,lE r fs];exact q
  · obtain ⟨its,r,pl,hz⟩:=I.tuple hq
    refine SeqAt.notIn_tupleAt (eqU x) pl (λw hw=>lF rx fx r fs w (by simpa using hw)) #[.bl _,H,I,rfl,?_];rw[show its.toArray.any (eqU x)=its.any (eqU x) by simp,lE r fs];exact q
def DX:cV X (.builtin "len") (λxs H Q=>∃ p ys,xs=[.ref p]/\(SqL X.K H p ys\/SqT X.K H p ys)/\Q (.int ys.length) H):=by
  intro LB s Z H xs us Q I r h;obtain ⟨p,ys,rfl,hq,q⟩:=h;obtain ⟨u,rfl,rx⟩:=fh r;cases rx
  have hn:=nY;rcases hq with hq|hq
  · obtain ⟨its,r',pl,hz⟩:=I.list hq
    have hlen:=r'.length;exact Calls.call_len_list pl.isList (by simp only[bL]<;>lia) #[.int ys.length,H,I.tok _,#[s.toks+1,by rw[bL,hlen]],q]
  · obtain ⟨its,r',pl,hz⟩:=I.tuple hq
    have hlen:=r'.length;exact len_tuple pl (by simp only[bL]<;>lia) #[.int ys.length,H,I.tok _,#[s.toks+1,by rw[bL,hlen]],q]
def DY:cV X (.type "list") (λxs H Q=>∃ p ys,xs=[.ref p]/\(SqL X.K H p ys\/SqT X.K H p ys)/\∀ l,H l=none->Q (.ref l) (upd H l (.lst ys))):=by
  intro LB s Z H xs us Q I r h;obtain ⟨p,ys,rfl,hq,q⟩:=h;obtain ⟨u,rfl,rx⟩:=fh r;cases rx
  have fin:∀(its:List Value),Vals ys its->ys.length<=sizeLine->∀(h':Heap) (c':Nat),(∀ b o',s.heap.get? b=some o'->h'.get? b=some o')->
      h'.get? s.heap.objs.size=some { cls:=.type "list",dict:=none,data:=.seq its.toArray c',slots:=(List.toArray []) }->EP X LB Z Q (.ref s.heap.objs.size) { s with heap:=h' }:=λits r' hz h' c' kp e=>
    #[.ref s.heap.objs.size,_,I.laid (t':=s.toks) kp (ai _) (show bD X.prog X.w _ h' _ (.lst ys) from #[hz,its,c',r',e]),rfl,q _ (I.hok.fresh (ai _))]
  rcases hq with hq|hq
  · obtain ⟨its,r',pl,hz⟩:=I.list hq
    have hlen:=r'.length;obtain ⟨o,ho,hc,n,hd⟩:=pl.isList;exact call_list_seq p (.inl rfl) ho hc hd (λh' c' kp e=>fin its r' hz h' c' kp e) (by simp only[bL]<;>lia)
  · obtain ⟨its,r',pl,hz⟩:=I.tuple hq
    have hlen:=r'.length;obtain ⟨o,ho,hc,n,hd⟩:=pl;exact call_list_seq p (.inr rfl) ho hc hd (λh' c' kp e=>fin its r' hz h' c' kp e) (by simp only[bL]<;>lia)
def DZ:cV X (.type "tuple") (λxs H Q=>∃ p ys,xs=[.ref p]/\((SqL X.K H p ys/\∀ l,H l=none->Q (.ref l) (upd H l (.tup ys)))\/(SqT X.K H p ys/\Q (.ref p) H))):=by
  intro LB s Z H xs us Q I r h;obtain ⟨p,ys,rfl,h⟩:=h;obtain ⟨u,rfl,rx⟩:=fh r;cases rx
  rcases h with ⟨hq,q⟩|⟨hq,q⟩
  · obtain ⟨its,r',pl,hz⟩:=I.list hq
    have hlen:=r'.length;refine call_tuple_list pl.isList (λh' kp=>?_) (by simp only[bL]<;>lia)
    have I1:Inv X LB Z H { s with heap:=h' }:=I.kept (t':=s.toks) kp;have I2:Inv X LB Z (upd H h'.objs.size (.tup ys)) { s with heap:=h'.push { cls:=.type "tuple",data:=.seq its.toArray } }:=
      I1.laid (t':=s.toks) (λb o e=>aR _ e) (ai _) (show bD X.prog X.w _ _ _ (.tup ys) from #[hz,its,r',IsTup.new _ _])
    exact #[.ref h'.objs.size,_,I2,rfl,q _ (I1.hok.fresh (ai _))]
  · obtain ⟨its,r',pl,hz⟩:=I.tuple hq
    exact call_tuple_same pl #[.ref p,H,I,rfl,q]
def tyV (K:Frag)(T:String)(x:V)(H:Hp):Prop:=match x with
  | .str _=>T = "str"
  | .int _=>T = "int"
  | .ref p=>(T = "list"/\∃ xs,SqL K H p xs)\/(T = "tuple"/\∃ o,K.lookup p=some o/\o.cls=.type "tuple"/\o.dict=none)\/
      (T = "dict"/\((∃ kvs,H p=some (.dK kvs))\/∃ kvs,H p=some (.dT kvs)))\/(T = "set"/\∃ S n,H p=some (.set S n))
  | _=>False
def yD {x:V}{v:Value}(I:Inv X LB Z H s)(r:RelV x v)(ty:tyV X.K T x H) :
    s.TypeIs v T/\∀ a,v=.ref a->∃ ob,s.heap.get? a=some ob/\ob.dict=none:=by
  cases x with
  | str z=>
    obtain ⟨t,rfl⟩:=r;cases (show T = "str" from ty)
    exact #[typeIs_str s z t,λ_ e=>nomatch e]
  | int i=>
    obtain ⟨t,rfl⟩:=r;cases (show T = "int" from ty)
    exact #[typeIs_int s i t,λ_ e=>nomatch e]
  | ref p=>
    cases r
    rcases ty with ⟨rfl,xs,hq⟩|⟨rfl,o,hk,hc,hd⟩|⟨rfl,hk⟩|⟨rfl,S,n,hk⟩
    · obtain ⟨its,_,pl,_⟩:=I.list hq
      refine #[pl.isList.typeIs,λa e=>?_];cases e
      obtain ⟨o,n,e,c,hd,_⟩:=pl;exact #[o,e,hd]
    · refine #[#[o,I.kIn p o hk,hc],λa e=>?_]
      cases e
      exact #[o,I.kIn _ o hk,hd]
    · have z:∃ o,s.heap.get? p=some o/\o.ExactDict:=by
        rcases hk with ⟨kvs,hk⟩|⟨kvs,hk⟩
        · obtain ⟨_,_,_,_,o,_,_,e,ex,_⟩:=I.hok p _ hk
          exact #[o,e,ex]
        · obtain ⟨_,_,_,_,o,_,_,e,ex,_⟩:=I.hok p _ hk
          exact #[o,e,ex]
      obtain ⟨o,e,ex⟩:=z;refine #[#[o,e,ex.1],λa e2=>?_];cases e2
      exact #[o,e,ex.2.1]
    · obtain ⟨o,_,_,_,e,ex,_⟩:=I.hok p _ hk
      refine #[#[o,e,ex.1],λa e2=>?_];cases e2
      exact #[o,e,ex.2.1]
  | _=>exact False.elim ty
inductive yE (K:Frag)(T:String)(r:V->List V->Hp->VK->Prop)(Q:VK)(x:V)(H1:Hp):Prop
  | c:tyV K T x H1->r x [] H1 Q->yE K T r Q x H1
def tBM0 (K:Frag)(T:String)(r:V->List V->Hp->VK->Prop)(to:TE):TE:=λZ H Q=>to Z H λx H1=>yE K T r Q x H1
inductive GtBM (K:Frag)(T:String)(r:V->List V->Hp->VK->Prop)(t:TA)(Z:St)(Q:VK)(x:V)(H1:Hp):Prop
  | c:tyV K T x H1->(t Z H1 λxs H2=>r x xs H2 Q)->GtBM K T r t Z Q x H1
def tBM (K:Frag)(T:String)(r:V->List V->Hp->VK->Prop)(to:TE)(t:TA):TE:=λZ H Q=>to Z H λx H1=>GtBM K T r t Z Q x H1
variable {o e:Expr}{es:List Expr}{to:TE}{t:TA}{name:Str}{apos cpos:Pos}{T id:String}{r:V->List V->Hp->VK->Prop}
def D0 (pa:PlainAttrs T)(slot:Slot T name id)(hty:typeOf (.builtin id)=pure (.type "method_descriptor"))(hm:MtR X id r)(ho:PE X o to)
    (hbase:attributeBase o name X.env (eval o X.env)=eval o X.env:=by rfl) (hline:(apos.endLine==cpos.line)=true:=by rfl):PE X (.Call (.Attribute o name apos) [] [] cpos) (tBM0 X.K T r to):=by
  intro LB s Z H Q I h;refine wpAny_Call_method0_late hbase hline (thn (ho LB s Z H _ I h) λv s1 zq0=>?_);obtain ⟨x,H1,I1,r1,ty,q1⟩:=zq0;obtain ⟨h1,h2⟩:=yD I1 r1 ty;exact #[T,id,pa,slot,hty,h1,h2,Calls.callWith_builtin rfl (PySem.evalArgs_none (hm LB s1 Z H1 x [] v [] Q I1 r1 .nil q1))]
def dY (pa:PlainAttrs T)(slot:Slot T name id)(hty:typeOf (.builtin id)=pure (.type "method_descriptor"))(hm:MtR X id r)(ho:PE X o to)(ha:PA X (e::es) t)
    (hbase:attributeBase o name X.env (eval o X.env)=eval o X.env:=by rfl)
    (hfew:((backTo cpos (starEach (e::es) X.env)).all (λx=>!x.1) && (backToKw cpos (keywordEach [] X.env)).all (λx=>x.1.isSome)
      && decide ((e::es).length+([]:List Keyword).length+(if ([]:List Keyword).isEmpty then 0 else 1)<30))=true:=by rfl)
    (hline:(apos.endLine==cpos.line)=true:=by rfl) (hs:starEach (e::es) X.env=(false,eval e X.env)::starEach es X.env:=by rfl) (hplain:(backTo cpos (starEach es X.env)).any (·.1)=false:=by rfl) :
    PE X (.Call (.Attribute o name apos) (e::es) [] cpos) (tBM X.K T r to t):=by
  intro LB s Z H Q I h;refine wpAny_Call_method_late hbase hfew hline rfl (thn (ho LB s Z H _ I h) λv s1 zq0=>?_);obtain ⟨x,H1,I1,r1,ty,q1⟩:=zq0;obtain ⟨h1,h2⟩:=yD I1 r1 ty;refine #[T,id,pa,slot,hty,h1,h2,?_];have hA:=ha cpos LB s1 Z H1 _ I1 q1;rw[hs]at hA ⊢;refine Calls.callWith_builtin (by show (false||(backTo cpos (starEach es X.env)).any (·.1))=false;rw[hplain]<;>rfl) (Calls.evalArgs_plain ?_)
  exact thn hA λus s2 zq0=>(by obtain ⟨vs,H2,I2,r2,q2⟩:=zq0;exact hm LB s2 Z H2 x vs v us Q I2 r1 r2 q2)
end
def MtM (X:Cx)(id:String)(r:V->List V->Hp->VK->Prop):Prop:=
  ∀(LB:List (Addr×Obj)) (s:Shared) (Z:St) (H:Hp) (x:V) (xs:List V) (v:Value) (us:List Value) (Q:VK),Inv X LB Z H s->RelV x v->Vals xs us->r x xs H Q->
    wpAny (model X.prog X.w) X.A (call (.builtin id) (v::us)) (EP X LB Z Q) X.xe s
def Vals.one:∀{x:V} {us:List Value},Vals [x] us->∃ u,us=[u]/\RelV x u
  | _,_,.cons r .nil=>#[_,rfl,r]
section
variable {X:Cx}{LB:List (Addr×Obj)}{Z:St}{H:Hp}{s:Shared}{l b:Addr}{xs ys zs:List V}
def Inv.lset {its its':List Value}{n:Nat}{f:Array Value->Array Value}{t':Nat}(I:Inv X LB Z H s)(hH:H l=some (.lst xs))
    (e:s.heap.get? l=some { cls:=.type "list",data:=.seq its.toArray n }) (hf:f its.toArray=its'.toArray) (hv:Vals ys its') (hz:ys.length<=sizeLine) :
    Inv X LB Z (upd H l (.lst ys)) { s with heap:=s.heap.update l (Obj.mapSeq f),toks:=t' }:=by
  have q:=PySem.IsL.update e f;rw[hf]at q;refine I.write (x:=l) (e:=l) (by rw[hH];exact trivial) (.inl rfl) (λb' u hb hu=>(iF s.heap (Obj.mapSeq f) (aS hb)).trans hu) #[_,q] ?_;exact #[hz,its',_,hv,q]
def Inv.lnew {its:List Value}{t':Nat}(I:Inv X LB Z H s)(hv:Vals ys its)(hz:ys.length<=sizeLine) :
    Inv X LB Z (upd H s.heap.objs.size (.lst ys)) { s with heap:=s.heap.push { cls:=.type "list",data:=.seq its.toArray },toks:=t' }:=
  I.laid (λ_ _ q=>aR _ q) (ai _) #[hz,its,0,hv,cQ _ rfl]
def Inv.fresh (I:Inv X LB Z H s):H s.heap.objs.size=none:=I.hok.fresh (ai _)
def Inv.lstM (I:Inv X LB Z H s)(hH:H l=some (.lst xs)):xs.length<=sizeLine/\∃(its:List Value) (n:Nat),Vals xs its/\xs.length=its.length/\s.heap.get? l=some { cls:=.type "list",data:=.seq its.toArray n }:=by
  obtain ⟨z,its,n,r,e⟩:=I.hok l _ hH;exact #[z,its,n,r,r.length,e]
def D1 {n:Nat}(h:n<=sizeLine):Builtin.List.listTooLong n=false:=by
  unfold Builtin.List.listTooLong;exact bj (by lia)
end
section
variable {X:Cx}
inductive yF (x:V)(vs:List V)(H:Hp)(Q:VK):Prop
  | c:∀ l xs y,x=.ref l->vs=[y]->H l=some (.lst xs)->xs.length<sizeLine->Q .non (upd H l (.lst (xs++[y])))->yF x vs H Q
def dH:MtM X "list.append" yF:=by
  intro LB s Z H x vs v us Q I rx rv h;obtain ⟨l,xs,y,rfl,rfl,hH,hz,q⟩:=h;cases rx
  obtain ⟨u,rfl,ru⟩:=rv.one;obtain ⟨z,its,n,r,hl,e⟩:=I.lstM hH;refine call_meets F.slot_list_append #[_,e,rfl] F.entry_list_append (F.args_list_append_2 _ _) (PySem.list_append l its.toArray n u (by rw[bL];lia)) #[e,?_];refine #[.non,_,I.lset (its':=its++[u]) hH e (by simp) (r.append (.cons ru .nil)) ?_,rfl,q];rw[bc,fz];lia
inductive yG (x:V)(vs:List V)(H:Hp)(Q:VK):Prop
  | c:∀ l b xs zs,x=.ref l->vs=[.ref b]->H l=some (.lst xs)->H b=some (.lst zs)->xs.length+zs.length<=sizeLine->Q .non (upd H l (.lst (xs++zs)))->yG x vs H Q
def D6:MtM X "list.extend" yG:=by
  intro LB s Z H x vs v us Q I rx rv h;obtain ⟨l,b,xs,zs,rfl,rfl,hH,hB,hz,q⟩:=h;cases rx
  obtain ⟨u,rfl,ru⟩:=rv.one;cases ru
  obtain ⟨z,its,n,r,hl,e⟩:=I.lstM hH;obtain ⟨z2,its2,n2,r2,hl2,e2⟩:=I.lstM hB;have hsz:its.toArray.size+its2.toArray.size<=sizeLine:=by rw[bL,bL];lia
  have hlong:¬ (!its.toArray.isEmpty&&Builtin.List.listTooLong (its.toArray.size+its2.toArray.size))=true:=by
    rw[D1 hsz,iG];exact cm
  refine call_meets F.slot_list_extend #[_,e,rfl] F.entry_list_extend (F.args_list_extend_2 _ _)
    (AutoSeq1.list_extend_list_list_0 l its.toArray n b its2.toArray n2 hlong (by rw[bL];lia) (by lia)) #[e,e2,?_]
  refine #[.non,_,I.lset (its':=its++its2) hH e (by simp) (r.append r2) ?_,rfl,q];rw[bc];lia
inductive rCat (x:V)(y:V)(H:Hp)(Q:VK):Prop
  | c:∀ l b xs zs,x=.ref l->y=.ref b->H l=some (.lst xs)->H b=some (.lst zs)->xs.length+zs.length<=sizeLine->(∀ p,H p=none->Q (.ref p) (upd H p (.lst (xs++zs))))->rCat x y H Q
def yH:OpR X (binaryOp .Add) rCat:=by
  intro LB s Z H x y v u Q I rx ry h;obtain ⟨l,b,xs,zs,rfl,rfl,hH,hB,hz,q⟩:=h;cases rx
  cases ry
  obtain ⟨z,its,n,r,hl,e⟩:=I.lstM hH;obtain ⟨z2,its2,n2,r2,hl2,e2⟩:=I.lstM hB;refine PySem.P.add_list e e2 ?_ (by rw[bL,bL];lia);have ea:its.toArray++its2.toArray=(its++its2).toArray:=by simp
  rw[ea];exact #[.ref _,_,I.lnew (t':=s.toks) (r.append r2) (by rw[bc];lia),rfl,q _ I.fresh]
end
section
variable {κ:Type}[DecidableEq κ]
def valV (kvs:List (κ×V))(k:κ):Option V:=(kvs.find? λkv=>decide (kv.1=k)).map (·.2)
def putK (kvs:List (κ×V))(k:κ)(v:V):List (κ×V):=
  if (kvs.any λkv=>decide (kv.1=k))=true then kvs.map (λkv=>if kv.1=k then (kv.1,v) else kv) else kvs++[(k,v)]
def dZ {p:κ×V}{r:List (κ×V)}{k:κ}(e:p.1=k):valV (p::r) k=some p.2:=by simp[valV,ji,e]
def c8 {p:κ×V}{r:List (κ×V)}{k:κ}(e:¬ p.1=k):valV (p::r) k=valV r k:=by simp[valV,ji,e]
def lG (k:κ):∀ kvs:List (κ×V),(kvs.any λkv=>decide (kv.1=k))=(valV kvs k).isSome
  | []=>rfl
  | p::r=>by
    rw[gx];by_cases e:p.1=k
    · simp only[dZ e,aX e,Bool.true_or,Option.isSome_some]
    · rw[c8 e,bj e,mX];exact lG k r
def yI (k j:κ)(y:V):∀ kvs:List (κ×V),valV (kvs.map λkv=>if kv.1=k then (kv.1,y) else kv) j=(valV kvs j).map λx=>if j=k then y else x
  | []=>rfl
  | p::r=>by
    have ih:=yI k j y r;rw[bI];by_cases h:p.1=k
    · rw[ae h]
      by_cases e:p.1=j
      · rw[dZ (p:=(p.1,y)) e,dZ e,jk,ae (e.symm.trans h)]
      · rw[c8 (p:=(p.1,y)) e,c8 e,ih]
    · rw[af h]
      by_cases e:p.1=j
      · rw[dZ (p:=p) e,dZ e,jk,af (λz=>h (e.trans z))]
      · rw[c8 (p:=p) e,c8 e,ih]
def yJ (k j:κ)(y:V):∀ kvs:List (κ×V),valV kvs k=none->valV (kvs++[(k,y)]) j=if j=k then some y else valV kvs j
  | [],_=>by
    by_cases e:k=j
    · rw[ae e.symm];exact dZ (p:=(k,y)) e
    · rw[af (λz=>e z.symm)];exact c8 (p:=(k,y)) e
  | p::r,hn=>by
    rw[List.cons_append];have hk:¬ p.1=k:=λz=>by rw[dZ z]at hn;cases hn
    rw[c8 hk]at hn;have ih:=yJ k j y r hn;by_cases e:p.1=j
    · rw[dZ e,dZ e,af (λz=>hk (e.trans z))]
    · rw[c8 e,c8 e,ih]
def D7 (kvs:List (κ×V))(k j:κ)(y:V):valV (putK kvs k y) j=if j=k then some y else valV kvs j:=by
  unfold putK;by_cases a:(kvs.any λkv=>decide (kv.1=k))=true
  · rw[ae a,yI]
    rw[lG]at a;by_cases e:j=k
    · obtain ⟨x,hx⟩:=sy.mp a
      rw[ae e,e,hx,jk,ae rfl]
    · rw[af e]
      cases valV kvs j with
      | none=>rfl
      | some x=>rw[jk,af e]
  · rw[af a]
    refine yJ k j y kvs ?_;rw[lG]at a;cases q:valV kvs k with
    | none=>rfl
    | some x=>rw[q]at a;exact (a rfl).elim
def oe (kvs:List (κ×V))(k:κ)(v:V):(putK kvs k v).length<=kvs.length+1:=by
  unfold putK;split
  · rw[aq];lia
  · rw[bc,cE,kK];lia
def iS {kvs:List (κ×V)}{k:κ}(v:V)(h:valV kvs k=none):putK kvs k v=kvs++[(k,v)]:=by
  unfold putK;rw[lG,h];exact af (by decide)
def RelO.isSome_eq {o:Option V}{u:Option Value}(r:RelO o u):o.isSome=u.isSome:=by
  cases o with
  | none=>cases u with
    | none=>rfl
    | some _=>exact (show False from r).elim
  | some _=>cases u with
    | none=>exact (show False from r).elim
    | some _=>rfl
def RelO.getD {o:Option V}{u:Option Value}{d:V}{d':Value}(r:RelO o u)(rd:RelV d d'):RelV (o.getD d) (u.getD d'):=by
  cases o with
  | none=>cases u with
    | none=>exact rd
    | some _=>exact (show False from r).elim
  | some _=>cases u with
    | none=>exact (show False from r).elim
    | some _=>exact r
def KV.val {kvs:List (κ×V)}{vs:List (κ×Value)}(r:KV kvs vs)(k:κ):RelO (valV kvs k) (valueAt vs k):=by
  unfold KV at r
  induction r with
  | nil=>exact True.intro
  | @cons p q ps qs h t ih=>
    obtain ⟨h1,h2⟩:=h;by_cases e:p.1=k
    · have e':q.1=k:=h1.symm.trans e
      have b:valueAt (q::qs) k=some q.2:=by simp[valueAt,ji,e']
      rw[dZ e,b];exact h2
    · have e':¬ q.1=k:=λz=>e (h1.trans z)
      have b:valueAt (q::qs) k=valueAt qs k:=by simp[valueAt,ji,e']
      rw[c8 e,b];exact ih
def KV.any {kvs:List (κ×V)}{vs:List (κ×Value)}(r:KV kvs vs)(k:κ):(kvs.any λkv=>decide (kv.1=k))=vs.any λkv=>decide (kv.1=k):=by
  unfold KV at r
  induction r with
  | nil=>rfl
  | cons h t ih=>rw[gx,gx,ih,h.1]
def KV.repl {kvs:List (κ×V)}{vs:List (κ×Value)}(r:KV kvs vs)(k:κ){y:V}{u:Value}(ry:RelV y u) :
    KV (kvs.map λkv=>if kv.1=k then (kv.1,y) else kv) (vs.map λkv=>if kv.1=k then (kv.1,u) else kv):=by
  unfold KV at r ⊢
  induction r with
  | nil=>exact .nil
  | @cons p q ps qs h t ih=>
    rw[bI,bI];refine .cons ?_ ih;obtain ⟨h1,h2⟩:=h;by_cases e:p.1=k
    · rw[ae e,ae (h1.symm.trans e)];exact #[h1,ry]
    · rw[af e,af (λz=>e (h1.trans z))];exact #[h1,h2]
def KV.put {kvs:List (κ×V)}{vs:List (κ×Value)}(r:KV kvs vs)(k:κ){y:V}{u:Value}(ry:RelV y u):KV (putK kvs k y) (stored vs k u):=by
  unfold putK stored;rw[r.any k];by_cases e:(vs.any λkv=>decide (kv.1=k))=true
  · rw[ae e,ae e];exact r.repl k ry
  · rw[af e,af e];exact Paired.snoc r #[rfl,ry]
def KV.length {kvs:List (κ×V)}{vs:List (κ×Value)}(r:KV kvs vs):kvs.length=vs.length:=Paired.length r
end
def ie {k:Key}{u:Value}(r:RelV (kV k) u):(bB P w).is k u=true:=by
  cases k with
  | inl i=>obtain ⟨t,e⟩:=(show ∃ t,u=Value.int i t from r);subst e;exact sZ P w i t
  | inr x=>obtain ⟨t,e⟩:=(show ∃ t,u=Value.str x t from r);subst e;exact C7 P w x t
def yK :∀{ks:List Key} {us:List Value},Vals (ks.map kV) us->ItemsAre (bB P w) ks us
  | [],_,r=>by rw[jl]at r;cases r;exact .nil
  | k::ks,_,r=>by
    rw[bI]at r;cases r with
    | cons h t=>exact .cons (ie h) (yK t)
abbrev KT (H:Hp):List (List Key×V)->List (List Key×Addr×Value)->Prop:=Paired λp q=>p.1=q.1/\H q.2.1=some (.tup (p.1.map kV))/\RelV p.2 q.2.2
def KT.val {kvs:List (List Key×V)}{xs:List (List Key×Addr×Value)}(r:KT H kvs xs)(k:List Key):RelO (valV kvs k) ((atKey xs k).map (·.2)):=by
  induction r with
  | nil=>exact True.intro
  | @cons p q ps qs h t ih=>
    obtain ⟨h1,_,h2⟩:=h;by_cases e:p.1=k
    · have e':q.1=k:=h1.symm.trans e
      have b:atKey (q::qs) k=some q.2:=by simp[atKey,ji,e']
      rw[dZ e,b];exact h2
    · have e':¬ q.1=k:=λz=>e (h1.trans z)
      have b:atKey (q::qs) k=atKey qs k:=by simp[atKey,ji,e']
      rw[c8 e,b];exact ih
def KT.repl {kvs:List (List Key×V)}{xs:List (List Key×Addr×Value)}(r:KT H kvs xs)(k:List Key){y:V}{u:Value}(ry:RelV y u) :
    KT H (kvs.map λkv=>if kv.1=k then (kv.1,y) else kv) (xs.map (putAt k u)):=by
  induction r with
  | nil=>exact .nil
  | @cons p q ps qs h t ih=>
    rw[bI,bI];refine .cons ?_ ih;obtain ⟨h1,h2,h3⟩:=h;unfold putAt;by_cases e:p.1=k
    · rw[ae e,ae (h1.symm.trans e)];exact #[h1,h2,ry]
    · rw[af e,af (λz=>e (h1.trans z))];exact #[h1,h2,h3]
def KT.put {kvs:List (List Key×V)}{xs:List (List Key×Addr×Value)}(r:KT H kvs xs)(k:List Key){b:Addr}{y:V}{u:Value}(hb:H b=some (.tup (k.map kV)))(ry:RelV y u) :
    KT H (putK kvs k y) (storedH xs k b u):=by
  have e:(kvs.any λkv=>decide (kv.1=k))=(atKey xs k).isSome:=by
    rw[lG,(r.val k).isSome_eq,Option.isSome_map]
  unfold putK storedH;rw[e];by_cases q:(atKey xs k).isSome=true
  · rw[ae q,ae q];exact r.repl k ry
  · rw[af q,af q];exact Paired.snoc r #[rfl,hb,ry]
def KT.keeps {H':Hp}{kvs:List (List Key×V)}{xs:List (List Key×Addr×Value)}(r:KT H kvs xs)(ht:∀ b ys,H b=some (.tup ys)->H' b=some (.tup ys)):KT H' kvs xs:=
  Paired.mapP r λ_ _ z=>#[z.1,ht _ _ z.2.1,z.2.2]
section
variable {P:Program}{w:World}{H:Hp}{h:Heap}{a:Addr}
def yL (ok:HOk P w H h)(e:Rd H a u):bD P w H h a u:=e.ok ok
def iT {kvs:List (Key×V)}(ok:HOk P w H h)(e:Rd H a (.dK kvs)):kvs.length<=sizeLine/\(a==sysModules)=false/\∃ vs,KV kvs vs/\h.DictOf (bB P w) a vs:=
  show bD P w H h a (.dK kvs) from yL ok e
def tF {kvs:List (Key×V)}(ok:HOk P w H h)(e:H a=some (.dK kvs)):kvs.length<=sizeLine/\(a==sysModules)=false/\∃ vs,KV kvs vs/\h.DictOf (bB P w) a vs:=iT ok (.inl e)
def jJ {ks:List Key}(ok:HOk P w H h)(e:H a=some (.tup (ks.map kV))):(tupleKind (bB P w)).is h ks a:=by
  obtain ⟨_,its,r,o,h1,h2,n,h3⟩:=(show bD P w H h a (.tup (ks.map kV)) from ok a _ e);exact #[o,its.toArray,n,h1,h2,h3,by simpa using yK r]
def iU {kvs:List (List Key×V)}(ok:HOk P w H h)(e:Rd H a (.dT kvs)):kvs.length<=sizeLine/\(a==sysModules)=false/\
    ∃ xs,KT H kvs xs/\h.DictOfH (tupleKind (bB P w)) a xs:=by
  obtain ⟨z,y,xs,r,o,es,ep,h1,h2,h3,h4,h5⟩:=(show bD P w H h a (.dT kvs) from yL ok e);refine #[z,y,xs,r,o,es,ep,h1,h2,h3,h4,λx hx=>?_,h5];have all:∀{l:List (List Key×V)} {m:List (List Key×Addr×Value)},KT H l m->∀ x∈m,(tupleKind (bB P w)).is h x.1 x.2.1:=by
    intro l m q
    induction q with
    | nil=>intro x hx;exact nomatch hx
    | @cons p q ps qs hq t ih=>
      intro x hx;rcases aW.mp hx with e|hx
      · subst e
        exact jJ ok (by rw[<-hq.1];exact hq.2.1)
      · exact ih x hx
  exact all r x hx
def D8 {kvs:List (List Key×V)}(ok:HOk P w H h)(e:H a=some (.dT kvs)):kvs.length<=sizeLine/\(a==sysModules)=false/\
    ∃ xs,KT H kvs xs/\h.DictOfH (tupleKind (bB P w)) a xs:=iU ok (.inl e)
end
def DGet (H:Hp)(a:Addr)(y:V)(r:Option V):Prop:=
  (∃ kvs k,Rd H a (.dK kvs)/\y=kV k/\r=valV kvs k)\/∃ kvs k b,Rd H a (.dT kvs)/\y=.ref b/\H b=some (.tup (k.map kV))/\r=valV kvs k
def DPut (H:Hp)(a:Addr)(y v:V)(H':Hp):Prop:=
  (∃ kvs k,H a=some (.dK kvs)/\y=kV k/\kvs.length<sizeLine/\H'=upd H a (.dK (putK kvs k v)))\/
  ∃ kvs k b,H a=some (.dT kvs)/\y=.ref b/\H b=some (.tup (k.map kV))/\kvs.length<sizeLine/\H'=upd H a (.dT (putK kvs k v))
def DGet.k {H:Hp}{a:Addr}{kvs:List (Key×V)}{k:Key}(e:H a=some (.dK kvs)):DGet H a (kV k) (valV kvs k):=.inl #[kvs,k,.inl e,rfl,rfl]
def DGet.t {H:Hp}{a b:Addr}{kvs:List (List Key×V)}{k:List Key}(e:H a=some (.dT kvs))(eb:H b=some (.tup (k.map kV))):DGet H a (.ref b) (valV kvs k):=.inr #[kvs,k,b,.inl e,rfl,eb,rfl]
def DPut.k {H:Hp}{a:Addr}{kvs:List (Key×V)}{k:Key}(e:H a=some (.dK kvs))(hl:kvs.length<sizeLine):DPut H a (kV k) v (upd H a (.dK (putK kvs k v))):=.inl #[kvs,k,e,rfl,hl,rfl]
def DPut.t {H:Hp}{a b:Addr}{kvs:List (List Key×V)}{k:List Key}(e:H a=some (.dT kvs))(eb:H b=some (.tup (k.map kV)))(hl:kvs.length<sizeLine) :
    DPut H a (.ref b) v (upd H a (.dT (putK kvs k v))):=.inr #[kvs,k,b,e,rfl,eb,hl,rfl]
section
variable {X:Cx}{LB:List (Addr×Obj)}{Z:St}{H:Hp}{s:Shared}{a:Addr}{y v:V}{u r:Value}{o:Option V}{A:Around}{E:Value->Shared->Prop}
def Inv.big (I:Inv X LB Z H s):sysModules<s.heap.objs.size:=by
  have h:mainGlobals<s.heap.objs.size:=(I.mod.glob.keeps I.bk).lt;exact jm (by decide) h
def D9 {Q:Value->Shared->Prop}(hu:A.units+1<cLine)(I:Inv X LB Z H s)(g:DGet H a y (some v))(ry:RelV y u)(h:∀ w' s',Inv X LB Z H s'->RelV v w'->Q w' s') :
    wpAny (model X.prog X.w) A (getItem (.ref a) u) Q E s:=by
  rcases g with ⟨kvs,k,e,ey,l⟩|⟨kvs,k,b,e,ey,eb,l⟩
  · subst ey
    obtain ⟨z,hd,vs,rel,dd⟩:=iT I.hok e;obtain ⟨w',hw,rw'⟩:=RelO.some_of (v:=v) (o:=valueAt vs k) (by rw[l];exact rel.val k);exact wpAny_getItem_of (ie ry) dd.mapOf hw (h w' _ (I.tok _) rw')
  · subst ey
    cases (show u=Value.ref b from ry)
    obtain ⟨z,hd,xs,rel,dd⟩:=iU I.hok e;obtain ⟨w',hw,rw'⟩:=RelO.some_of (v:=v) (o:=(atKey xs k).map (·.2)) (by rw[l];exact rel.val k);obtain ⟨p,hp,hp2⟩:=eZ.mp hw;refine wpAny_getItem_heap (tupleKind_room_in1 hu) (jJ I.hok eb) dd hp ?_;rw[hp2];exact h w' _ (I.tok _) rw'
def d_in {Q:Value->Shared->Prop}(hu:A.units+1<cLine)(I:Inv X LB Z H s)(g:DGet H a y o)(ry:RelV y u)(h:∀ s',Inv X LB Z H s'->Q (.bool o.isSome) s') :
    wpAny (model X.prog X.w) A (compareOp .In u (.ref a)) Q E s:=by
  rcases g with ⟨kvs,k,e,ey,l⟩|⟨kvs,k,b,e,ey,eb,l⟩
  · subst ey
    obtain ⟨z,hd,vs,rel,dd⟩:=iT I.hok e;refine wpAny_in_of (ie ry) hd dd.mapOf ?_;rw[<-(rel.val k).isSome_eq,<-l];exact h _ (I.tok _)
  · subst ey
    cases (show u=Value.ref b from ry)
    obtain ⟨z,hd,xs,rel,dd⟩:=iU I.hok e;refine wpAny_in_heap (tupleKind_room_in1 hu) (jJ I.hok eb) hd dd ?_;have q:=(rel.val k).isSome_eq;rw[Option.isSome_map]at q;rw[<-q,<-l];exact h _ (I.tok _)
def Ea {Q:Value->Shared->Prop}(hu:A.units+1<cLine)(I:Inv X LB Z H s)(g:DGet H a y o)(ry:RelV y u)(h:∀ s',Inv X LB Z H s'->Q (.bool (!o.isSome)) s') :
    wpAny (model X.prog X.w) A (compareOp .NotIn u (.ref a)) Q E s:=by
  rcases g with ⟨kvs,k,e,ey,l⟩|⟨kvs,k,b,e,ey,eb,l⟩
  · subst ey
    obtain ⟨z,hd,vs,rel,dd⟩:=iT I.hok e;refine wpAny_notIn_of (ie ry) hd dd.mapOf ?_;rw[<-(rel.val k).isSome_eq,<-l];exact h _ (I.tok _)
  · subst ey
    cases (show u=Value.ref b from ry)
    obtain ⟨z,hd,xs,rel,dd⟩:=iU I.hok e;refine wpAny_notIn_heap (tupleKind_room_in1 hu) (jJ I.hok eb) hd dd ?_;have q:=(rel.val k).isSome_eq;rw[Option.isSome_map]at q;rw[<-q,<-l];exact h _ (I.tok _)
def tG {h':Heap}{t':Nat}(I:Inv X LB Z H s)(mu:Mut (H a))(hs:Heap.SameBut a s.heap h')(he:∃ q,h'.get? a=some q)(new:bD X.prog X.w (upd H a ob) h' a ob) :
    Inv X LB Z (upd H a ob) { s with heap:=h',toks:=t' }:=
  I.write (x:=a) (e:=a) mu (.inl rfl) (λb q hb z=>(hs.2 b hb).trans z) he new
def yM {h':Heap}{kvs:List (Key×V)}{vs:List (Key×Value)}(z:kvs.length<=sizeLine)(hd:(a==sysModules)=false)(rel:KV kvs vs)(dd:h'.DictOf (bB P w) a vs) :
    bD P w H' h' a (.dK kvs):=#[z,hd,vs,rel,dd]
def Eb {Q:Unit->Shared->Prop}(hu:A.units+1<cLine)(I:Inv X LB Z H s)(g:DPut H a y v H')(ry:RelV y u)(rv:RelV v r)(h:∀ s',Inv X LB Z H' s'->Q () s') :
    wpAny (model X.prog X.w) A (setItem (.ref a) u r) Q E s:=by
  rcases g with ⟨kvs,k,e,ey,l,eH⟩|⟨kvs,k,b,e,ey,eb,l,eH⟩
  · subst ey eH
    obtain ⟨z,hd,vs,rel,dd⟩:=tF I.hok e;have hz:vs.length<=sizeLine:=by rw[<-rel.length];exact z
    have hl:(putK kvs k v).length<=sizeLine:=by have:=oe kvs k v;lia
    refine wpAny_setItem_pairs (hsz:=hz) (ie ry) dd λh' dd' hs=>h _ ?_;have he:∃ q,h'.get? a=some q:=let ⟨q,_,_,hq,_⟩:=dd';#[q,hq];exact tG I (by rw[e];exact True.intro) hs he (yM hl hd (rel.put k rv) dd')
  · subst ey eH
    cases (show u=Value.ref b from ry)
    obtain ⟨z,hd,xs,rel,dd⟩:=D8 I.hok e;have hz:xs.length<=sizeLine:=by rw[<-Paired.length rel];exact z
    have hl:(putK kvs k v).length<=sizeLine:=by have:=oe kvs k v;lia
    refine wpAny_setItem_heap (hsz:=hz) (tupleKind_room_in1 hu) (jJ I.hok eb) dd λh' dd' hs=>h _ ?_;obtain ⟨q,es,ep,hq,h2,h3,h4,_,h5⟩:=dd';refine tG I (by rw[e];exact True.intro) hs #[q,hq] #[hl,hd,_,(rel.put k eb rv).keeps λc ys ec=>?_,q,es,ep,hq,h2,h3,h4,h5];rw[aj (xB ec e nofun)];exact ec
end
def NoSl (i:Expr):Prop:=∀ ov iv,subscripted i false ov iv=operate [ov,iv] (getItem ov iv)
def Ec {prog:Program}{w:World}{A:Around}{E:Value->Shared->Prop}{s:Shared}{env:Env}{value:Expr}{pos:Pos}{T id:String}{Q:Value->Shared->Prop}
    (hl:typeLookup (.type T) "__getitem__" = pure (some (.builtin id))) (hs:NoSl slice)
    (h:wpAny (model prog w) A (eval value env) (λo s₁=>wpAny (model prog w) A (eval slice env) (λi s₂=>s₂.TypeIs o T/\wpAny (model prog w) A (getItem o i) Q E s₂) E s₁) E s) :
    wpAny (model prog w) A (eval (.Subscript value slice pos) env) Q E s:=by
  refine Subscript_ (dP h (λo s₁ h₁=>dP h₁ (λi s₂ h₂=>?_) λ_ _ x=>x) λ_ _ x=>x);obtain ⟨hT,h₂⟩:=h₂;unfold subscriptTail;refine ao ?_;rw[getitemInPython_of_ne hT.not_modules];refine ao (wpAny_specialOf hT hl ?_);have fin:wpAny (model prog w) A (subscripted slice false o i) (λr s₃=>wpAny (model prog w) A (letTemporaryGo value o r >>= λ_=>pure r) Q E s₃) E s₂:=by
    rw[hs o i];exact wpAny_operating (dP h₂ (λr s₃ h₃=>ao (wpAny_letTemporaryGo (aA h₃))) λ_ _ x=>x)
  first
    | exact aA (ao fin)
    | exact ao (aA (ao fin))
    | exact ao fin
def Ed {a:Addr}(I:Inv X LB Z H s)(g:DGet H a y o):s.TypeIs (.ref a) "dict":=by
  rcases g with ⟨kvs,k,e,_,_⟩|⟨kvs,k,b,e,_,_,_⟩
  · obtain ⟨_,_,vs,_,dd⟩:=iT I.hok e
    exact dd.typeIs
  · obtain ⟨_,_,xs,_,dd⟩:=iU I.hok e
    exact dd.typeIs
inductive yN (Q:VK)(x:V)(y:V)(H2:Hp):Prop
  | c:∀ a v,x=.ref a->DGet H2 a y (some v)->Q v H2->yN Q x y H2
def Ee (td ty:TE):TE:=λZ H Q=>td Z H λx H1=>ty Z H1 λy H2=>yN Q x y H2
inductive yO (D:Ends)(Z:St)(v:V)(x:V)(y:V)(H3:Hp):Prop
  | c:∀ a H4,x=.ref a->DPut H3 a y v H4->D.nx Z H4->yO D Z v x y H3
def Ef (td ty tv:TE):TS:=λD Z H=>tv Z H λv H1=>td Z H1 λx H2=>ty Z H2 λy H3=>yO D Z v x y H3
section
variable {X:Cx}{o i e value:Expr}{pos pos' tpos:Pos}{td ty tv:TE}
def gb (hu:X.A.units+1<cLine)(ho:PE X o td)(hi:PE X i ty)(hs:NoSl i):PE X (.Subscript o i pos) (Ee td ty):=by
  intro LB s Z H Q I h;refine Ec PySem.F.slot_dict_getitem.lookup hs (thn (ho LB s Z H _ I h) λu s1 zq0=>?_);obtain ⟨x,H1,I1,rx,q1⟩:=zq0;refine thn (hi LB s1 Z H1 _ I1 q1) λiv s2 cM=>?_;obtain ⟨y,H2,I2,ry,a,v,ex,g,q2⟩:=cM;subst ex;obtain rfl:u=Value.ref a:=rx;exact #[Ed I2 g,D9 hu I2 g ry λw' s3 I3 rw'=>#[v,H2,I3,rw',q2]]
def iV (hu:X.A.units+1<cLine)(ho:PE X o td)(hi:PE X i ty)(hv:PE X value tv)(hs:swapsWith value (some (.Subscript o i pos')) pos.line X.env=pure false) :
    PS X (.Assign [.Subscript o i pos'] value pos) (Ef td ty tv):=by
  intro LB s Z H D I h;refine wpAny_Assign_Subscript (thn (hv LB s Z H _ I h) λr s1 zq0=>?_) hs;obtain ⟨v,H1,I1,rv,q1⟩:=zq0;refine thn (ho LB s1 Z H1 _ I1 q1) λu s2 cM=>?_;obtain ⟨x,H2,I2,rx,q2⟩:=cM;refine thn (hi LB s2 Z H2 _ I2 q2) λiv s3 zq2=>?_;obtain ⟨y,H3,I3,ry,a,H4,ex,g,q3⟩:=zq2;subst ex;obtain rfl:u=Value.ref a:=rx;exact Eb hu I3 g ry rv λs4 I4=>#[Z,H4,I4,q3]
end
def yP (h:Heap)(hb:sysModules<h.objs.size):bD P w H (h.push { cls:=.type "dict",data:=.dict (List.toArray []) }) h.objs.size (.dK []):=
  #[bK _,beq_eq_false_iff_ne.mpr (aS (bo hb)),[],.nil,Heap.DictOf.new h]
def Eg (h:Heap)(hb:sysModules<h.objs.size):bD P w H (h.push { cls:=.type "dict",data:=.dict (List.toArray []) }) h.objs.size (.dT []):=
  #[bK _,beq_eq_false_iff_ne.mpr (aS (bo hb)),[],.nil,_,(List.toArray []),0,cQ _ rfl,#[rfl,rfl,rfl],rfl,rfl,gy]
def Eh:TE:=λ_ H Q=>∀ p,H p=none->Q (.ref p) (upd H p (.dK []))
def Ei:TE:=λ_ H Q=>∀ p,H p=none->Q (.ref p) (upd H p (.dT []))
section
variable {X:Cx}{pos:Pos}
def yQ:PE X (.Dict [] [] pos) Eh:=λLB s Z H Q I h=>
  wpAny_Dict_empty #[.ref s.heap.objs.size,_,I.laid (a:=s.heap.objs.size) (o:=.dK []) (t':=s.toks) (λ_ _ q=>aR _ q) (ai _) (yP s.heap I.big),rfl,h _ (I.hok.fresh (ai _))]
def Ej:PE X (.Dict [] [] pos) Ei:=λLB s Z H Q I h=>
  wpAny_Dict_empty #[.ref s.heap.objs.size,_,I.laid (a:=s.heap.objs.size) (o:=.dT []) (t':=s.toks) (λ_ _ q=>aR _ q) (ai _) (Eg s.heap I.big),rfl,h _ (I.hok.fresh (ai _))]
end
def tH:List (TE×TE)->St->Hp->(List (V×V)->Hp->Prop)->Prop
  | [],_,H,Q=>Q [] H
  | (tk,tv)::r,Z,H,Q=>tk Z H λx H1=>tv Z H1 λy H2=>tH r Z H2 λps H3=>Q ((x,y)::ps) H3
abbrev VV:List (V×V)->List (Value×Value)->Prop:=Paired λp q=>RelV p.1 q.1/\RelV p.2 q.2
def PPs (X:Cx)(pos:Pos)(keys:List (Option Expr))(values:List Expr)(trs:List (TE×TE)):Prop:=
  ∀(LB:List (Addr×Obj)) (s:Shared) (Z:St) (H:Hp) (Q:List (V×V)->Hp->Prop),Inv X LB Z H s->tH trs Z H Q->
    wpAny (model X.prog X.w) X.A (evalPairs (pairTrees keys values X.env pos)) (λvs s'=>∃ ps H',Inv X LB Z H' s'/\VV ps vs/\Q ps H') X.xe s
def yR :PPs X pos [] [] []:=λLB s Z H Q I h=>pairTrees_nil_walk #[[],H,I,.nil,h]
def og {k:Expr}(hk:PE X k tk)(hv:PE X v tv)(hr:PPs X pos ks vs trs) :
    PPs X pos (some k::ks) (v::vs) ((tk,tv)::trs):=λLB s Z H Q I h=>
  pairTrees_cons_walk (thn (hk LB s Z H _ I h) λu s1 ⟨x,H1,I1,rx,q1⟩=>thn (hv LB s1 Z H1 _ I1 q1) λw2 s2 ⟨y,H2,I2,ry,q2⟩=>
    thn (hr LB s2 Z H2 _ I2 q2) λws s3 ⟨ps,H3,I3,rel,q3⟩=>#[(x,y)::ps,H3,I3,.cons #[rx,ry] rel,q3])
def fT (kvs more:List (Key×V)):List (Key×V):=more.foldl (λacc kv=>putK acc kv.1 kv.2) kvs
def KV.merge:∀{more:List (Key×V)} {rs:List (Key×Value)} {kvs:List (Key×V)} {vs:List (Key×Value)},KV more rs->KV kvs vs->KV (fT kvs more) (merged vs rs):=by
  intro more rs kvs vs r;unfold KV at r
  induction r generalizing kvs vs with
  | nil=>intro q;exact q
  | @cons p q ps qs h t ih=>
    intro r0;have e:KV (putK kvs p.1 p.2) (stored vs q.1 q.2):=by
      have:=r0.put p.1 h.2;rw[<-h.1];exact this
    exact ih e
def yS:∀(more kvs:List (Key×V)),(fT kvs more).length<=kvs.length+more.length
  | [],kvs=>by show kvs.length<=kvs.length+0;lia
  | p::r,kvs=>by
    have h1:=yS r (putK kvs p.1 p.2);have h2:=oe kvs p.1 p.2;show (fT (putK kvs p.1 p.2) r).length<=_;rw[cE];lia
def yT :∀{kvs:List (Key×V)} {ws:List (Value×Value)},VV (kvs.map λkv=>(kV kv.1,kv.2)) ws->∃ rs,Carries (bB P w) ws rs/\KV kvs rs
  | [],_,r=>by rw[jl]at r;cases r;exact #[[],True.intro,.nil]
  | p::kvs,_,r=>by
    rw[bI]at r;cases r with
    | @cons a b as bs h t=>
      obtain ⟨rs,c,q⟩:=yT (P:=P) (w:=w) t;obtain ⟨b1,b2⟩:=b;exact #[(p.1,b2)::rs,#[ie h.1,rfl,c],.cons #[rfl,h.2] q]
def Ek (trs:List (TE×TE)):TE:=λZ H Q=>∀ p,H p=none->tH trs Z (upd H p (.dK [])) λps H2=>H2 p=some (.dK [])/\∃ kvs:List (Key×V),ps=kvs.map (λkv=>(kV kv.1,kv.2))/\kvs.length<=15/\Q (.ref p) (upd H2 p (.dK (fT [] kvs)))
def yU (h:PPs X pos keys values trs)(hall:keys.all (·.isSome)=true)(hl:keys.length=values.length)(h0:keys≠[])
    (h15:keys.length<=15):PE X (.Dict keys values pos) (Ek trs):=by
  intro LB s Z H Q I q;have hn:=I.hok.fresh (ai s.heap.objs.size);have I1:=I.laid (a:=s.heap.objs.size) (o:=.dK []) (h':=s.heap.push { cls:=.type "dict",data:=.dict (List.toArray []) }) (t':=s.toks) (λ_ _ q=>aR _ q) (ai _) (yP s.heap I.big);refine wpAny_Dict_walk (knd:=bB X.prog X.w) hall hl h0 h15 (thn (h LB _ Z _ _ I1 (q _ hn)) λws s2 zq0=>?_);obtain ⟨ps,H2,I2,rel,e,kvs,ep,lk,q2⟩:=zq0;subst ep;obtain ⟨rs,c,rk⟩:=yT (P:=X.prog) (w:=X.w) rel;obtain ⟨z,hd,vs0,r0,dd⟩:=tF I2.hok e;cases r0
  refine #[rs,c,dd,λh' dd' hs=>#[.ref s.heap.objs.size,_,?_,rfl,q2]];have hz:(fT [] kvs).length<=sizeLine:=by
    have h1:=yS kvs [];rw[kK]at h1;rw[sizeLine_eq];lia
  have he:∃ q,h'.get? s.heap.objs.size=some q:=let ⟨q,_,_,hq,_⟩:=dd';#[q,hq];exact tG I2 (by rw[e];exact True.intro) hs he (yM hz hd (rk.merge .nil) dd')
structure M2 (X:Cx)(o:Expr)(m:Str)(apos:Pos)(e f:Expr)(cpos:Pos):Prop where
  base:attributeBase o m X.env (eval o X.env)=eval o X.env
  few:((backTo cpos (starEach [e,f] X.env)).all (λx=>!x.1) && (backToKw cpos (keywordEach [] X.env)).all (λx=>x.1.isSome)
    && decide (([e,f]:List Expr).length+([]:List Keyword).length+(if ([]:List Keyword).isEmpty then 0 else 1)<30))=true
  line:(apos.endLine==cpos.line)=true
  trees:backTo cpos (starEach [e,f] X.env)=[(false,eval e X.env),(false,eval f X.env)]
def IsD (H:Hp)(a:Addr):Prop:=(∃ kvs,Rd H a (.dK kvs))\/∃ kvs,Rd H a (.dT kvs)
def El {a:Addr}(I:Inv X LB Z H s)(d:IsD H a) :
    s.TypeIs (.ref a) "dict"/\(∀ b,Value.ref a=.ref b->∃ ob,s.heap.get? b=some ob/\ob.dict=none)/\(a==sysModules)=false:=by
  rcases d with ⟨kvs,e⟩|⟨kvs,e⟩
  · obtain ⟨_,hd,vs,_,dd⟩:=iT I.hok e
    refine #[dd.typeIs,λb q=>?_,hd];cases q
    obtain ⟨ob,_,_,h1,h2,_⟩:=dd;exact #[ob,h1,h2.2.1]
  · obtain ⟨_,hd,xs,_,dd⟩:=iU I.hok e
    refine #[dd.typeIs,λb q=>?_,hd];cases q
    obtain ⟨ob,_,_,h1,h2,_⟩:=dd;exact #[ob,h1,h2.2.1]
section
variable {X:Cx}{LB:List (Addr×Obj)}{Z:St}{H:Hp}{s:Shared}{a:Addr}{y d:V}{u r:Value}{o:Option V}{A:Around}{E:Value->Shared->Prop}
def Em {Q:Value->Shared->Prop}(hu:A.units+1<cLine)(I:Inv X LB Z H s)(g:DGet H a y o)(ry:RelV y u)(rd:RelV d r)(h:∀ w' s',Inv X LB Z H s'->RelV (o.getD d) w'->Q w' s') :
    wpAny (model X.prog X.w) A (call (.builtin "dict.get") [.ref a,u,r]) Q E s:=by
  rcases g with ⟨kvs,k,e,ey,l⟩|⟨kvs,k,b,e,ey,eb,l⟩
  · subst ey
    obtain ⟨z,hd,vs,rel,dd⟩:=iT I.hok e;refine call_meetsIn PySem.F.slot_dict_get dd.typeIs PySem.F.entry_dict_get (PySem.F.args_dict_get_3 _ _ _) (meets_dict_get_default (bB X.prog X.w) a (ie ry) hd r) #[_,dd.mapOf,h _ _ (I.tok _) ?_];rw[l];exact (rel.val k).getD rd
  · subst ey
    cases (show u=Value.ref b from ry)
    obtain ⟨z,hd,xs,rel,dd⟩:=iU I.hok e;refine call_meetsIn PySem.F.slot_dict_get dd.typeIs PySem.F.entry_dict_get (PySem.F.args_dict_get_3 _ _ _) (meetsH_dict_get_default (tupleKind (bB X.prog X.w)) a b hd r) #[tupleKind_room_in1 hu,k,xs,jJ I.hok eb,dd,h _ _ (I.tok _) ?_];rw[l];exact (rel.val k).getD rd
end
inductive yV (ty:TE)(tx:TE)(Z:St)(Q:VK)(x:V)(H1:Hp):Prop
  | c:∀ a,x=.ref a->IsD H1 a->(ty Z H1 λy H2=>tx Z H2 λz H3=>∃ o,DGet H3 a y o/\Q (o.getD z) H3)->yV ty tx Z Q x H1
def Eo (td ty tx:TE):TE:=λZ H Q=>td Z H λx H1=>yV ty tx Z Q x H1
section
variable {X:Cx}{o e f:Expr}{apos cpos:Pos}{td ty tx:TE}
def Ep (hu:X.A.units+1<cLine)(ho:PE X o td)(he:PE X e ty)(hf:PE X f tx)(m:M2 X o "get" apos e f cpos):PE X (.Call (.Attribute o "get" apos) [e,f] [] cpos) (Eo td ty tx):=by
  intro LB s Z H Q I h;refine wpAny_Call_method m.base m.few m.line PySem.F.plainAttrs_dict PySem.F.slot_dict_get PySem.F.type_dict_get (thn (ho LB s Z H _ I h) λu s1 zq0=>?_);obtain ⟨x,H1,I1,rx,a,ex,d,q1⟩:=zq0;subst ex;obtain rfl:u=Value.ref a:=rx;obtain ⟨t1,t2,_⟩:=El I1 d;refine #[t1,t2,?_];rw[m.trees];refine Calls.callWith_builtin rfl (Calls.evalArgs_plain (Calls.spliced_cons (thn (he LB s1 Z H1 _ I1 q1) λiv s2 ⟨y,H2,I2,ry,q2⟩=>
    Calls.spliced_cons (thn (hf LB s2 Z H2 _ I2 q2) λfv s3 ⟨z,H3,I3,rz,ov,g,q3⟩=>Calls.spliced_nil ?_))))
  exact Em hu I3 g ry rz λw' s4 I4 rw'=>#[_,H3,I4,rw',q3]
end
end L2
namespace Att
open PySem PySem.W PySem.Calls PyProof.Rows
def Er {P:Params}{h:Heap}:∀(ns:List Int) (vs:List Value),WellAll P h vs (ns.map WData.int)->IntsAre vs ns:=by
  intro ns
  induction ns with
  | nil=>
    intro vs w;rw[jl]at w;cases w
    exact .nil
  | cons n ns ih=>
    intro vs w;rw[bI]at w;cases w with
    | cons a b=>
      cases a
      exact .cons _ _ (ih _ b)
def Es {l:OpenLaw}{n:Nat}(hn:l.most=some n){P:Params}{h:Heap}{args:List WData}{vals:List Value}
    (hpre:l.row.toRowW.claim.pre args=true) (hwl:WellAll P h vals args) :
    ∃ a vs ns,vals=[Value.ref a]/\args=[WData.list (ns.map WData.int)]/\h.get? a=some { cls:=.type "list",data:=.seq vs.toArray }/\IntsAre vs ns/\ns.length<=n:=by
  have hsh:WShape.hasAll [] args [.list .int]=true:=(pre_splitW hpre).1;have hc:l.pre.holds [] { args:=args }=true:=(pre_splitW hpre).2;obtain ⟨d,r,rfl,h1,h2⟩:=hasAllW_cons hsh;obtain rfl:=hasAllW_nil h2;obtain ⟨xs,rfl,h3⟩:=hasW_list h1;obtain ⟨ns,rfl⟩:=items_int h3;have hlen:ns.length<=n:=by
    unfold OpenLaw.pre at hc;have h4:(WTm.not (.lt (.lit (.int (n:Int))) (.len (.arg 0)))).holds [] { args:=[.list (ns.map .int)] }=true:=by
      have h4:=(holds_andW hc).1;rw[hn]at h4;exact h4
    have h5:=condW_of h4 (w_not (w_lt w_lit (w_len_list (w_arg rfl))));rw[aq]at h5;refine cp λq=>?_;have q':(n:Int)<((ns.length:Nat):Int):=by lia
    first
      | (rw[aX q']at h5;exact absurd h5 (by decide))
      | (simp at h5;lia)
  cases hwl with
  | cons w1 w2=>
    cases w2
    cases w1 with
    | list ho hall=>exact #[_,_,ns,rfl,rfl,ho,Er ns _ hall,hlen]
def Et (l:OpenLaw)(args:List WData):l.row.toRowW.claim.post args (.bool true) args=true:=
  postW_of (r:=l.row.toRowW) (X:=(true==true))
    (show WShape.has [] (.bool true) .bool=true by first|rfl|decide|simp[WShape.has,WShape.arms,WShape.armsAll])
    (show (WTm.eq .res (.lit (.bool true))).value [] { args:=args,res:=some (.bool true),after:=args }=some (.bool (true==true)) from w_eq_bool (w_res rfl) w_lit) rfl
def attach_call {l:OpenLaw}{n:Nat}{q:Program}{loose:List Str}{XP:(Str->Option Value)->Heap->Prop}{YP:World->Heap->Prop}{d:DefRec}
    (hn:l.most=some n) (hdf:d.params.defaults=[])
    (call:∀(w:World) (s₀ s₁:Shared) (mg mb:Str->Option Value) (fa:Addr) (o:Obj) (pm cd doc:Value) (a:Addr) (vs:List Value) (ns:List Int),
      Ground q loose [] XP w s₀ mg mb s₁.heap->YP w s₁.heap->
      s₁.heap.get? fa=some o->o.data=.func (docDef d.name d.params d.body d.scope pm cd doc)->s₁.heap.CodeRec cd d.name->mg d.name=some (.ref fa)->
      s₁.heap.get? a=some { cls:=.type "list",data:=.seq vs.toArray }->IntsAre vs ns->ns.length<=n->s₁.gens=(List.toArray [])->
      codeAny (model l.prog w) callerA (.call (.ref fa) #[[.ref a],[]]) (λr s'=>r=.ok (.ret (.bool true))/\OldK s₁.heap s'.heap/\s'.os=s₁.os/\AllBare s'.gens) s₁) :
    WalkO q loose XP YP l.row.toRowW d [] (λf vs=>PySem.call f vs):=by
  intro w s₀ s₁ mg mb G Y fa o pm cd doc dV kV ho hd hcd hD hmg hg args vals as hpre hlay hrd hwl hlo;obtain rfl:dV=.none:=Dflts.none hD hdf;obtain rfl:kV=.none:=Dflts.noKw hD;obtain ⟨a,vs,ns,rfl,rfl,hobj,hints,hlen⟩:=Es hn hpre hwl;refine enter_call (codeAny_mono (call w s₀ s₁ mg mb fa o pm cd doc a vs ns G Y ho (fd_plain hd) hcd hmg hobj hints hlen hg) λr s' hq=>?_);obtain ⟨rfl,h2,h3,h4⟩:=hq;exact #[.inl #[.bool true,.bool true,[],rfl,λ_=>rfl,.bool true,Et l _,λ_=>#[List.Pairwise.nil,λ_ hm=>(nomatch hm)]],h2,h3,h4]
end Att
namespace L2
open PySem PySem.Spec PyProof.Rows
def yW:∀{vs:List Value} {ns:List Int},IntsAre vs ns->Vals (ns.map V.int) vs
  | _,_,.nil=>.nil
  | _,_,.cons n t h=>.cons #[t,rfl] (yW h)
def gc (s:Stmt):Arguments:=match s with
  | .FunctionDef _ a _ _ _ _ _ _ _ _=>a
  | _=>{ posonlyargs:=[],args:=[],vararg:=none,kwonlyargs:=[],kw_defaults:=[],kwarg:=none,defaults:=[] }
def fj (s:Stmt):List Stmt:=match s with
  | .FunctionDef _ _ b _ _ _ _ _ _ _=>b
  | _=>[]
def aI (s:Stmt):Scope:=match s with
  | .FunctionDef _ _ _ _ _ _ sc _ _ _=>sc
  | _=>{ kind:=.function,names:=[],isGenerator:=false,isCoroutine:=false }
abbrev CX0:CXT:=λ_ _ _ _ _ _=>False
abbrev E0:XK:=λ_ _ _=>False
def yX :tD CX0 X E0:=λ_ _ _ _ _ _ _ h=>h.elim
structure Fun (K:Frag)(x qual:Str)(st:Stmt)(f:Addr)(fd:FuncData):Prop where
  ex:∃(oc:Value) (od:Option Addr) (kV doc pm:Value) (an:Option Addr) (cdv ct:Value) (osl:Array (Option Value)),
    fd=fnOf x qual (gc st) (fj st) (aI st) .none kV doc pm an cdv ct/\K.lookup f=some #[oc,od,.func fd,osl]/\codeIn K cdv qual=true
  kp:keepIn K (.ref f)=true
section
variable {P:Program}{w:World}{K:Frag}{mg:Str->Option Value}{base:Heap}
def Fun.ok {st:Stmt}{f:Addr}{fd:FuncData}{N:List Str}{k:Nat}{sp:Sp}(F:Fun K x qual st f fd)(S:aU N ps (aI st))(len:∀ vs H Q E,sp vs H Q E->vs.length=ps.length)
    (hbody:∀(cdv:Value) (A:Around) (outer:List Env) (s:Shared) (H:Hp) (vs:List V) (Q:VK) (E:XK),Room k (A.deeper (envOfC qual (aI st) s.heap.objs.size f cdv))->sp vs H Q E->
      ∃ t,PSs (cxOf CX0 P w K mg base N qual (aI st) f cdv A outer s H E).nox (fj st) t/\t { nx:=λ_ H'=>Q .non H',rt:=Q } (di N vs) H):FnOk P w K mg base CX0 (k+1) f fd ps sp:=by
  obtain ⟨oc,od,kV,doc,pm,an,cdv,ct,osl,rfl,lk,hcd⟩:=F.ex;refine yr lk hcd S len λA outer s H vs Q E hr hsp=>?_;obtain ⟨t,h,q⟩:=hbody cdv A outer s H vs Q E hr hsp;exact #[t,h.nox,q]
def Fun.binds {st:Stmt}{f:Addr}{fd:FuncData}{ps:List Str}(F:Fun K x qual st f fd)
    (h:∀(kV doc pm:Value) (an:Option Addr) (cdv ct:Value) (us:List Value),us.length=ps.length->bindArgs (fnOf x qual (gc st) (fj st) (aI st) .none kV doc pm an cdv ct) #[us,[]]=pure (ps.zip us)):gJ K fd ps []:=by
  obtain ⟨oc,od,kV,doc,pm,an,cdv,ct,osl,rfl,lk,hcd⟩:=F.ex;exact .all (h kV doc pm an cdv ct)
def tI {x qual:Str}{st:Stmt}{f:Addr}{oc:Value}{od an:Option Addr}{osl:Array (Option Value)}{kV doc pm cdv ct:Value}(l:K.lookup f=some #[oc,od,.func (fnOf x qual (gc st) (fj st) (aI st) .none kV doc pm an cdv ct),osl])
    (c:codeIn K cdv qual=true) (k:keepIn K (.ref f)=true):Fun K x qual st f (fnOf x qual (gc st) (fj st) (aI st) .none kV doc pm an cdv ct):=#[#[oc,od,kV,doc,pm,an,cdv,ct,osl,rfl,l,c],k]
end
def c9 {k:Nat}(hr:Room k A):A.units+1<cLine:=cN (cz (by decide:1<=64) _) hr.units
def bh {n:Nat}(h:n<=1000):n<sizeLine:=cN h (by decide)
section
variable {X:Cx}
def pv (i:Nat){x:Str}{pos:Pos}(hN:X.N[i]?=some x:=by rfl)(hv:Vis X.env.scope x:=by first|exact ar rfl|exact dg (ar rfl)|exact dg (dg rfl))(hd:(x==("__debug__" : Str))=false:=by decide)
    (hcd:(x==("__classdict__" : Str))=false:=by decide):PE X (.Name x pos) (tVar i):=Df hN hv hd hcd
end
def iteF {A B:Prop}(h:B):if false=true then A else B:=by
  rw[af cm];exact h
def iteT {A B:Prop}(h:A):if true=true then A else B:=by
  rw[ae rfl];exact h
def ite2 {c A B:Prop}[Decidable c](h1:c->A)(h2:¬ c->B):if c then A else B:=by
  by_cases h:c
  · rw[ae h]
    exact h1 h
  · rw[af h]
    exact h2 h
def lH {c A B:Prop}[Decidable c](hc:c)(h:B):if (!decide c)=true then A else B:=by
  rw[aX hc];exact iteF h
def Same (H H':Hp):Prop:=∀ b o,H b=some o->H' b=some o
def Same.trans (a:Same H H1)(b:Same H1 H2):Same H H2:=λc o h=>b c o (a c o h)
def Same.free (e:Same H H'){l:Addr}(h:H' l=Option.none):H l=Option.none:=by
  cases q:H l with
  | none=>rfl
  | some o=>
    rw[e l o q]at h;cases h
def Same.seq {K:Frag}{a:Addr}(e:Same H H')(h:SqL K H a xs):SqL K H' a xs:=by
  rcases h with (h|⟨o,h⟩)|h
  · exact .inl (.inl (e _ _ h))
  · exact .inl (.inr #[o,e _ _ h])
  · exact .inr h
end L2
namespace Tim
open PySem PyProof.Rows
section
variable {prog:Program}{w:World}{A:Around}{E:Value->Shared->Prop}{s:Shared}{κ:KeyKind}{kd:SortKind}{a₀:Array Keyed}
def LtG (prog:Program)(w:World)(A:Around)(s:Shared)(κ:KeyKind)(kd:SortKind):Prop:=
 ∀(E:Value->Shared->Prop) (x y:Value) (a b:κ.α) (Q:Bool->Shared->Prop),κ.keyOf x=some a->κ.keyOf y=some b->Q (κ.blt a b) s->wpAny (model prog w) A (keyLt' kd x y) Q E s
def ky (κ:KeyKind)(p:Keyed):κ.α:=(κ.keyOf p.1).getD κ.dflt
def Keyd (κ:KeyKind)(p:Keyed):Prop:=∃ a,κ.keyOf p.1=some a
def Keyd.eq (h:Keyd κ p):κ.keyOf p.1=some (ky κ p):=by
 obtain ⟨a,e⟩:=h;unfold ky;rw[e];rfl
def lt_G {st:SortSt}{Q:Option Bool->SortSt->Prop}(hO:LtG prog w A s κ kd)(hk:kindOf st=kd)(hx:Keyd κ x)(hy:Keyd κ y)(h:Q (some (κ.blt (ky κ x) (ky κ y))) st):wpS (model prog w) A E s (lt' x y) Q st:=by
 rw[lt'_eq];refine wpS_bind (wpS_get ?_);rw[hk];refine wpS_bind (wpS_lift (wpAny_attempt (hO _ x.1 y.1 _ _ _ hx.eq hy.eq #[rfl,?_])));exact wpS_pure h
def cD {xs:Array Keyed}{i:Nat}{st:SortSt}{Q:Keyed->SortSt->Prop}(hi:i<xs.size)(h:Q xs[i] st):wpS (model prog w) A E s (elem' xs i) Q st:=by
 rw[elem'_eq,eK hi];exact wpS_pure h
structure TB (κ:KeyKind)(kd:SortKind)(n:Nat)(st:SortSt):Prop where
 kind:kindOf st=kd
 keys:∀ p∈(arrOf st).toList,Keyd κ p
 failed:failedOf st=none
 size:(arrOf st).size=n
def kAt (κ:KeyKind)(xs:Array Keyed)(i:Nat):κ.α:=match xs[i]? with
 | some p=>ky κ p
 | none=>κ.dflt
def dw {xs:Array Keyed}{i:Nat}(h:i<xs.size):kAt κ xs i=ky κ xs[i]:=by
 unfold kAt;rw[eK h]
def gf {xs ys:Array Keyed}{i j:Nat}(h:xs[i]?=ys[j]?):kAt κ xs i=kAt κ ys j:=by
 unfold kAt;rw[h]
def lI {i j n:Nat}{st:SortSt}{Q:Option Bool->SortSt->Prop}(hO:LtG prog w A s κ kd)(hB:TB κ kd n st)(hi:i<n)(hj:j<n)(h:Q (some (κ.blt (kAt κ (arrOf st) i) (kAt κ (arrOf st) j))) st):wpS (model prog w) A E s (ltAt' i j) Q st:=by
 have hi':i<(arrOf st).size:=by rw[hB.size];exact hi
 have hj':j<(arrOf st).size:=by rw[hB.size];exact hj
 rw[ltAt'_eq];refine wpS_bind (wpS_get ?_);refine wpS_bind (cD hi' (wpS_bind (cD hj' ?_)));refine lt_G hO hB.kind (hB.keys _ (by simp)) (hB.keys _ (by simp)) ?_;rw[dw hi',dw hj']at h;exact h
def Up (κ:KeyKind)(xs:Array Keyed)(lo hi:Nat):Prop:=∀ i j,lo<=i->i<=j->j<hi->κ.kle (kAt κ xs i) (kAt κ xs j)
def Dn (κ:KeyKind)(xs:Array Keyed)(lo hi:Nat):Prop:=∀ i j,lo<=i->i<=j->j<hi->κ.kle (kAt κ xs j) (kAt κ xs i)
structure Off (xs ys:Array Keyed)(lo hi:Nat):Prop where
 perm:ys.Perm xs
 out:∀ k,k<lo\/hi<=k->ys[k]?=xs[k]?
def Off.refl (xs:Array Keyed)(lo hi:Nat):Off xs xs lo hi:=#[Array.Perm.refl _,λ_ _=>rfl]
def Off.trans {lo hi:Nat}(a:Off xs ys lo hi)(b:Off ys zs lo hi):Off xs zs lo hi:=#[b.perm.trans a.perm,λk h=>(b.out k h).trans (a.out k h)]
def Off.wide {lo hi lo' hi':Nat}(a:Off xs ys lo hi)(h1:lo'<=lo)(h2:hi<=hi'):Off xs ys lo' hi':=#[a.perm,λk h=>a.out k (by lia)]
def Off.size {lo hi:Nat}(a:Off xs ys lo hi):ys.size=xs.size:=a.perm.size_eq
def TB.off {n lo hi:Nat}{st:SortSt}(hB:TB κ kd n st)(h:Off (arrOf st) ys lo hi):TB κ kd n (setArr st ys):=
 #[hB.kind,λp hp=>hB.keys p ((sI.mp h.perm).mem_iff.mp hp),hB.failed,h.size.trans hB.size]
def lJ {xs:Array Keyed}{j:Nat}(hj:j<=xs.size):Off xs (mirror xs i j ((j-i)/2)) i j:=#[mirror_perm _ _ _ _,λk hk=>by rw[getElem?_mirror_all hj,af (by lia)]]
def tJ {xs:Array Keyed}{i j k:Nat}(hj:j<=xs.size)(hk:i<=k/\k<j):kAt κ (mirror xs i j ((j-i)/2)) k=kAt κ xs (i+j-1-k):=by
 apply gf
 rw[getElem?_mirror_all hj,ae hk]
def tK {lo k:Nat}(h:Off xs ys lo hi)(hk:k<lo\/hi<=k):kAt κ ys k=kAt κ xs k:=gf (h.out k hk)
def tL {xs:Array Keyed}{i j:Nat}(hj:j<=xs.size)(he:∀ k,i<=k->k<j->kAt κ xs k=kAt κ xs (j-1))(k:Nat):kAt κ (mirror xs i j ((j-i)/2)) k=kAt κ xs k:=by
 by_cases hk:i<=k/\k<j
 .rw[tJ hj hk,he _ (by lia) (by lia),he k hk.1 hk.2]
 .exact tK (lJ hj) (by lia)
def oh {i j:Nat}{st:SortSt}{Q:Unit->SortSt->Prop}(h:Q () (setArr st (mirror (arrOf st) i j ((j-i)/2)))):wpS (model prog w) A E s (reverseSlice' i j) Q st:=by
 rw[reverseSlice'_eq];exact wpS_modify h
def iW {Z:Type}{n:String}{Q:Unit->Z->Prop}{st:Z}(h:Q () st):wpS (model prog w) A E s (liftM (rule n):StateT Z Sem Unit) Q st:=wpS_lift (wpAny_rule #[rfl,h])
end
end Tim
namespace Tim
open PySem PyProof.Rows
section
variable {prog:Program}{w:World}{A:Around}{E:Value->Shared->Prop}{s:Shared}{κ:KeyKind}{kd:SortKind}
def iX (κ:KeyKind)(st:SortSt)(lo least nrem:Nat)(r:Option Nat)(st':SortSt):Prop:=
 ∃ n ys,r=some n/\least<=n/\n<=nrem/\st'=setArr st ys/\Off (arrOf st) ys lo (lo+n)/\Up κ ys lo (lo+n)
def Eu {lo:Nat}:Up κ xs lo (lo+1):=λi j h1 h2 h3=>by
 have:i=j:=by lia
 subst this;exact KeyOrd.kle_refl _
def Up.more {lo hi:Nat}(h:Up κ xs lo hi)(hlo:lo<hi)(hn:κ.kle (kAt κ xs (hi-1)) (kAt κ xs hi)):Up κ xs lo (hi+1):=λi j h1 h2 h3=>by
 by_cases hj:j<hi
 .exact h i j h1 h2 hj
 .have e:=fO (dA h3) (cp hj);subst e;by_cases hi':i=j
  .subst hi';exact KeyOrd.kle_refl _
  .exact KeyOrd.kle_trans (h i (j-1) h1 (fA (cH h2 hi')) (ef hlo)) hn
def Dn.more {lo hi:Nat}(h:Dn κ xs lo hi)(hlo:lo<hi)(hn:κ.kle (kAt κ xs hi) (kAt κ xs (hi-1))):Dn κ xs lo (hi+1):=λi j h1 h2 h3=>by
 by_cases hj:j<hi
 .exact h i j h1 h2 hj
 .have e:=fO (dA h3) (cp hj);subst e;by_cases hi':i=j
  .subst hi';exact KeyOrd.kle_refl _
  .exact KeyOrd.kle_trans hn (h i (j-1) h1 (fA (cH h2 hi')) (ef hlo))
def yY {st:SortSt}{N lo n nrem:Nat}{Q:Option (Option Nat)×Nat->SortSt->Prop}(hO:LtG prog w A s κ kd)(hB:TB κ kd N st)(hlo:lo+nrem<=N)(h1:1<=n)(hn:n<=nrem)(hU:Up κ (arrOf st) lo (lo+n))
  (h:∀ m,n<=m->m<=nrem->Up κ (arrOf st) lo (lo+m)->(m<nrem->κ.klt (kAt κ (arrOf st) (lo+m)) (kAt κ (arrOf st) (lo+m-1)))->Q (none,m) st) :
  wpS (model prog w) A E s (forIn [n:nrem] ((none,n):Option (Option Nat)×Nat) λ_ __s=>do
   let __x <-ltAt' (lo+__s.snd) (lo+__s.snd-1)
   match __x with
   | some smaller=>if smaller=true then pure (ForInStep.done (none,__s.snd)) else pure (ForInStep.yield (none,__s.snd+1))
   | _=>pure (ForInStep.done (some none,__s.snd))) Q st:=by
 refine wpS_forRange (I:=λi c st'=>st'=st/\c=(none,i)/\n<=i/\i<=nrem/\Up κ (arrOf st) lo (lo+i)) ?_ ?_ #[rfl,rfl,ai _,hn,hU]
 .rintro i c st' hi1 hi2 ⟨rfl,rfl,h3,h4,hU'⟩;have l:=aP (dB hi2 lo) hlo;refine wpS_bind (lI hO hB l (cN (eL _ _) l) ?_);dsimp only;cases e:κ.blt (kAt κ (arrOf st') (lo+i)) (kAt κ (arrOf st') (lo+i-1)) with
  | true=>exact wpS_pure (h i h3 h4 hU' λ_=>e)
  | false=>exact wpS_pure #[rfl,rfl,mY h3,hi2,hU'.more (mZ (ax h1 h3)) e]
 .rintro c st' ⟨rfl,rfl,h3,h4,hU'⟩;exact h _ h3 h4 hU' λz=>absurd z (by lia)
def yZ {st:SortSt}{N lo n nrem:Nat}{Q:Option Nat->SortSt->Prop}{k:Option (Option Nat)×Nat->StateT SortSt Sem (Option Nat)}(hk:∀ m,k (none,m)=pure (some m))(hO:LtG prog w A s κ kd)(hB:TB κ kd N st)(hlo:lo+nrem<=N)(h1:1<=n)(hn:n<=nrem)(hD:Dn κ (arrOf st) lo (lo+n))
  (h:∀ r st',iX κ st lo n nrem r st'->Q r st') :
  wpS (model prog w) A E s (do
   reverseSlice' lo (lo+n)
   let c <-forIn [n:nrem] ((none,n):Option (Option Nat)×Nat) λ_ __s=>do
    let __x <-ltAt' (lo+__s.snd) (lo+__s.snd-1)
    match __x with
    | some smaller=>if smaller=true then pure (ForInStep.done (none,__s.snd)) else pure (ForInStep.yield (none,__s.snd+1))
    | _=>pure (ForInStep.done (some none,__s.snd))
   k c) Q st:=by
 have hz:lo+n<=(arrOf st).size:=by rw[hB.size];lia
 have hoff:=lJ (xs:=arrOf st) (i:=lo) (j:=lo+n) hz;refine wpS_bind (oh ?_);refine wpS_bind (yY hO (hB.off hoff) hlo h1 hn (λi j q1 q2 q3=>?_) λm m1 m2 hU _=>?_)
 .rw[tJ hz #[q1,cN q2 q3],tJ hz #[ax q1 q2,q3]];exact hD _ _ (kL (fA (dB q3 lo))) (m4 q2 _) (by lia)
 .rw[hk];exact wpS_pure (h _ _ #[m,_,rfl,m1,m2,rfl,hoff.wide (ai _) (cz m1 lo),hU])
def y9 {st:SortSt}{N lo n nrem:Nat}{Q:Option (Option Nat)×Nat×Nat->SortSt->Prop}(hO:LtG prog w A s κ kd)(hB:TB κ kd N st)(hlo:lo+nrem<=N)(h1:1<=n)(hn:n<=nrem)(hD:Dn κ (arrOf st) lo (lo+n))
  (h:∀ m neq ys,n<=m->m<=nrem->neq<m->Off (arrOf st) ys lo (lo+m)->Dn κ ys lo (lo+m)->(∀ k,lo+m-(neq+1)<=k->k<lo+m->kAt κ ys k=kAt κ ys (lo+m-1))->Q (none,m,neq) (setArr st ys)) :
  wpS (model prog w) A E s (forIn [n:nrem] ((none,n,0):Option (Option Nat)×Nat×Nat) λ_ __s=>do
   let __x <-ltAt' (lo+__s.snd.fst) (lo+__s.snd.fst-1)
   match __x with
   | some smaller=>
    if smaller=true then
     if __s.snd.snd>0 then do
      let _ <-reverseSlice' (lo+__s.snd.fst-(__s.snd.snd+1)) (lo+__s.snd.fst)
      pure (ForInStep.yield (none,__s.snd.fst+1,0))
     else pure (ForInStep.yield (none,__s.snd.fst+1,0))
    else do
     let __x <-ltAt' (lo+__s.snd.fst-1) (lo+__s.snd.fst)
     match __x with
     | some larger=>
      if larger=true then pure (ForInStep.done (none,__s.snd.fst,__s.snd.snd))
      else pure (ForInStep.yield (none,__s.snd.fst+1,__s.snd.snd+1))
     | _=>pure (ForInStep.done (some none,__s.snd.fst,__s.snd.snd))
   | _=>pure (ForInStep.done (some none,__s.snd.fst,__s.snd.snd))) Q st:=by
 refine wpS_forRange (I:=λi c st'=>∃ neq ys,st'=setArr st ys/\c=(none,i,neq)/\n<=i/\i<=nrem/\neq<i/\Off (arrOf st) ys lo (lo+i)/\Dn κ ys lo (lo+i)/\∀ k,lo+i-(neq+1)<=k->k<lo+i->kAt κ ys k=kAt κ ys (lo+i-1)) ?_ ?_ #[0,arrOf st,rfl,rfl,ai _,hn,h1,Off.refl _ _ _,hD,λk q1 q2=>by rw[fO (fA q2) q1]]
 .rintro i c st' hi1 hi2 ⟨neq,ys,rfl,rfl,h3,h4,h5,ho,hD',he⟩;have hB':TB κ kd N (setArr st ys):=hB.off ho;have hz:lo+i<=ys.size:=by rw[ho.size,hB.size];lia
  dsimp only;have l:=aP (dB hi2 lo) hlo;have lp:=mZ (n:=lo) (gT h5);refine wpS_bind (lI hO hB' l (cN (eL _ _) l) ?_);dsimp only;cases e:κ.blt (kAt κ ys (lo+i)) (kAt κ ys (lo+i-1)) with
  | true=>
   simp only[if_true];by_cases hq:neq>0
   .rw[ae hq];have hoff:=lJ (xs:=ys) (i:=lo+i-(neq+1)) (j:=lo+i) hz;have hk:=tL (κ:=κ) hz he;refine wpS_bind (oh (wpS_pure #[0,_,rfl,rfl,mY h3,hi2,dR i,ho.wide (ai _) (dm _) |>.trans (hoff.wide (kL (cz h5 lo)) (dm _)),?_,λk q1 q2=>by rw[fO (fA q2) q1]]));have:Dn κ (mirror ys (lo+i-(neq+1)) (lo+i) ((lo+i-(lo+i-(neq+1)))/2)) lo (lo+i):=λa b q1 q2 q3=>by rw[hk,hk];exact hD' a b q1 q2 q3
    exact this.more lp (by rw[hk,hk];exact KeyOrd.kle_of_klt e)
   .rw[af hq];exact wpS_pure #[0,ys,rfl,rfl,mY h3,hi2,dR i,ho.wide (ai _) (dm _),hD'.more lp (KeyOrd.kle_of_klt e),λk q1 q2=>by rw[fO (fA q2) q1]]
  | false=>
   simp only[cS,if_false];refine wpS_bind (lI hO hB' (cN (eL _ _) l) l ?_);dsimp only;cases e2:κ.blt (kAt κ ys (lo+i-1)) (kAt κ ys (lo+i)) with
   | true=>exact wpS_pure (h i neq ys h3 h4 h5 ho hD' he)
   | false=>
    have eq:kAt κ ys (lo+i)=kAt κ ys (lo+i-1):=κ.total _ _ e e2;refine wpS_pure #[neq+1,ys,rfl,rfl,mY h3,hi2,Nat.succ_lt_succ h5,ho.wide (ai _) (dm _),hD'.more lp (by rw[eq];exact KeyOrd.kle_refl _),λk q1 q2=>?_];rw[show lo+(i+1)-1=lo+i from rfl,eq];by_cases hk:k=lo+i
    .rw[hk];exact eq
    .exact he k (ax (dn (Nat.add_sub_add_right (lo+i) 1 (neq+1)).symm) q1) (cH (dA q2) hk)
 .rintro c st' ⟨neq,ys,rfl,rfl,h3,h4,h5,ho,hD',he⟩;exact h _ neq ys h3 h4 h5 ho hD' he
def za {st:SortSt}{N lo n nrem m neq:Nat}{Q:Option Nat->SortSt->Prop}{t:StateT SortSt Sem (Option Nat)}(hB:TB κ kd N st)(hlo:lo+nrem<=N)(m1:n+1<=m)(m2:m<=nrem)(m3:neq<m)
  (ho:Off (arrOf st) ys lo (lo+m)) (hD:Dn κ ys lo (lo+m)) (he:∀ k,lo+m-(neq+1)<=k->k<lo+m->kAt κ ys k=kAt κ ys (lo+m-1)) (h:∀ r st',iX κ st lo (n+1) nrem r st'->Q r st')
  (ht:∀ st',TB κ kd N st'->Dn κ (arrOf st') lo (lo+m)->(∀ r st'',iX κ st' lo m nrem r st''->Q r st'')->wpS (model prog w) A E s t Q st') :
  wpS (model prog w) A E s (if neq > 0 then do
   let _ <-reverseSlice' (lo+m-(neq+1)) (lo+m)
   t else t) Q (setArr st ys):=by
 have hz:lo+m<=ys.size:=by rw[ho.size,hB.size];lia
 have back:∀ zs,Off (arrOf st) zs lo (lo+m)->∀ r st',iX κ (setArr st zs) lo m nrem r st'->Q r st':=λzs hz r st' hr=>by
  obtain ⟨q,vs,e1,e2,e3,e4,e5,e6⟩:=hr;exact h r st' #[q,vs,e1,ax m1 e2,e3,e4,(hz.wide (ai _) (cz e2 lo)).trans e5,e6]
 by_cases hq:neq>0
 .rw[ae hq];have hoff:=lJ (xs:=ys) (i:=lo+m-(neq+1)) (j:=lo+m) hz;have hk:=tL (κ:=κ) hz he;have ho2:=ho.trans (hoff.wide (kL (cz m3 lo)) (ai _));refine wpS_bind (oh ?_);refine ht _ (hB.off ho2) (λa b q1 q2 q3=>?_) (back _ ho2);show κ.kle (kAt κ (mirror ys (lo+m-(neq+1)) (lo+m) ((lo+m-(lo+m-(neq+1)))/2)) b) (kAt κ (mirror ys (lo+m-(neq+1)) (lo+m) ((lo+m-(lo+m-(neq+1)))/2)) a);rw[hk,hk];exact hD a b q1 q2 q3
 .rw[af hq];exact ht _ (hB.off ho) hD (back _ ho)
def Ew {st:SortSt}{N lo nrem:Nat}{Q:Option Nat->SortSt->Prop}(hO:LtG prog w A s κ kd)(hB:TB κ kd N st)(hlo:lo+nrem<=N)(h1:1<=nrem)(h:∀ r st',iX κ st lo 1 nrem r st'->Q r st') :
  wpS (model prog w) A E s (countRun' lo nrem) Q st:=by
 rw[countRun'_eq];refine wpS_bind (yY hO hB hlo (ai 1) h1 Eu λm m1 m2 hU hnext=>?_);dsimp only;by_cases hm:m=nrem
 .rw[ae (by simpa using hm)];exact wpS_pure (h _ _ #[m,arrOf st,rfl,m1,m2,rfl,Off.refl _ _ _,hU])
 .rw[af (by simpa using hm)];have lm:=cH m2 hm;have hnx:=hnext lm;by_cases hm1:m>1
  .rw[ae hm1];have l:=aP (dB lm lo) hlo;refine wpS_bind (lI hO hB (cN (cA _ _) l) (cN (eL _ _) l) ?_);cases e:κ.blt (kAt κ (arrOf st) lo) (kAt κ (arrOf st) (lo+m-1)) with
   | true=>
    simp only[if_true];exact wpS_pure (h _ _ #[m,arrOf st,rfl,m1,m2,rfl,Off.refl _ _ _,hU])
   | false=>
    simp only[cS,if_false];have hz:lo+m<=(arrOf st).size:=by rw[hB.size];exact aZ l
    have hoff:=lJ (xs:=arrOf st) (i:=lo) (j:=lo+m) hz;have all:∀ k,lo<=k->k<lo+m->kAt κ (arrOf st) k=kAt κ (arrOf st) (lo+m-1):=λk q1 q2=>
     KeyOrd.kle_antisymm (hU k (lo+m-1) q1 (fA q2) (ef q2)) (KeyOrd.kle_trans (show κ.kle (kAt κ (arrOf st) (lo+m-1)) (kAt κ (arrOf st) lo) from e) (hU lo k (ai _) q1 q2))
    have hk:=tL (κ:=κ) hz all;refine wpS_bind (oh ?_);have fin:∀ r st',iX κ (setArr st (mirror (arrOf st) lo (lo+m) ((lo+m-lo)/2))) lo (m+1) nrem r st'->Q r st':=λr st' hr=>by
     obtain ⟨q,vs,e1,e2,e3,e4,e5,e6⟩:=hr;exact h r st' #[q,vs,e1,ax m1 (Nat.le_of_succ_le e2),e3,e4,(hoff.wide (ai _) (cz (Nat.le_of_succ_le e2) lo)).trans e5,e6]
    refine wpS_bind (iW (wpS_bind (y9 hO (hB.off hoff) hlo (dR _) lm ?_ λm' neq ys p1 p2 p3 ho hD' he=>?_)))
    rotate_left
    .dsimp only;exact za (n:=m) (hB.off hoff) hlo p1 p2 p3 ho hD' he fin λst' hB' hDD hh=>yZ (λ_=>rfl) hO hB' hlo (gT p1) p2 hDD hh
    .have d0:Dn κ (arrOf st) lo (lo+m):=λa b q1 q2 q3=>by rw[all a q1 (cN q2 q3),all b (ax q1 q2) q3];exact KeyOrd.kle_refl _
     have d1:=d0.more (mZ m1) (KeyOrd.kle_of_klt hnx);intro a b q1 q2 q3;show κ.kle (kAt κ (mirror (arrOf st) lo (lo+m) ((lo+m-lo)/2)) b) (kAt κ (mirror (arrOf st) lo (lo+m) ((lo+m-lo)/2)) a);rw[hk,hk];exact d1 a b q1 q2 q3
  .rw[af hm1];have e1:=fO (cp hm1) m1;subst e1;have fin:∀ r st',iX κ st lo (1+1) nrem r st'->Q r st':=λr st' hr=>by
    obtain ⟨q,vs,e1,e2,e3,e4,e5,e6⟩:=hr;exact h r st' #[q,vs,e1,Nat.le_of_succ_le e2,e3,e4,e5,e6]
   refine wpS_bind (iW (wpS_bind (y9 hO hB hlo (dR _) lm ?_ λm' neq ys p1 p2 p3 ho hD' he=>?_)))
   rotate_left
   .dsimp only;exact za (n:=1) hB hlo p1 p2 p3 ho hD' he fin λst' hB' hDD hh=>yZ (λ_=>rfl) hO hB' hlo (gT p1) p2 hDD hh
   .intro a b q1 q2 q3;by_cases hab:a=b
    .subst hab;exact KeyOrd.kle_refl _
    .have ea:a=lo:=by lia
     have eb:b=lo+1:=by lia
     rw[ea,eb];exact KeyOrd.kle_of_klt hnx
end
end Tim
namespace Tim
open PySem PyProof.Rows
section
variable {prog:Program}{w:World}{A:Around}{E:Value->Shared->Prop}{s:Shared}{κ:KeyKind}{kd:SortKind}
def Ex {xs:Array Keyed}{src dst hi:Nat}(hs:src<xs.size)(hd:dst<=src)(hh:src<hi):Off xs (bubble xs src (src-dst)) dst hi:=
 #[bubble_perm _ _ _,λk hk=>by
  rw[getElem?_bubble hs _ (eL _ _),Nat.sub_sub_self hd,af (by lia),af (by lia)]]
def zb {xs:Array Keyed}{src dst:Nat}(hs:src<xs.size)(hd:dst<=src)(k:Nat):kAt κ (bubble xs src (src-dst)) k=if k=dst then kAt κ xs src else if dst<k/\k<=src then kAt κ xs (k-1) else kAt κ xs k:=by
 have e:=getElem?_bubble hs (src-dst) (eL _ _) k;rw[Nat.sub_sub_self hd]at e;by_cases h1:k=dst
 .rw[ae h1]at e ⊢;exact gf e
 .rw[af h1]at e ⊢;by_cases h2:dst<k/\k<=src
  .rw[ae h2]at e ⊢;exact gf e
  .rw[af h2]at e ⊢;exact gf e
def gR {l r:Nat}(h:¬l >= r):l<=(l+r)/2/\(l+r)/2<r:=#[(Nat.le_div_iff_mul_le jn).mpr (by rw[Nat.mul_two];exact cz (Nat.le_of_not_le h) l),Nat.div_lt_of_lt_mul (by rw[Nat.two_mul];exact Nat.add_lt_add_right (e8 h) r)]
def rY {l r n x:Nat}(a:r-l<=n-x)(h:¬l >= r):r-((l+r)/2+1)<=n-(x+1):=ax (m4 (gA (gR h).1 1) r) (by rw[<-iH,<-iH];exact Nat.sub_le_sub_right a 1)
def rZ {l r n x:Nat}(a:r-l<=n-x)(h:¬l >= r):(l+r)/2-l<=n-(x+1):=by rw[<-iH];exact fA (aP (Nat.sub_lt_sub_right (gR h).1 (gR h).2) a)
def Ey {st:SortSt}{N lo n ok:Nat}{Q:Bool->SortSt->Prop}(hO:LtG prog w A s κ kd)(hB:TB κ kd N st)(hlo:lo+n<=N)(hok:ok<=n)(hU:Up κ (arrOf st) lo (lo+ok))
  (h:∀ ys,Off (arrOf st) ys lo (lo+n)->Up κ ys lo (lo+n)->Q true (setArr st ys)):wpS (model prog w) A E s (binarySort' lo n ok) Q st:=by
 rw[binarySort'_eq];refine wpS_bind (wpS_mono (wpS_forRange (I:=λk c st'=>c=(none,())/\∃ ys,st'=setArr st ys/\Off (arrOf st) ys lo (lo+n)/\Up κ ys lo (lo+min k n))
  (Q:=λc st'=>c=(none,())/\∃ ys,st'=setArr st ys/\Off (arrOf st) ys lo (lo+n)/\Up κ ys lo (lo+n)) ?step ?fin ?init) ?post)
 case post=>
  rintro c st' ⟨rfl,ys,rfl,ho,hu⟩;exact wpS_pure (h ys ho hu)
 case init=>
  refine #[rfl,arrOf st,rfl,Off.refl _ _ _,λi j h1 h2 h3=>?_];by_cases hz:j<lo+ok
  .exact hU i j h1 h2 hz
  .have:i=j:=by lia
   subst this;exact KeyOrd.kle_refl _
 case fin=>
  rintro c st' ⟨rfl,ys,rfl,ho,hu⟩;refine #[rfl,ys,rfl,ho,?_];rwa[iI (Nat.le_max_right _ _)]at hu
 case step=>
  rintro k c st' hk1 hk2 ⟨rfl,ys,rfl,ho,hu⟩;rw[eh (aZ hk2)]at hu;clear hk1;have lk:=aP (dB hk2 lo) hlo;have hB':TB κ kd N (setArr st ys):=hB.off ho;have hz:ys.size=N:=by rw[ho.size,hB.size]
  refine wpS_bind (wpS_mono (wpS_forRange (I:=λx c st''=>st''=setArr st ys/\∃ l r,c=(none,l,r)/\l<=r/\r<=k/\r - l<=k - x/\
    (∀ i,i<l->κ.kle (kAt κ ys (lo+i)) (kAt κ ys (lo+k)))/\(∀ i,r<=i->i<k->κ.klt (kAt κ ys (lo+k)) (kAt κ ys (lo+i))))
   (Q:=λc st''=>st''=setArr st ys/\∃ l r,c=(none,l,r)/\l<=k/\
    (∀ i,i<l->κ.kle (kAt κ ys (lo+i)) (kAt κ ys (lo+k)))/\(∀ i,l<=i->i<k->κ.klt (kAt κ ys (lo+k)) (kAt κ ys (lo+i)))) ?istep ?ifin ?iinit) ?ipost)
  case iinit=>exact #[rfl,0,k,rfl,bK _,ai _,ai _,λi hi=>absurd hi (kM _),λi h1 h2=>absurd h1 (gU h2)]
  case ifin=>
   rintro c st'' ⟨rfl,l,r,rfl,hlr,hrk,hm,a1,a2⟩;have:l=r:=by lia
   subst this;exact #[rfl,l,l,rfl,hrk,a1,a2]
  case istep=>
   rintro x c st'' _ hxk ⟨rfl,l,r,rfl,hlr,hrk,hm,a1,a2⟩;dsimp only;by_cases hge:l >= r
   .rw[ae hge];have:=fO hlr hge;subst this;exact wpS_pure #[rfl,l,l,rfl,hrk,a1,a2]
   .rw[af hge];have zz:=gR hge;refine wpS_bind (lI hO hB' lk (jm (dB (aP zz.2 hrk) lo) lk) ?_);dsimp only;cases e:κ.blt (kAt κ ys (lo+k)) (kAt κ ys (lo+(l+r)/2)) with
    | true=>
     refine wpS_pure #[rfl,l,(l+r)/2,rfl,zz.1,ax (aZ zz.2) hrk,rZ hm hge,a1,λi h1 h2=>?_];exact KeyOrd.klt_of_klt_of_kle e (hu _ _ (cA _ _) (cz h1 lo) (dB h2 lo))
    | false=>
     refine wpS_pure #[rfl,(l+r)/2+1,r,rfl,zz.2,hrk,rY hm hge,λi h1=>?_,a2];exact KeyOrd.kle_trans (hu (lo+i) (lo+(l+r)/2) (cA _ _) (cz (dA h1) lo) (dB (aP zz.2 hrk) lo)) (show κ.kle (kAt κ ys (lo+(l+r)/2)) (kAt κ ys (lo+k)) from e)
  case ipost=>
   rintro c st'' ⟨rfl,l,r,rfl,hlk,a1,a2⟩;dsimp only;rw[moveDown'_eq];have hs:lo+k<ys.size:=by rw[hz];exact lk
   have hd:=cz hlk lo;refine wpS_bind (wpS_modify (wpS_pure #[rfl,_,rfl,ho.trans ((Ex (hi:=lo+n) hs hd (dB hk2 lo)).wide (cA _ _) (ai _)),?_]));rw[eh hk2];intro i j h1 h2 h3;show κ.kle (kAt κ (bubble ys (lo+k) (lo+k-(lo+l))) i) (kAt κ (bubble ys (lo+k) (lo+k-(lo+l))) j);rw[zb hs hd,zb hs hd];clear hs hd hz lk;have lowS:∀ i,lo<=i->i<lo+l->κ.kle (kAt κ ys i) (kAt κ ys (lo+k)):=λi q1 q2=>by
    have:=a1 (i-lo) (m5 q1 q2);rw[fB q1]at this;exact this
   have highS:∀ i,lo+l<=i->i<lo+k->κ.kle (kAt κ ys (lo+k)) (kAt κ ys i):=λi q1 q2=>by
    have q3:=jo q1;have:=a2 (i-lo) (m6 q1) (m5 q3 q2);rw[fB q3]at this;exact KeyOrd.kle_of_klt this
   by_cases i1:i=lo+l
   .rw[ae i1];by_cases j1:j=lo+l
    .rw[ae j1];exact KeyOrd.kle_refl _
    .rw[af j1,ae (by lia)];exact highS _ (by lia) (by lia)
   .rw[af i1];by_cases i2:lo+l<i/\i<=lo+k
    .rw[ae i2,af (by lia),ae (by lia)];exact hu _ _ (by lia) (by lia) (by lia)
    .rw[af i2];by_cases j1:j=lo+l
     .rw[ae j1];exact lowS i h1 (by lia)
     .rw[af j1];by_cases j2:lo+l<j/\j<=lo+k
      .rw[ae j2];exact hu _ _ h1 (by lia) (by lia)
      .rw[af j2];exact hu _ _ h1 h2 (by lia)
end
end Tim
namespace Tim
open PySem PyProof.Rows
section
variable {M:Model}{A:Around}{E:Value->Shared->Prop}{s:Shared}{st:SortSt}{n hint:Nat}{p:Nat->Bool}
abbrev C2:=Option (Option Nat)×Nat×Nat
def Ez {Q:C2->SortSt->Prop}{f:Nat->C2->StateT SortSt Sem (ForInStep C2)}(hn:hint<n)(hp:p hint=true)
  (f1:∀ x l o,o >= n-hint->f x (none,l,o)=pure (.done (none,l,o)))
  (f2:∀ x l o (R:ForInStep C2->SortSt->Prop),o<n-hint->(p (hint+o)=true->R (.yield (none,o,2*o+1)) st)->(p (hint+o)=false->R (.done (none,l,o)) st)->wpS M A E s (f x (none,l,o)) R st)
  (h:∀ l o,l<o->hint+l<n->p (hint+l)=true->(o<n-hint->p (hint+o)=false)->Q (none,l,o) st):wpS M A E s (forIn [:n] ((none,0,1):C2) f) Q st:=by
 refine wpS_forRange (I:=λi c st'=>st'=st/\∃ l o,c=(none,l,o)/\l<o/\i+1<=o/\hint+l<n/\p (hint+l)=true) ?_ ?_ #[rfl,0,1,rfl,Nat.one_pos,ai _,hn,hp]
 .rintro i c st' _ hi ⟨rfl,l,o,rfl,h1,h2,h3,h4⟩;by_cases ho:o >= n-hint
  .rw[f1 i l o ho];exact wpS_pure (h l o h1 h3 h4 λz=>absurd z (jq ho))
  .refine f2 i l o _ (e8 ho) (λe=>?_) λe=>?_
   .exact #[rfl,o,2*o+1,rfl,jr (m8 o jn),iJ (ax h2 (m8 o jn)),Nat.add_lt_of_lt_sub' (e8 ho),e]
   .exact h l o h1 h3 h4 λ_=>e
 .rintro c st' ⟨rfl,l,o,rfl,h1,h2,h3,h4⟩;exact h l o h1 h3 h4 λz=>absurd z (by lia)
def EA {Q:C2->SortSt->Prop}{f:Nat->C2->StateT SortSt Sem (ForInStep C2)}(hn:hint<n)(hp:p hint=false)
  (f1:∀ x l o,o >= hint+1->f x (none,l,o)=pure (.done (none,l,o)))
  (f2:∀ x l o (R:ForInStep C2->SortSt->Prop),o<hint+1->(p (hint-o)=false->R (.yield (none,o,2*o+1)) st)->(p (hint-o)=true->R (.done (none,l,o)) st)->wpS M A E s (f x (none,l,o)) R st)
  (h:∀ l o,l<o->l<=hint->p (hint-l)=false->(o<hint+1->p (hint-o)=true)->Q (none,l,o) st):wpS M A E s (forIn [:n] ((none,0,1):C2) f) Q st:=by
 refine wpS_forRange (I:=λi c st'=>st'=st/\∃ l o,c=(none,l,o)/\l<o/\i+1<=o/\l<=hint/\p (hint-l)=false) ?_ ?_ #[rfl,0,1,rfl,Nat.one_pos,ai _,bK _,hp]
 .rintro i c st' _ hi ⟨rfl,l,o,rfl,h1,h2,h3,h4⟩;by_cases ho:o >= hint+1
  .rw[f1 i l o ho];exact wpS_pure (h l o h1 h3 h4 λz=>absurd z (jq ho))
  .refine f2 i l o _ (e8 ho) (λe=>?_) λe=>?_
   .exact #[rfl,o,2*o+1,rfl,jr (m8 o jn),iJ (ax h2 (m8 o jn)),dA (e8 ho),e]
   .exact h l o h1 h3 h4 λ_=>e
 .rintro c st' ⟨rfl,l,o,rfl,h1,h2,h3,h4⟩;exact h l o h1 h3 h4 λz=>absurd z (by lia)
def rW {l r n x:Nat}(a:r-l<=n-x):r-(l+(r-l)/2+1)<=n-(x+1):=ax (m4 (gA (cA _ _) 1) r) (by rw[<-iH,<-iH];exact Nat.sub_le_sub_right a 1)
def rX {l r n x:Nat}(a:r-l<=n-x)(h:¬l >= r):l+(r-l)/2-l<=n-(x+1):=by rw[Nat.add_sub_cancel_left,<-iH];exact fA (aP (Nat.div_lt_self (gV (e8 h)) (by decide)) a)
def lK {l r:Nat}(h:¬l >= r):l+(r-l)/2<r:=by rw[gW];exact Nat.add_lt_of_lt_sub (Nat.div_lt_self (gV (e8 h)) (by decide))
def zc {Q:Option Nat->SortSt->Prop}{lo hi:Nat}{f:Nat->C2->StateT SortSt Sem (ForInStep C2)}{k:C2->StateT SortSt Sem (Option Nat)}
  (anti:∀ i j,i<=j->j<n->p j=true->p i=true) (h1:lo<=hi) (h2:hi<=n) (hl:∀ i,i<lo->p i=true) (hh:∀ i,hi<=i->i<n->p i=false)
  (f1:∀ x l r,l >= r->f x (none,l,r)=pure (.done (none,l,r)))
  (f2:∀ x l r (R:ForInStep C2->SortSt->Prop),l<r->r<=n->(p (l+(r-l)/2)=true->R (.yield (none,l+(r-l)/2+1,r)) st)->(p (l+(r-l)/2)=false->R (.yield (none,l,l+(r-l)/2)) st)->wpS M A E s (f x (none,l,r)) R st)
  (hk:∀ l r,k (none,l,r)=pure (some r))
  (h:∀ m,m<=n->(∀ i,i<m->p i=true)->(∀ i,m<=i->i<n->p i=false)->Q (some m) st):wpS M A E s (do let c <-forIn [:n] ((none,lo,hi):C2) f;k c) Q st:=by
 refine wpS_bind (wpS_mono (wpS_forRange (I:=λx c st'=>st'=st/\∃ l r,c=(none,l,r)/\l<=r/\r<=n/\r - l<=n - x/\(∀ i,i < l->p i=true)/\∀ i,r<=i->i < n->p i=false)
  (Q:=λc st'=>st'=st/\∃ m,c=(none,m,m)/\m<=n/\(∀ i,i<m->p i=true)/\∀ i,m<=i->i<n->p i=false) ?_ ?_ #[rfl,lo,hi,rfl,h1,h2,ax (eL _ _) h2,hl,hh]) ?_)
 .rintro x c st' _ hx ⟨rfl,l,r,rfl,a1,a2,a3,a4,a5⟩;by_cases hge:l >= r
  .rw[f1 x l r hge];have:=fO a1 hge;subst this;exact wpS_pure #[rfl,l,rfl,a2,a4,a5]
  .refine f2 x l r _ (e8 hge) a2 (λe=>?_) λe=>?_
   .exact #[rfl,_,r,rfl,lK hge,a2,rW a3,λi hi=>anti i _ (dA hi) (aP (lK hge) a2) e,a5]
   .refine #[rfl,l,_,rfl,cA _ _,ax (aZ (lK hge)) a2,rX a3 hge,a4,λi q1 q2=>?_];cases z:p i with
    | false=>rfl
    | true=>rw[anti _ i q1 q2 z]at e;cases e
 .rintro c st' ⟨rfl,l,r,rfl,a1,a2,a3,a4,a5⟩;have:l=r:=by lia
  subst this;exact #[rfl,l,rfl,a2,a4,a5]
 .rintro c st' ⟨rfl,m,rfl,a2,a4,a5⟩;rw[hk];exact wpS_pure (h m a2 a4 a5)
end
def tM:Bool->Keyed->Array Keyed->Nat->Nat->Nat->StateT SortSt Sem (Option Nat):=sortPriv% PySem.Builtin.gallop
section
variable {prog:Program}{w:World}{A:Around}{E:Value->Shared->Prop}{s:Shared}{κ:KeyKind}{kd:SortKind}
def bey (κ:KeyKind)(left:Bool)(key:Keyed)(arr:Array Keyed)(base i:Nat):Bool:=if left=true then κ.blt (kAt κ arr (base+i)) (ky κ key) else !κ.blt (ky κ key) (kAt κ arr (base+i))
def r6 {l o h:Nat}(a:l<o)(b:l<=h):h+1-min o (h+1)<=h-l:=ax (m4 (Nat.le_min.mpr #[a,iJ b]) _) (dn (Nat.add_sub_add_right _ _ _))
def r9 {l o h n:Nat}(a:l<o)(b:h+l<n):h+l+1<=h+min o (n-h):=cz (Nat.le_min.mpr #[a,kL (by rw[gW];exact b)]) h
def sf {o h n:Nat}(a:h<n):h+min o (n-h)<=n:=ax (cz (Nat.min_le_right _ _) _) (dn (fB (aZ a)))
def sg {i o h:Nat}(a:i<h+1-min o (h+1))(b:o<h+1):i<=h-o:=by rw[eh (aZ b),Nat.succ_sub (dA b)]at a;exact dA a
def si {i o h:Nat}(b:¬o<h+1):¬i<h+1-min o (h+1):=by rw[iI (cp b),Nat.sub_self];exact kM _
def EB {o h n i:Nat}(a:h<n)(b:¬o<n-h)(c:h+min o (n-h)<=i):¬i<n:=by rw[iI (cp b),fB (aZ a)]at c;exact jq c
def jK {st:SortSt}{key:Keyed}{arr:Array Keyed}{base n hint:Nat}{Q:Option Nat->SortSt->Prop}(hO:LtG prog w A s κ kd)(hkd:kindOf st=kd)(hkey:Keyd κ key)(hks:∀ q∈arr.toList,Keyd κ q)
  (hz:base+n<=arr.size) (hn:hint<n) (hU:Up κ arr base (base+n))
  (h:∀ m,m<=n->(∀ i,i<m->bey κ left key arr base i=true)->(∀ i,m<=i->i<n->bey κ left key arr base i=false)->Q (some m) st):wpS (model prog w) A E s (tM left key arr base n hint) Q st:=by
 have anti:∀ i j,i<=j->j<n->bey κ left key arr base j=true->bey κ left key arr base i=true:=by
  intro i j hij hj;have hle:=hU (base+i) (base+j) (cA _ _) (cz hij base) (dB hj base);unfold bey;cases left with
  | true=>
   simp only[if_true];intro e;exact KeyOrd.klt_of_kle_of_klt hle e
  | false=>
   simp only[cS,if_false];intro e;cases z:κ.blt (ky κ key) (kAt κ arr (base+i)) with
   | false=>rfl
   | true=>
    have:κ.blt (ky κ key) (kAt κ arr (base+j))=true:=KeyOrd.klt_of_klt_of_kle z hle;rw[this]at e;cases e
 have hb:∀ i (R:Option Bool->SortSt->Prop),i < n->R (some (bey κ left key arr base i)) st->wpS (model prog w) A E s (do
   let x <-elem' arr (base+i)
   if left=true then lt' x key else do
    let r <-lt' key x
    pure (Option.map (λb=>!b) r)) R st:=λi R hi hR=>by
  have hi':=aP (dB hi base) hz;refine wpS_bind (cD hi' ?_);have hkx:Keyd κ arr[base+i]:=hks _ (by simp);unfold bey at hR;rw[dw hi']at hR;cases left with
  | true=>
   rw[ae rfl]at hR ⊢;exact lt_G hO hkd hkx hkey hR
  | false=>
   rw[af (by decide)]at hR ⊢;exact wpS_bind (lt_G hO hkd hkey hkx (wpS_pure hR))
 refine wpS_bind (hb hint _ hn ?_);dsimp only;generalize bey κ left key arr base=p at *;cases e0:p hint with
 | true=>
  simp only[if_true];refine wpS_bind (Ez (p:=p) hn e0 (λx l o ho=>?_) (λx l o R ho r1 r2=>?_) λl o a1 a2 a3 a4=>?_)
  .dsimp only;rw[ae ho]
  .dsimp only;rw[af (gU ho)];refine wpS_bind (hb (hint+o) _ (Nat.add_lt_of_lt_sub' ho) ?_);dsimp only;cases e:p (hint+o) with
   | true=>exact wpS_pure (r1 e)
   | false=>exact wpS_pure (r2 e)
  .dsimp only;refine zc (p:=p) anti (r9 a1 a2) (sf hn) (λi hi=>anti i (hint+l) (dA hi) a2 a3) (λi q1 q2=>?_) (λx l r hge=>?_) (λx l r R q1 q2 r1 r2=>?_) (λ_ _=>rfl) h
   .by_cases ho:o<n-hint
    .cases z:p i with
     | false=>rfl
     | true=>
      have:=anti (hint+o) i (by rwa[eh (aZ ho)]at q1) q2 z;rw[a4 ho]at this;cases this
    .exact absurd q2 (EB hn ho q1)
   .dsimp only;rw[ae hge]
   .dsimp only;rw[af (gU q1)];refine wpS_bind (hb _ _ (aP (lK (gU q1)) q2) ?_);dsimp only;cases e:p (l+(r-l)/2) with
    | true=>exact wpS_pure (r1 e)
    | false=>exact wpS_pure (r2 e)
 | false=>
  simp only[cS,if_false];refine wpS_bind (EA (p:=p) hn e0 (λx l o ho=>?_) (λx l o R ho r1 r2=>?_) λl o a1 a2 a3 a4=>?_)
  .dsimp only;rw[ae ho]
  .dsimp only;rw[af (gU ho)];refine wpS_bind (hb (hint-o) _ (cN (eL _ _) hn) ?_);dsimp only;cases e:p (hint-o) with
   | true=>exact wpS_pure (r2 e)
   | false=>exact wpS_pure (r1 e)
  .dsimp only;refine zc (p:=p) anti (r6 a1 a2) (ax (eL _ _) (aZ hn)) (λi hi=>?_) (λi q1 q2=>?_) (λx l r hge=>?_) (λx l r R q1 q2 r1 r2=>?_) (λ_ _=>rfl) h
   .by_cases ho:o<hint+1
    .exact anti i (hint-o) (sg hi ho) (cN (eL _ _) hn) (a4 ho)
    .exact absurd hi (si ho)
   .cases z:p i with
    | false=>rfl
    | true=>
     have:=anti (hint-l) i q1 q2 z;rw[a3]at this;cases this
   .dsimp only;rw[ae hge]
   .dsimp only;rw[af (gU q1)];refine wpS_bind (hb _ _ (aP (lK (gU q1)) q2) ?_);dsimp only;cases e:p (l+(r-l)/2) with
    | true=>exact wpS_pure (r1 e)
    | false=>exact wpS_pure (r2 e)
end
end Tim
namespace Tim
open PySem PyProof.Rows
section
variable {κ:KeyKind}
def le (κ:KeyKind)(x y:Keyed):Prop:=κ.kle (ky κ x) (ky κ y)
def le_refl (x:Keyed):le κ x x:=KeyOrd.kle_refl _
def le_trans (h1:le κ x y)(h2:le κ y z):le κ x z:=KeyOrd.kle_trans h1 h2
abbrev SL (κ:KeyKind)(l:List Keyed):Prop:=l.Pairwise (le κ)
def SL.drop {l:List Keyed}(h:SL κ l)(n:Nat):SL κ (l.drop n):=h.sublist (List.drop_sublist n l)
def SL.take {l:List Keyed}(h:SL κ l)(n:Nat):SL κ (l.take n):=h.sublist (List.take_sublist n l)
def oi {xs:Array Keyed}{i:Nat}(h:i<xs.size):xs.toList.drop i=xs[i]::xs.toList.drop (i+1):=by
 have h':i<xs.toList.length:=by simpa using h
 rw[kO h'];simp
def ig {xs:Array Keyed}{i:Nat}(hs:SL κ xs.toList)(h:i<xs.size):∀ y∈xs.toList.drop i,le κ xs[i] y:=by
 intro y hy;have q:=hs.drop i;rw[oi h]at q hy;rcases aW.mp hy with rfl|hy
 .exact le_refl _
 .exact (sJ.mp q).1 y hy
def lL {xs:Array Keyed}{i k:Nat}{x:Keyed}(h:x∈(xs.toList.drop i).take k):∃ j,j<k/\i+j<xs.size/\xs[i+j]?=some x:=by
 obtain ⟨j,hj,e⟩:=List.mem_iff_getElem.mp h;have hj':=hj;rw[aT,eY,bH]at hj';refine #[j,by lia,by lia,?_];rw[m9,List.getElem_drop]at e;rw[eK (by lia)];simpa using e
def iY {xs:Array Keyed}{i:Nat}{x:Keyed}(h:xs[i]?=some x):kAt κ xs i=ky κ x:=by
 unfold kAt;rw[h]
def oj {xs:Array Keyed}(hs:SL κ xs.toList)(lo hi:Nat)(hh:hi<=xs.size):Up κ xs lo hi:=by
 intro i j h1 h2 h3;have hj:j<xs.size:=by lia
 have hi:i<xs.size:=by lia
 rw[dw hi,dw hj];refine ig hs hi _ ?_;rw[List.mem_iff_getElem];refine #[j-i,by rw[eY,bH];lia,?_];rw[List.getElem_drop];simp[show i+(j-i)=j by lia]
def EC (h:Up κ xs 0 xs.size):SL κ xs.toList:=by
 rw[SL,cT];intro i j hi hj hij;have hi':i<xs.size:=by simpa using hi
 have hj':j<xs.size:=by simpa using hj
 have:=h i j (bK _) (by lia) hj';rw[dw hi',dw hj']at this;simpa [le] using this
structure MI (κ:KeyKind)(a b:Array Keyed)(out:Array Keyed)(ia ib:Nat):Prop where
 perm:(out.toList++(a.toList.drop ia++b.toList.drop ib)).Perm (a.toList++b.toList)
 srt:SL κ out.toList
 low:∀ x∈out.toList,∀ y∈a.toList.drop ia++b.toList.drop ib,le κ x y
variable {a b out:Array Keyed}{ia ib:Nat}
def MI.goA {out':Array Keyed}{k:Nat}(h:MI κ a b out ia ib)(sa:SL κ a.toList)(ho:out'.toList=out.toList++(a.toList.drop ia).take k)(hle:∀ x∈(a.toList.drop ia).take k,∀ y∈b.toList.drop ib,le κ x y):MI κ a b out' (ia+k) ib:=by
 have e:a.toList.drop ia=(a.toList.drop ia).take k++a.toList.drop (ia+k):=by
  rw[<-ng,fb]
 have s1:=sa.drop ia;rw[e]at s1;obtain ⟨p1,p2,p3⟩:=c4.mp s1;refine #[?_,?_,?_]
 .have q:=h.perm;rw[e]at q;rw[ho];simpa [dq] using q
 .rw[ho];exact c4.mpr #[h.srt,p1,λx hx y hy=>h.low x hx y (eX _ (iK hy))]
 .intro x hx y hy;rw[ho]at hx;rcases bp.mp hx with hx|hx
  .refine h.low x hx y ?_;rcases bp.mp hy with hy|hy
   .refine eX _ ?_;rw[e];exact cn _ hy
   .exact cn _ hy
  .rcases bp.mp hy with hy|hy
   .exact p3 x hx y hy
   .exact hle x hx y hy
def MI.goB {out':Array Keyed}{k:Nat}(h:MI κ a b out ia ib)(sb:SL κ b.toList)(ho:out'.toList=out.toList++(b.toList.drop ib).take k)(hle:∀ x∈(b.toList.drop ib).take k,∀ y∈a.toList.drop ia,le κ x y):MI κ a b out' ia (ib+k):=by
 have e:b.toList.drop ib=(b.toList.drop ib).take k++b.toList.drop (ib+k):=by
  rw[<-ng,fb]
 have s1:=sb.drop ib;rw[e]at s1;obtain ⟨p1,p2,p3⟩:=c4.mp s1;refine #[?_,?_,?_]
 .have q:=h.perm;rw[e]at q;rw[ho];refine List.Perm.trans ?_ q;rw[dq];refine List.Perm.append_left _ ?_;rw[<-dq,<-dq];exact List.Perm.append_right _ nh
 .rw[ho];exact c4.mpr #[h.srt,p1,λx hx y hy=>h.low x hx y (cn _ (iK hy))]
 .intro x hx y hy;rw[ho]at hx;rcases bp.mp hx with hx|hx
  .refine h.low x hx y ?_;rcases bp.mp hy with hy|hy
   .exact eX _ hy
   .refine cn _ ?_;rw[e];exact cn _ hy
  .rcases bp.mp hy with hy|hy
   .exact hle x hx y hy
   .exact p3 x hx y hy
def lM {xs:Array Keyed}{i:Nat}(h:i<xs.size):(xs.toList.drop i).take 1=[xs[i]]:=by
 rw[oi h];rfl
def MI.pa (h:MI κ a b out ia ib)(sa:SL κ a.toList)(hia:ia<a.size)(hle:∀ y∈b.toList.drop ib,le κ a[ia] y):MI κ a b (out.push a[ia]) (ia+1) ib:=
 h.goA (k:=1) sa (by rw[lM hia,jt]) (by
  rw[lM hia];intro x hx;rw[aQ.mp hx];exact hle)
def MI.pb (h:MI κ a b out ia ib)(sb:SL κ b.toList)(hib:ib<b.size)(hle:∀ y∈a.toList.drop ia,le κ b[ib] y):MI κ a b (out.push b[ib]) ia (ib+1):=
 h.goB (k:=1) sb (by rw[lM hib,jt]) (by
  rw[lM hib];intro x hx;rw[aQ.mp hx];exact hle)
structure d3 (κ:KeyKind)(a b m:Array Keyed):Prop where
 perm:m.toList.Perm (a.toList++b.toList)
 srt:SL κ m.toList
def tN {xs:Array Keyed}{i k:Nat}:(xs.extract i (i+k)).toList=(xs.toList.drop i).take k:=by
 rw[ni,nj,Nat.add_sub_cancel_left]
def jL {xs:Array Keyed}{i:Nat}:(xs.extract i xs.size).toList=xs.toList.drop i:=by
 rw[ni,nj];exact bu (by rw[eY,bH];exact ai _)
def MI.done (h:MI κ a b out ia ib)(sa:SL κ a.toList)(hib:b.size<=ib):d3 κ a b (out++a.extract ia a.size++b.extract ib b.size):=by
 have e:b.toList.drop ib=[]:=eN (by rw[bH];exact hib);have e2:(out++a.extract ia a.size++b.extract ib b.size).toList=out.toList++(a.toList.drop ia++b.toList.drop ib):=by
  rw[dS,dS,jL,jL,dq]
 refine #[by rw[e2];exact h.perm,?_];rw[e2,e,bY];refine c4.mpr #[h.srt,sa.drop ia,λx hx y hy=>h.low x hx y (eX _ hy)]
def MI.doneA (h:MI κ a b out ia ib)(sb:SL κ b.toList)(hia:a.size<=ia):d3 κ a b (out++a.extract ia a.size++b.extract ib b.size):=by
 have e:a.toList.drop ia=[]:=eN (by rw[bH];exact hia);have e2:(out++a.extract ia a.size++b.extract ib b.size).toList=out.toList++(a.toList.drop ia++b.toList.drop ib):=by
  rw[dS,dS,jL,jL,dq]
 refine #[by rw[e2];exact h.perm,?_];rw[e2,e,nk];refine c4.mpr #[h.srt,sb.drop ib,λx hx y hy=>h.low x hx y (cn _ hy)]
def MI.last (h:MI κ a b out ia ib)(sa:SL κ a.toList)(sb:SL κ b.toList)(hl:∀ y∈b.toList,∀ x∈a.toList.drop ia,le κ y x):d3 κ a b (out++b.extract ib b.size++a.extract ia a.size):=by
 have e2:(out++b.extract ib b.size++a.extract ia a.size).toList=out.toList++(b.toList.drop ib++a.toList.drop ia):=by
  rw[dS,dS,jL,jL,dq]
 refine #[?_,?_]
 .rw[e2];exact (List.Perm.append_left _ nh).trans h.perm
 .rw[e2];refine c4.mpr #[h.srt,c4.mpr #[sb.drop ib,sa.drop ia,λx hx y hy=>hl x (sL hx) y hy],λx hx y hy=>h.low x hx y ?_];rcases bp.mp hy with q|q
  .exact cn _ q
  .exact eX _ q
end
end Tim
namespace Tim
open PySem PyProof.Rows
def zd:Array Keyed->Array Keyed->StateT SortSt Sem (Array Keyed):=sortPriv% PySem.Builtin.mergeLo
def ED:Nat->StateT SortSt Sem Unit:=sortPriv% PySem.Builtin.setMinGallop
structure SG (st st':SortSt):Prop where
 kind:kindOf st'=kindOf st
 arr:arrOf st'=arrOf st
 pend:pendingOf st'=pendingOf st
 failed:failedOf st'=failedOf st
def SG.refl (st:SortSt):SG st st:=#[rfl,rfl,rfl,rfl]
def SG.trans (h:SG s1 s2)(g:SG s2 s3):SG s1 s3:=#[g.kind.trans h.kind,g.arr.trans h.arr,g.pend.trans h.pend,g.failed.trans h.failed]
section
variable {prog:Program}{w:World}{A:Around}{E:Value->Shared->Prop}{s:Shared}{κ:KeyKind}{kd:SortKind}
def om {g:Nat}{st:SortSt}{Q:Unit->SortSt->Prop}(hg:SG st0 st)(h:∀ st',SG st0 st'->Q () st'):wpS (model prog w) A E s (ED g) Q st:=by
 refine wpS_modify (h _ (hg.trans #[rfl,rfl,rfl,rfl]))
def mp2 {P g:Prop}(k:P)(m:P->g):g:=m k
def zi {A x j i:Nat}(h:A+x<=j+i):A+(x+1)<=j+1+i:=by rw[sM];exact iJ h
def zg {A j i m:Nat}(w:A<=j+i)(h:i<=m):A<=j+1+m:=ax w (Nat.add_le_add (cA _ 1) h)
def ze {i z:Nat}(h:i<z):i+(z-i)<=z:=dn (fB (aZ h))
set_option maxHeartbeats 4000000 in
def EE {st:SortSt}{a b:Array Keyed}{Q:Array Keyed->SortSt->Prop}(hO:LtG prog w A s κ kd)(hkd:kindOf st=kd)(ka:∀ q∈a.toList,Keyd κ q)(kb:∀ q∈b.toList,Keyd κ q)(sa:SL κ a.toList)(sb:SL κ b.toList)
  (ha:0<a.size) (hb:0<b.size) (h0:∀ y∈a.toList,le κ b[0] y) (hl:∀ y∈b.toList,∀ i,i+1=a.size->∀ x∈a.toList.drop i,le κ y x)
  (h:∀ m st',d3 κ a b m->SG st st'->Q m st'):wpS (model prog w) A E s (zd a b) Q st:=by
 have m0:MI κ a b (List.toArray [b[0]]) 0 1:=by
  have z:MI κ a b (List.toArray []) 0 0:=#[by simp,by simp,by simp];have:=z.pb sb hb (by simpa using h0);simpa using this
 refine wpS_bind (iW ?_);dsimp only;refine wpS_bind (cD hb ?_);by_cases e1:1=b.size
 .rw[ae (by simpa using e1)];exact wpS_pure (h _ _ (m0.done sa (dn e1.symm)) (SG.refl st))
 rw[af (by simpa using e1)];by_cases e2:0+1=a.size
 .rw[ae (by simpa using e2)];exact wpS_pure (h _ _ (m0.last sa sb (λy hy x hx=>hl y hy 0 e2 x hx)) (SG.refl st))
 rw[af (by simpa using e2)];refine wpS_bind (wpS_get ?_);refine wpS_bind (wpS_mono (wpS_forRange (I:=λi c st'=>SG st st'/\∃ out ia ib g,c=(none,out,ia,ib,g)/\MI κ a b out ia ib/\ia+1 < a.size/\ib < b.size/\i+1<=ia+ib)
  (Q:=λc st'=>SG st st'/\∃ m r,c=(some m,r)/\d3 κ a b m) ?step ?fin #[SG.refl st,_,0,1,_,rfl,m0,cH ha e2,cH hb e1,ai _]) ?post)
 case post=>
  rintro c st' ⟨g,m,r,rfl,hm⟩;exact wpS_pure (h m st' hm g)
 case fin=>
  rintro c st' ⟨g,out,ia,ib,gg,rfl,hm,q1,q2,q3⟩;exact absurd q3 (by lia)
 case step=>
  rintro i c st1 _ hi ⟨g1,out,ia,ib,gg,rfl,hm,q1,q2,q3⟩;dsimp only;refine wpS_bind (wpS_mono (wpS_forRange (I:=λx c st'=>st'=st1/\∃ out' ia' ib' ca cb,c=(none,out',ia',ib',ca,cb)/\MI κ a b out' ia' ib'/\ia'+1 < a.size/\ib' < b.size/\ia+ib+x<=ia'+ib')
   (Q:=λc st'=>st'=st1/\((∃ m r,c=(some m,r)/\d3 κ a b m)\/∃ out' ia' ib' ca cb,c=(none,out',ia',ib',ca,cb)/\MI κ a b out' ia' ib'/\ia'+1<a.size/\ib'<b.size/\ia+ib+1<=ia'+ib')) ?istep ?ifin #[rfl,out,ia,ib,0,0,rfl,hm,q1,q2,by lia]) ?ipost)
  case ifin=>
   rintro c st' ⟨rfl,out',ia',ib',ca,cb,rfl,hm',r1,r2,r3⟩;exact #[rfl,.inr #[out',ia',ib',ca,cb,rfl,hm',r1,r2,by lia]]
  case istep=>
   rintro x c st' _ hx ⟨rfl,out',ia',ib',ca,cb,rfl,hm',r1,r2,r3⟩;dsimp only;refine wpS_bind (cD r2 (wpS_bind (cD (gB r1) (wpS_bind (lt_G hO (by rw[g1.kind];exact hkd) (kb _ (by simp)) (ka _ (by simp)) ?_)))));dsimp only;cases e:κ.blt (ky κ b[ib']) (ky κ (a[ia']'(gB r1))) with
   | true=>
    simp only[if_true];have hm2:=hm'.pb sb r2 (λy hy=>le_trans (show le κ b[ib'] (a[ia']'(gB r1)) from KeyOrd.kle_of_klt e) (ig sa (gB r1) y hy));refine wpS_bind (cD r2 ?_);by_cases z:ib'+1=b.size
    .rw[ae (by simpa using z)];exact wpS_pure #[rfl,.inl #[_,_,rfl,hm2.done sa (dn z.symm)]]
    .rw[af (by simpa using z)];split
     .exact wpS_pure #[rfl,.inr #[_,_,_,_,_,rfl,hm2,r1,cH r2 z,iJ (jo r3)]]
     .exact wpS_pure #[rfl,_,_,_,_,_,rfl,hm2,r1,cH r2 z,iJ r3]
   | false=>
    simp only[cS,if_false];have hm2:=hm'.pa sa (gB r1) (λy hy=>le_trans (show le κ (a[ia']'(gB r1)) b[ib'] from e) (ig sb r2 y hy));refine wpS_bind (cD (gB r1) ?_);by_cases z:ia'+1+1=a.size
    .rw[ae (by simpa using z)];exact wpS_pure #[rfl,.inl #[_,_,rfl,hm2.last sa sb (λy hy x hx=>hl y hy _ z x hx)]]
    .rw[af (by simpa using z)];split
     .exact wpS_pure #[rfl,.inr #[_,_,_,_,_,rfl,hm2,cH r1 z,r2,zi (x:=0) (jo r3)]]
     .exact wpS_pure #[rfl,_,_,_,_,_,rfl,hm2,cH r1 z,r2,zi r3]
  case ipost=>
   rintro c st' ⟨rfl,⟨m,r,rfl,hmm⟩|⟨out,ia',ib',ca,cb,rfl,hm,q1,q2,q4⟩⟩
   .exact wpS_pure #[g1,m,_,rfl,hmm]
   dsimp only;refine wpS_bind (iW ?_);refine wpS_bind (wpS_mono (wpS_forRange (I:=λx c st''=>SG st st''/\∃ out1 ia1 ib1 gg ca cb,c=(none,out1,ia1,ib1,gg,ca,cb)/\MI κ a b out1 ia1 ib1/\ia1+1 < a.size/\ib1 < b.size/\ia+ib+1<=ia1+ib1)
    (Q:=λc st''=>SG st st''/\((∃ m r,c=(some m,r)/\d3 κ a b m)\/∃ out1 ia1 ib1 gg ca cb,c=(none,out1,ia1,ib1,gg,ca,cb)/\MI κ a b out1 ia1 ib1/\ia1+1<a.size/\ib1<b.size/\ia+ib+1<=ia1+ib1)) ?jstep ?jfin #[g1,_,_,_,_,_,_,rfl,hm,q1,q2,q4]) ?jpost)
   case jfin=>
    rintro c st'' ⟨g2,out1,ia1,ib1,gg1,ca1,cb1,rfl,r⟩;exact #[g2,.inr #[_,_,_,_,_,_,rfl,r]]
   case jpost=>
    rintro c st'' ⟨g2,⟨m,r,rfl,hmm⟩|⟨out1,ia1,ib1,gg1,ca1,cb1,rfl,hm1,t1,t2,t3⟩⟩
    .exact wpS_pure #[g2,m,_,rfl,hmm]
    .dsimp only;exact wpS_bind (om g2 λst3 g3=>wpS_pure #[g3,_,_,_,_,rfl,hm1,t1,t2,by lia])
   case jstep=>
    rintro x c st'' _ hx ⟨g2,out1,ia1,ib1,gg1,ca1,cb1,rfl,hm1,t1,t2,t3⟩;dsimp only;apply mp2
    case m=>
     intro key;by_cases hg:gg1>1
     .rw[ae hg];generalize gg1-1=gg2
      revert gg2
      exact key
     .rw[af hg];generalize gg1=gg2
      revert gg2
      exact key
    intro gg2;refine wpS_bind (om g2 λst3 g3=>?_);have la:=gB t1;refine wpS_bind (cD t2 (wpS_bind (jK hO (by rw[g3.kind];exact hkd) (kb _ (by simp)) ka (ze la) (gV la) (oj sa _ _ (ze la)) λk k1 k2 k3=>?_)));dsimp only;have hmk:MI κ a b (out1++a.extract ia1 (ia1+k)) (ia1+k) ib1:=hm1.goA sa (by rw[dS,tN]) λx hx y hy=>by
     obtain ⟨j,j1,j2,j3⟩:=lL hx;have q:=k2 j j1;unfold bey at q;rw[af (by decide),iY j3,gX]at q;exact le_trans (show le κ x b[ib1] from q) (ig sb t2 y hy)
    have bk:∀ hq:ia1+k<a.size,∀ y∈a.toList.drop (ia1+k),le κ b[ib1] y:=λhq y hy=>by
     have q:=k3 k (ai _) (Nat.lt_sub_iff_add_lt'.mpr hq);unfold bey at q;rw[af (by decide),dw hq,sN]at q;exact le_trans (show le κ b[ib1] a[ia1+k] from KeyOrd.kle_of_klt q) (ig sa hq y hy)
    apply mp2
    case m=>
     by_cases hk:k>0
     .by_cases z:ia1+k+1=a.size
      .intro h;clear h;rw[ae hk,ae (by simpa using z)];exact wpS_pure #[g3,.inl #[_,_,rfl,hmk.last sa sb (λy hy x hx=>hl y hy _ z x hx)]]
      have z0:¬(ia1+k+1==a.size)=true:=by simpa using z
      by_cases z':ia1+k=a.size
      .intro h;clear h;rw[ae hk,af z0,ae (by simpa using z')];exact wpS_pure #[g3,.inl #[_,_,rfl,hmk.doneA sb (dn z'.symm)]]
      have z1:¬(ia1+k==a.size)=true:=by simpa using z'
      have l2:=cH ((Nat.le_sub_iff_add_le' (aZ la)).mp k1) z';have u2:=bk l2;have w1:=cH l2 z;have w3:=ax t3 (gA (cA ia1 k) ib1);intro key;rw[ae hk,af z0,af z1];refine (?_:MI κ a b (out1++a.extract ia1 (ia1+k)) (ia1+k) ib1->(∀ y∈a.toList.drop (ia1+k),le κ (b[ib1]'t2) y)->ia1+k+1<a.size->ia+ib+1<=ia1+k+ib1->_) hmk u2 w1 w3;generalize out1++a.extract ia1 (ia1+k)=out2;generalize ia1+k=ja;generalize k=cnt
      revert out2 ja cnt
      exact key
     .have e0:=nq hk;have u2:=bk (by rw[e0];exact la);rw[e0,fc]at u2;intro key;rw[af hk];refine (?_:MI κ a b out1 ia1 ib1->(∀ y∈a.toList.drop ia1,le κ (b[ib1]'t2) y)->ia1+1<a.size->ia+ib+1<=ia1+ib1->_) hm1 u2 t1 t3;generalize k=cnt;generalize ia1=ja;generalize out1=out2;exact key out2 ja cnt
    intro out2 ja cnt hm2 u2 w1 w3;refine wpS_bind (cD t2 ?_);have hm3:=hm2.pb sb t2 u2;by_cases z2:ib1+1=b.size
    .rw[ae (by simpa using z2)];exact wpS_pure #[g3,.inl #[_,_,rfl,hm3.done sa (dn z2.symm)]]
    .rw[af (by simpa using z2)];have lj:=gB w1;have lb:=cH t2 z2;refine wpS_bind (cD lj (wpS_bind (jK hO (by rw[g3.kind];exact hkd) (ka _ (by simp)) kb (ze lb) (gV lb) (oj sb _ _ (ze lb)) λk' c1 c2 c3=>?_)));dsimp only;have ge5:∀ hq:ib1+1+k'<b.size,le κ (a[ja]'lj) b[ib1+1+k']:=λhq=>by
      have q:=c3 k' (ai _) (Nat.lt_sub_iff_add_lt'.mpr hq);unfold bey at q;rw[ae rfl,dw hq]at q;exact q
     have hm4:MI κ a b (out2.push b[ib1]++b.extract (ib1+1) (ib1+1+k')) ja (ib1+1+k'):=hm3.goB sb (by rw[dS (ys:=b.extract (ib1+1) (ib1+1+k')),tN (xs:=b)]) λx hx y hy=>by
      obtain ⟨j,j1,j2,j3⟩:=lL hx;have q:=c2 j j1;unfold bey at q;rw[ae rfl,iY j3]at q;exact le_trans (show le κ x (a[ja]'lj) from KeyOrd.kle_of_klt q) (ig sa lj y hy)
     by_cases hk':k'>0
     .rw[ae hk'];by_cases z3:ib1+1+k'=b.size
      .rw[ae (by simpa using z3)];exact wpS_pure #[g3,.inl #[_,_,rfl,hm4.done sa (dn z3.symm)]]
      .rw[af (by simpa using z3)];have lc:=cH ((Nat.le_sub_iff_add_le' (aZ lb)).mp c1) z3;refine wpS_bind (cD lj ?_);have hm5:=hm4.pa sa lj λy hy=>le_trans (show le κ (a[ja]'lj) (b[ib1+1+k']'lc) from ge5 lc) (ig sb lc y hy);by_cases z4:ja+1+1=a.size
       .rw[ae (by simpa using z4)];exact wpS_pure #[g3,.inl #[_,_,rfl,hm5.last sa sb (λy hy x hx=>hl y hy _ z4 x hx)]]
       .rw[af (by simpa using z4)];split
        .exact wpS_pure #[g3,.inr #[_,_,_,_,_,_,rfl,hm5,cH w1 z4,lc,zg w3 (ax (cA _ 1) (cA _ _))]]
        .exact wpS_pure #[g3,_,_,_,_,_,_,rfl,hm5,cH w1 z4,lc,zg w3 (ax (cA _ 1) (cA _ _))]
     .rw[af hk'];have e0:=nq hk';subst e0
      replace hm4:=hm3
      refine wpS_bind (cD lj ?_);have hm5:=hm4.pa sa lj λy hy=>le_trans (show le κ (a[ja]'lj) (b[ib1+1]'lb) from ge5 lb) (ig sb lb y hy);by_cases z4:ja+1+1=a.size
      .rw[ae (by simpa using z4)];exact wpS_pure #[g3,.inl #[_,_,rfl,hm5.last sa sb (λy hy x hx=>hl y hy _ z4 x hx)]]
      .rw[af (by simpa using z4)];split
       .exact wpS_pure #[g3,.inr #[_,_,_,_,_,_,rfl,hm5,cH w1 z4,lb,zg w3 (cA _ 1)]]
       .exact wpS_pure #[g3,_,_,_,_,_,_,rfl,hm5,cH w1 z4,lb,zg w3 (cA _ 1)]
end
end Tim
namespace Tim
open PySem PyProof.Rows
section
variable {κ:KeyKind}{a b out:Array Keyed}{na nb:Nat}
structure MH (κ:KeyKind)(a b:Array Keyed)(out:Array Keyed)(na nb:Nat):Prop where
 perm:((a.toList.take na++b.toList.take nb)++out.toList.reverse).Perm (a.toList++b.toList)
 srt:SL κ out.toList.reverse
 high:∀ x∈out.toList.reverse,∀ y∈a.toList.take na++b.toList.take nb,le κ y x
def tO {l:List Keyed}{n m:Nat}(h:n<=m):l.take m=l.take n++(l.take m).drop n:=by
 have e:(l.take m).take n=l.take n:=by rw[List.take_take,eh h]
 rw[<-e,fb]
def MH.goA {out':Array Keyed}{n:Nat}(h:MH κ a b out na nb)(sa:SL κ a.toList)(hn:n<=na)(ho:out'.toList.reverse=(a.toList.take na).drop n++out.toList.reverse)(hle:∀ x∈(a.toList.take na).drop n,∀ y∈b.toList.take nb,le κ y x):MH κ a b out' n nb:=by
 have e:=tO (l:=a.toList) hn;have s1:=sa.take na;rw[e]at s1;obtain ⟨p1,p2,p3⟩:=c4.mp s1;refine #[?_,?_,?_]
 .refine List.Perm.trans ?_ h.perm;rw[ho,e,<-dq];refine List.Perm.append_right _ ?_;rw[dq,dq,<-e];exact List.Perm.append_left _ nh
 .rw[ho];exact c4.mpr #[p2,h.srt,λx hx y hy=>h.high y hy x (eX _ (sL hx))]
 .intro x hx y hy;rw[ho]at hx;rcases bp.mp hx with hx|hx
  .rcases bp.mp hy with hy|hy
   .exact p3 y hy x hx
   .exact hle x hx y hy
  .refine h.high x hx y ?_;rcases bp.mp hy with hy|hy
   .refine eX _ ?_;rw[e];exact eX _ hy
   .exact cn _ hy
def MH.goB {out':Array Keyed}{n:Nat}(h:MH κ a b out na nb)(sb:SL κ b.toList)(hn:n<=nb)(ho:out'.toList.reverse=(b.toList.take nb).drop n++out.toList.reverse)(hle:∀ x∈(b.toList.take nb).drop n,∀ y∈a.toList.take na,le κ y x):MH κ a b out' na n:=by
 have e:=tO (l:=b.toList) hn;have s1:=sb.take nb;rw[e]at s1;obtain ⟨p1,p2,p3⟩:=c4.mp s1;refine #[?_,?_,?_]
 .refine List.Perm.trans (List.Perm.of_eq ?_) h.perm;rw[ho,<-dq,dq (a.toList.take na),<-e]
 .rw[ho];exact c4.mpr #[p2,h.srt,λx hx y hy=>h.high y hy x (cn _ (sL hx))]
 .intro x hx y hy;rw[ho]at hx;rcases bp.mp hx with hx|hx
  .rcases bp.mp hy with hy|hy
   .exact hle x hx y hy
   .exact p3 y hy x hx
  .refine h.high x hx y ?_;rcases bp.mp hy with hy|hy
   .exact eX _ hy
   .refine cn _ ?_;rw[e];exact eX _ hy
def lN {xs:Array Keyed}{n:Nat}(h0:0<n)(h:n<=xs.size):(xs.toList.take n).drop (n-1)=[xs[n-1]'(by lia)]:=by
 have h':n-1<xs.size:=by lia
 rw[nr,show n-(n-1)=1 by lia,oi h'];rfl
def jM {xs:Array Keyed}{n:Nat}(hs:SL κ xs.toList)(h0:0<n)(h:n<=xs.size):∀ y∈xs.toList.take n,le κ y (xs[n-1]'(by lia)):=by
 intro y hy;have q:=hs.take n;rw[tO (l:=xs.toList) (show n-1<=n by lia),lN h0 h]at q hy;rcases bp.mp hy with hy|hy
 .exact (c4.mp q).2.2 y hy _ (aQ.mpr rfl)
 .rw[aQ.mp hy];exact le_refl _
def MH.pa (h:MH κ a b out na nb)(sa:SL κ a.toList)(h0:0<na)(hn:na<=a.size)(hle:∀ y∈b.toList.take nb,le κ y (a[na-1]'(by lia))):MH κ a b (out.push (a[na-1]'(by lia))) (na-1) nb:=
 h.goA (n:=na - 1) sa (by lia) (by rw[lN h0 hn,jt,nv];rfl) (by
  rw[lN h0 hn];intro x hx;rw[aQ.mp hx];exact hle)
def MH.pb (h:MH κ a b out na nb)(sb:SL κ b.toList)(h0:0<nb)(hn:nb<=b.size)(hle:∀ y∈a.toList.take na,le κ y (b[nb-1]'(by lia))):MH κ a b (out.push (b[nb-1]'(by lia))) na (nb-1):=
 h.goB (n:=nb - 1) sb (by lia) (by rw[lN h0 hn,jt,nv];rfl) (by
  rw[lN h0 hn];intro x hx;rw[aQ.mp hx];exact hle)
def jN {xs:Array Keyed}{n:Nat}:(xs.extract 0 n).toList=xs.toList.take n:=by
 rw[ni,nj,ny,Nat.sub_zero]
def zh {xs:Array Keyed}{n m:Nat}:(xs.extract n m).toList=(xs.toList.take m).drop n:=by
 rw[ni,nj,nr]
def MH.done (h:MH κ a b out na nb)(sb:SL κ b.toList)(hna:na=0):d3 κ a b (a.extract 0 na++b.extract 0 nb++out.reverse):=by
 have e2:(a.extract 0 na++b.extract 0 nb++out.reverse).toList=(a.toList.take na++b.toList.take nb)++out.toList.reverse:=by
  rw[dS,dS,jN,jN,kP]
 refine #[by rw[e2];exact h.perm,?_];rw[e2];subst hna;refine c4.mpr #[?_,h.srt,λx hx y hy=>h.high y hy x hx];rw[gY,nk];exact sb.take nb
def MH.doneB (h:MH κ a b out na nb)(sa:SL κ a.toList)(hnb:nb=0):d3 κ a b (a.extract 0 na++b.extract 0 nb++out.reverse):=by
 have e2:(a.extract 0 na++b.extract 0 nb++out.reverse).toList=(a.toList.take na++b.toList.take nb)++out.toList.reverse:=by
  rw[dS,dS,jN,jN,kP]
 refine #[by rw[e2];exact h.perm,?_];rw[e2];subst hnb;refine c4.mpr #[?_,h.srt,λx hx y hy=>h.high y hy x hx];rw[gY,bY];exact sa.take na
def MH.first (h:MH κ a b out na nb)(sa:SL κ a.toList)(sb:SL κ b.toList)(hl:∀ y∈b.toList.take nb,∀ x∈a.toList,le κ y x):d3 κ a b (b.extract 0 nb++a.extract 0 na++out.reverse):=by
 have e2:(b.extract 0 nb++a.extract 0 na++out.reverse).toList=(b.toList.take nb++a.toList.take na)++out.toList.reverse:=by
  rw[dS,dS,jN,jN,kP]
 refine #[?_,?_]
 .rw[e2];exact (List.Perm.append_right _ nh).trans h.perm
 .rw[e2];refine c4.mpr #[c4.mpr #[sb.take nb,sa.take na,λx hx y hy=>hl x hx y (iK hy)],h.srt,λx hx y hy=>h.high y hy x ?_];rcases bp.mp hx with q|q
  .exact cn _ q
  .exact eX _ q
end
def zj:Array Keyed->Array Keyed->StateT SortSt Sem (Array Keyed):=sortPriv% PySem.Builtin.mergeHi
end Tim
namespace Tim
open PySem PyProof.Rows
section
variable {prog:Program}{w:World}{A:Around}{E:Value->Shared->Prop}{s:Shared}{κ:KeyKind}{kd:SortKind}
def zy {m n z:Nat}(h:m<n)(g:n<=z):n-1<z:=aP (ef h) g
def EF {a b:Nat}(h:0<a):0+1+(a-1+b)<=a+b:=by rw[<-ju,fD,fB h];exact ai _
def tP {x m p q N:Nat}(h:x+(p+q)<=N)(r:m<p):x+1+(p-1+q)<=N:=by
 cases p with
 | zero=>cases r
 | succ p=>rw[kQ,ju,<-ju 1,gW 1];exact h
def zl {x p N:Nat}(h:x+1+p<=N):1+p<=N:=ax (gA (Nat.le_add_left 1 x) p) h
def zm {x m p q N:Nat}(h:x+(p+q)<=N)(r:m<q):x+1+(p+(q-1))<=N:=by
 rw[gW p]at h ⊢;exact tP h r
def oo {n:Nat}(h:1<n)(z:¬n-1=1):1<n-1:=cH (fA h) (aS z)
def iC {a b c N:Nat}(w:1+(a+b)<=N)(h:c<=b-1):1+(a-1+c)<=N:=ax (cz (Nat.add_le_add (eL _ _) (ax h (eL _ _))) 1) w
set_option maxHeartbeats 4000000 in
def EG {st:SortSt}{a b:Array Keyed}{Q:Array Keyed->SortSt->Prop}(hO:LtG prog w A s κ kd)(hkd:kindOf st=kd)(ka:∀ q∈a.toList,Keyd κ q)(kb:∀ q∈b.toList,Keyd κ q)(sa:SL κ a.toList)(sb:SL κ b.toList)
  (ha:0<a.size) (hb:0<b.size) (h0:∀ y∈a.toList,le κ b[0] y) (hl:∀ y∈b.toList,le κ y (a[a.size-1]'(ef ha)))
  (h:∀ m st',d3 κ a b m->SG st st'->Q m st'):wpS (model prog w) A E s (zj a b) Q st:=by
 have fst:∀ n,n<=1->∀ y∈b.toList.take n,∀ x∈a.toList,le κ y x:=λn hn y hy x hx=>by
  have hy':y∈b.toList.take 1:=by
   rcases Nat.lt_or_ge n 1 with z|z
   .rw[Nat.lt_one_iff.mp z]at hy;simp at hy
   .rwa[fO hn z]at hy
  have e:b.toList.take 1=[b[0]]:=by
   have:=lM hb;rwa[ny]at this
  rw[e]at hy';rw[aQ.mp hy'];exact h0 x hx
 have m0:MH κ a b (List.toArray [a[a.size-1]'(ef ha)]) (a.size-1) b.size:=by
  have z:MH κ a b (List.toArray []) a.size b.size:=#[by
   rw[bu (by simp),bu (by simp)];simp,by simp,by simp]
  have:=z.pa sa ha (ai _) (λy hy=>hl y (iK hy));simpa using this
 refine wpS_bind (iW ?_);dsimp only;refine wpS_bind (cD (ef ha) ?_);by_cases e1:a.size-1=0
 .rw[ae (by simpa using e1)];exact wpS_pure (h _ _ (m0.done sb e1) (SG.refl st))
 rw[af (by simpa using e1)];by_cases e2:b.size=1
 .rw[ae (by simpa using e2)];exact wpS_pure (h _ _ (m0.first sa sb (fst _ (dn e2))) (SG.refl st))
 rw[af (by simpa using e2)];refine wpS_bind (wpS_get ?_);refine wpS_bind (wpS_mono (wpS_forRange (I:=λi c st'=>SG st st'/\∃ na nb out g,c=(none,na,nb,out,g)/\MH κ a b out na nb/\0 < na/\na<=a.size/\1 < nb/\nb<=b.size/\i+1+(na+nb)<=a.size+b.size)
  (Q:=λc st'=>SG st st'/\∃ m r,c=(some m,r)/\d3 κ a b m) ?step ?fin #[SG.refl st,_,_,_,_,rfl,m0,eO e1,eL _ _,cH hb (aS e2),ai _,EF ha]) ?post)
 case post=>
  rintro c st' ⟨g,m,r,rfl,hm⟩;exact wpS_pure (h m st' hm g)
 case fin=>
  rintro c st' ⟨g,na,nb,out,gg,rfl,hm,q1,q2,q3,q4,q5⟩;exact absurd q5 (by lia)
 case step=>
  rintro i c st1 _ hi ⟨g1,na,nb,out,gg,rfl,hm,q1,q2,q3,q4,q5⟩;dsimp only;refine wpS_bind (wpS_mono (wpS_forRange (I:=λx c st'=>st'=st1/\∃ na' nb' out' ca cb,c=(none,na',nb',out',ca,cb)/\MH κ a b out' na' nb'/\0 < na'/\na'<=a.size/\1 < nb'/\nb'<=b.size/\x+(na'+nb')<=na+nb)
   (Q:=λc st'=>st'=st1/\((∃ m r,c=(some m,r)/\d3 κ a b m)\/∃ na' nb' out' ca cb,c=(none,na',nb',out',ca,cb)/\MH κ a b out' na' nb'/\0<na'/\na'<=a.size/\1<nb'/\nb'<=b.size/\1+(na'+nb')<=na+nb)) ?istep ?ifin #[rfl,na,nb,out,0,0,rfl,hm,q1,q2,q3,q4,by lia]) ?ipost)
  case ifin=>
   rintro c st' ⟨rfl,na',nb',out',ca,cb,rfl,hm',r1,r2,r3,r4,r5⟩;exact #[rfl,.inr #[_,_,_,ca,cb,rfl,hm',r1,r2,r3,r4,by lia]]
  case istep=>
   rintro x c st' _ hx ⟨rfl,na',nb',out',ca,cb,rfl,hm',r1,r2,r3,r4,r5⟩;dsimp only;refine wpS_bind (cD (zy r3 r4) (wpS_bind (cD (zy r1 r2) (wpS_bind (lt_G hO (by rw[g1.kind];exact hkd) (kb _ (by simp)) (ka _ (by simp)) ?_)))));dsimp only;cases e:κ.blt (ky κ (b[nb'-1]'(zy r3 r4))) (ky κ (a[na'-1]'(zy r1 r2))) with
   | true=>
    simp only[if_true];have hm2:=hm'.pa sa r1 r2 (λy hy=>le_trans (jM sb (gT r3) r4 y hy) (show le κ (b[nb'-1]'(zy r3 r4)) (a[na'-1]'(zy r1 r2)) from KeyOrd.kle_of_klt e));refine wpS_bind (cD (zy r1 r2) ?_);by_cases z:na'-1=0
    .rw[ae (by simpa using z)];exact wpS_pure #[rfl,.inl #[_,_,rfl,hm2.done sb z]]
    .rw[af (by simpa using z)];split
     .exact wpS_pure #[rfl,.inr #[_,_,_,_,_,rfl,hm2,eO z,aZ (zy r1 r2),r3,r4,zl (tP r5 r1)]]
     .exact wpS_pure #[rfl,_,_,_,_,_,rfl,hm2,eO z,aZ (zy r1 r2),r3,r4,tP r5 r1]
   | false=>
    simp only[cS,if_false];have hm2:=hm'.pb sb (gT r3) r4 (λy hy=>le_trans (jM sa r1 r2 y hy) (show le κ (a[na'-1]'(zy r1 r2)) (b[nb'-1]'(zy r3 r4)) from e));refine wpS_bind (cD (zy r3 r4) ?_);by_cases z:nb'-1=1
    .rw[ae (by simpa using z)];exact wpS_pure #[rfl,.inl #[_,_,rfl,hm2.first sa sb (fst _ (dn z))]]
    .rw[af (by simpa using z)];split
     .exact wpS_pure #[rfl,.inr #[_,_,_,_,_,rfl,hm2,r1,r2,oo r3 z,aZ (zy r3 r4),zl (zm r5 r3)]]
     .exact wpS_pure #[rfl,_,_,_,_,_,rfl,hm2,r1,r2,oo r3 z,aZ (zy r3 r4),zm r5 r3]
  case ipost=>
   rintro c st' ⟨rfl,⟨m,r,rfl,hmm⟩|⟨na',nb',out,ca,cb,rfl,hm,q1,q2,q3,q4,q6⟩⟩
   .exact wpS_pure #[g1,m,_,rfl,hmm]
   dsimp only;refine wpS_bind (iW ?_);refine wpS_bind (wpS_mono (wpS_forRange (I:=λx c st''=>SG st st''/\∃ na1 nb1 out1 gg ca cb,c=(none,na1,nb1,out1,gg,ca,cb)/\MH κ a b out1 na1 nb1/\0 < na1/\na1<=a.size/\1 < nb1/\nb1<=b.size/\1+(na1+nb1)<=na+nb)
    (Q:=λc st''=>SG st st''/\((∃ m r,c=(some m,r)/\d3 κ a b m)\/∃ na1 nb1 out1 gg ca cb,c=(none,na1,nb1,out1,gg,ca,cb)/\MH κ a b out1 na1 nb1/\0<na1/\na1<=a.size/\1<nb1/\nb1<=b.size/\1+(na1+nb1)<=na+nb)) ?jstep ?jfin #[g1,_,_,_,_,_,_,rfl,hm,q1,q2,q3,q4,q6]) ?jpost)
   case jfin=>
    rintro c st'' ⟨g2,na1,nb1,out1,gg1,ca1,cb1,rfl,r⟩;exact #[g2,.inr #[_,_,_,_,_,_,rfl,r]]
   case jpost=>
    rintro c st'' ⟨g2,⟨m,r,rfl,hmm⟩|⟨na1,nb1,out1,gg1,ca1,cb1,rfl,hm1,t1,t2,t3,t4,t5⟩⟩
    .exact wpS_pure #[g2,m,_,rfl,hmm]
    .dsimp only;exact wpS_bind (om g2 λst3 g3=>wpS_pure #[g3,_,_,_,_,rfl,hm1,t1,t2,t3,t4,by lia])
   case jstep=>
    rintro x c st'' _ hx ⟨g2,na1,nb1,out1,gg1,ca1,cb1,rfl,hm1,t1,t2,t3,t4,t5⟩;dsimp only;apply mp2
    case m=>
     intro key;by_cases hg:gg1>1
     .rw[ae hg];generalize gg1-1=gg2
      revert gg2
      exact key
     .rw[af hg];generalize gg1=gg2
      revert gg2
      exact key
    intro gg2;refine wpS_bind (om g2 λst3 g3=>?_);refine wpS_bind (cD (zy t3 t4) (wpS_bind (jK hO (by rw[g3.kind];exact hkd) (kb _ (by simp)) ka (by lia) (by lia) (oj sa _ _ (by lia)) λat0 k1 k2 k3=>?_)));dsimp only;have hmk:MH κ a b (out1++(a.extract at0 na1).reverse) at0 nb1:=hm1.goA sa k1 (by
     rw[dS,nv,kP,sO,zh]) λx hx y hy=>by
     rw[nr]at hx;obtain ⟨j,j1,j2,j3⟩:=lL hx;have q:=k3 (at0+j) (by lia) (by lia);unfold bey at q;rw[af (by decide),fD,iY j3,sN]at q;exact le_trans (jM sb (gT t3) t4 y hy) (show le κ (b[nb1-1]'(zy t3 t4)) x from KeyOrd.kle_of_klt q)
    have hnb:=zy t3 t4;have bk:∀ y∈a.toList.take at0,le κ y (b[nb1-1]'hnb):=λy hy=>by
     have hy':y∈(a.toList.drop 0).take at0:=by rw[ny];exact hy
     obtain ⟨j,j1,j2,j3⟩:=lL hy';have q:=k2 j j1;unfold bey at q;rw[af (by decide),iY j3,gX]at q;exact q
    apply mp2
    case m=>
     by_cases hk:na1-at0>0
     .by_cases z:at0=0
      .intro h;clear h;rw[ae hk,ae (by simpa using z)];exact wpS_pure #[g3,.inl #[_,_,rfl,hmk.done sb z]]
      have w1:=eO z;have w2:=ax k1 t2;have w3:=ax (cz (gA k1 nb1) 1) t5;have z0:¬(at0==0)=true:=by simpa using z
      intro key;rw[ae hk,af z0];refine (?_:MH κ a b (out1++(a.extract at0 na1).reverse) at0 nb1->(∀ y∈a.toList.take at0,le κ y (b[nb1-1]'hnb))->0<at0->at0<=a.size->1+(at0+nb1)<=na+nb->_) hmk bk w1 w2 w3;generalize out1++(a.extract at0 na1).reverse=out2;generalize na1-at0=cnt;generalize at0=na2
      revert out2 cnt na2
      exact key
     .have e0:=fO k1 (sP (nq hk));rw[e0]at bk;intro key;rw[af hk];refine (?_:MH κ a b out1 na1 nb1->(∀ y∈a.toList.take na1,le κ y (b[nb1-1]'hnb))->0<na1->na1<=a.size->1+(na1+nb1)<=na+nb->_) hm1 bk t1 t2 t5;generalize na1-at0=cnt;generalize na1=na2;generalize out1=out2;exact key out2 cnt na2
    intro out2 cnt na2 hm2 u2 w1 w2 w3;refine wpS_bind (cD hnb ?_);have hm3:=hm2.pb sb (gT t3) t4 u2;by_cases z2:nb1-1=1
    .rw[ae (by simpa using z2)];exact wpS_pure #[g3,.inl #[_,_,rfl,hm3.first sa sb (fst _ (dn z2))]]
    .rw[af (by simpa using z2)];refine wpS_bind (cD (zy w1 w2) (wpS_bind (jK hO (by rw[g3.kind];exact hkd) (ka _ (by simp)) kb (by lia) (by lia) (oj sb _ _ (by lia)) λat' c1 c2 c3=>?_)));dsimp only;have lt5:∀ hq:0<at',le κ (b[at'-1]'(zy hq (ax c1 (aZ hnb)))) (a[na2-1]'(zy w1 w2)):=λhq=>by
      have q:=c2 (at'-1) (ef hq);unfold bey at q;rw[ae rfl,fD,dw (zy hq (ax c1 (aZ hnb)))]at q;exact KeyOrd.kle_of_klt q
     have hm4:MH κ a b (out2.push (b[nb1 - 1]'hnb)++(b.extract at' (nb1 - 1)).reverse) na2 at':=hm3.goB sb c1 (by
      rw[dS (ys:=(b.extract at' (nb1-1)).reverse),nv,kP,sO,zh]) λx hx y hy=>by
      rw[nr]at hx;obtain ⟨j,j1,j2,j3⟩:=lL hx;have q:=c3 (at'+j) (by lia) (by lia);unfold bey at q;rw[ae rfl,fD,iY j3]at q;exact le_trans (jM sa w1 w2 y hy) (show le κ (a[na2-1]'(zy w1 w2)) x from q)
     by_cases hk':nb1-1-at'>0
     .rw[ae hk'];by_cases z3:at'=1
      .rw[ae (by simpa using z3)];exact wpS_pure #[g3,.inl #[_,_,rfl,hm4.first sa sb (fst _ (dn z3))]]
      rw[af (by simpa using z3)];by_cases z3':at'=0
      .rw[ae (by simpa using z3')];exact wpS_pure #[g3,.inl #[_,_,rfl,hm4.doneB sa z3']]
      rw[af (by simpa using z3')];refine wpS_bind (cD (zy w1 w2) ?_);have c5:=eO z3';have hm5:=hm4.pa sa w1 w2 λy hy=>le_trans (jM sb c5 (ax c1 (aZ hnb)) y hy) (lt5 c5);by_cases z4:na2-1=0
      .rw[ae (by simpa using z4)];exact wpS_pure #[g3,.inl #[_,_,rfl,hm5.done sb z4]]
      .rw[af (by simpa using z4)];split
       .exact wpS_pure #[g3,.inr #[_,_,_,_,_,_,rfl,hm5,eO z4,aZ (zy w1 w2),cH c5 (aS z3),ax c1 (aZ hnb),iC w3 c1]]
       .exact wpS_pure #[g3,_,_,_,_,_,_,rfl,hm5,eO z4,aZ (zy w1 w2),cH c5 (aS z3),ax c1 (aZ hnb),iC w3 c1]
     .rw[af hk'];have e0:=fO c1 (sP (nq hk'));subst e0
      replace hm4:=hm3
      refine wpS_bind (cD (zy w1 w2) ?_);have c5:=gV t3;have hm5:=hm4.pa sa w1 w2 λy hy=>le_trans (jM sb c5 (aZ hnb) y hy) (lt5 c5);by_cases z4:na2-1=0
      .rw[ae (by simpa using z4)];exact wpS_pure #[g3,.inl #[_,_,rfl,hm5.done sb z4]]
      .rw[af (by simpa using z4)];split
       .exact wpS_pure #[g3,.inr #[_,_,_,_,_,_,rfl,hm5,eO z4,aZ (zy w1 w2),oo t3 z2,aZ hnb,iC w3 c1]]
       .exact wpS_pure #[g3,_,_,_,_,_,_,rfl,hm5,eO z4,aZ (zy w1 w2),oo t3 z2,aZ hnb,iC w3 c1]
end
end Tim
namespace Tim
open PySem PyProof.Rows
section
variable {κ:KeyKind}
def eG {s k n:Nat}(a:k<=n):s+k+(n-k)=s+n:=by rw[ju,fB a]
def cM {b i m:Nat}(h:b<=i)(g:i<b+m):i-b<m:=m5 h g
def seg (xs:Array Keyed)(lo n:Nat):List Keyed:=(xs.toList.drop lo).take n
def lO {xs:Array Keyed}{lo n i:Nat}(h:lo+n<=xs.size)(hi:i<n):(seg xs lo n)[i]?=xs[lo+i]?:=by
 unfold seg;rw[jv,ae hi,nz,eP]
def jO {xs:Array Keyed}{lo n:Nat}(h:lo+n<=xs.size):(seg xs lo n).length=n:=by
 unfold seg;rw[aT,eY,bH];exact eh (m6 h)
def zo {xs:Array Keyed}{lo n:Nat}(h:lo+n<=xs.size)(hU:Up κ xs lo (lo+n)):SL κ (seg xs lo n):=by
 rw[SL,cT];intro i j hi hj hij;have hi':=hi;have hj':=hj;rw[jO h]at hi' hj';have li:=aP (dB hi' lo) h;have lj:=aP (dB hj' lo) h;have e1:(seg xs lo n)[i]=xs[lo+i]'li:=by
  have:=lO h hi';rw[az hi,eK li]at this;exact aJ this
 have e2:(seg xs lo n)[j]=xs[lo+j]'lj:=by
  have:=lO h hj';rw[az hj,eK lj]at this;exact aJ this
 rw[e1,e2];have:=hU (lo+i) (lo+j) (cA _ _) (cz (aZ hij) lo) (dB hj' lo);rw[dw li,dw lj]at this;exact this
def EH {lo:Nat}:seg xs lo (n+m)=seg xs lo n++seg xs (lo+n) m:=by
 unfold seg;rw[List.take_add,ng]
def oq {lo:Nat}:(xs.extract lo (lo+n)).toList=seg xs lo n:=tN
def EI {xs:Array Keyed}{lo n:Nat}(h:lo+n<=xs.size):xs.toList=xs.toList.take lo++(seg xs lo n++xs.toList.drop (lo+n)):=by
 unfold seg;rw[<-ng,fb,fb]
def back (xs:Array Keyed)(lo:Nat)(m:Array Keyed):Array Keyed:=m.toList.zipIdx.foldl (λa (q:Keyed×Nat)=>a.setIfInBounds (lo+q.2) q.1) xs
def tQ (lo:Nat):∀(l:List Keyed) (k:Nat) (xs:Array Keyed),lo+k+l.length<=xs.size->∀ i:Nat,
  ((l.zipIdx k).foldl (λa (q:Keyed×Nat)=>a.setIfInBounds (lo+q.2) q.1) xs)[i]?=if lo+k<=i/\i<lo+k+l.length then l[i-(lo+k)]? else xs[i]?
 | [],k,xs,h,i=>by
  rw[af λq=>jq q.1 q.2];rfl
 | x::l,k,xs,h,i=>by
  rw[cE]at h;rw[List.zipIdx_cons,nA,tQ lo l (k+1) (xs.setIfInBounds (lo+k) x) (by rw[Array.size_setIfInBounds];lia) i,cE];by_cases h1:lo+(k+1)<=i/\i<lo+(k+1)+l.length
  .rw[ae h1,ae (by lia),show i-(lo+k)=(i-(lo+(k+1)))+1 from (Nat.succ_pred_eq_of_pos (gV h1.1)).symm,kR]
  .rw[af h1,Array.getElem?_setIfInBounds];by_cases h2:lo+k=i
   .rw[ae h2,ae (by lia),ae (by lia)];subst h2;simp
   .rw[af h2,af (by lia)]
def EJ {xs m:Array Keyed}{lo:Nat}(h:lo+m.size<=xs.size):(back xs lo m).toList=xs.toList.take lo++(m.toList++xs.toList.drop (lo+m.size)):=by
 apply f6;intro i;have q:=tQ lo m.toList 0 xs h i;unfold back;rw[eP,q,bH,fc];have l1:(xs.toList.take lo).length=lo:=by rw[aT,bH];exact eh (ax (cA _ _) h)
 by_cases h1:i<lo
 .rw[af λz=>jq z.1 h1,gS (by rw[l1];exact h1),jv,ae h1,eP]
 .rw[fM (by rw[l1];exact cp h1),l1];by_cases h2:i<lo+m.size
  .rw[ae #[cp h1,h2],gS (by rw[bH];exact cM (cp h1) h2)]
  .rw[af λz=>h2 z.2,fM (by rw[bH];exact m6 (cp h2)),bH,nz,show lo+m.size+(i-lo-m.size)=i by rw[iH];exact fB (cp h2),eP]
def lP {xs m:Array Keyed}{lo:Nat}(h:lo+m.size<=xs.size)(i:Nat):(back xs lo m)[i]?=if lo<=i/\i<lo+m.size then m[i-lo]? else xs[i]?:=by
 have q:=tQ lo m.toList 0 xs h i;rw[bH,fc,eP]at q;exact q
def ou {xs:Array Keyed}{lo n:Nat}{p:Keyed}(h:lo+n<=xs.size)(hp:p∈seg xs lo n):∃ q,lo<=q/\q<lo+n/\xs[q]?=some p:=by
 obtain ⟨i,hi,e⟩:=dC hp;have hi':=hi;rw[jO h]at hi';refine #[lo+i,cA _ _,dB hi' lo,?_];rw[<-lO h hi',az hi,e]
def EK {xs:Array Keyed}{sa na nb k nb':Nat}(hz:sa+na+nb<=xs.size)(ua:Up κ xs sa (sa+na))(ub:Up κ xs (sa+na) (sa+na+nb))(hk:k<na)(hnb:nb'<=nb)(hb0:0<nb')
  (k2:∀ i,i<k->κ.kle (kAt κ xs (sa+i)) (kAt κ xs (sa+na))) (c3:∀ i,nb'<=i->i<nb->κ.kle (kAt κ xs (sa+na-1)) (kAt κ xs (sa+na+i)))
  (hm:d3 κ (xs.extract (sa+k) (sa+na)) (xs.extract (sa+na) (sa+na+nb')) m) :
  Off xs (back xs (sa+k) m) sa (sa+(na+nb))/\Up κ (back xs (sa+k) m) sa (sa+(na+nb)):=by
 have zk:=eG (s:=sa) (aZ hk);have ex:(xs.extract (sa+k) (sa+na)).toList=seg xs (sa+k) (na-k):=by
  have:=oq (xs:=xs) (lo:=sa+k) (n:=na-k);rwa[zk]at this
 have ey:(xs.extract (sa+na) (sa+na+nb')).toList=seg xs (sa+na) nb':=oq;have hp:=hm.perm;rw[ex,ey]at hp;have hz':sa+na+nb'<=xs.size:=ax (cz hnb _) hz;have ms:m.size=na-k+nb':=by
  have:=hp.length_eq;rw[bH,bc,jO (by rw[zk];exact ax (cA _ _) hz),jO hz']at this;exact this
 have hs:sa+k+m.size=sa+na+nb':=by rw[ms,<-ju,zk]
 have hzm:sa+k+m.size<=xs.size:=by rw[hs];exact hz'
 have bl:=EJ hzm;have mid:seg xs (sa+k) m.size=seg xs (sa+k) (na-k)++seg xs (sa+na) nb':=by
  rw[ms,EH,zk]
 have perm:(back xs (sa+k) m).toList.Perm xs.toList:=by
  have e:=EI hzm;rw[mid]at e;refine (List.Perm.of_eq bl).trans (List.Perm.trans ?_ (List.Perm.of_eq e.symm));exact List.Perm.append_left _ (List.Perm.append_right _ hp)
 have inm:∀ i,sa+k<=i->i<sa+k+m.size->∃ q,sa+k<=q/\q<sa+na+nb'/\kAt κ (back xs (sa+k) m) i=kAt κ xs q:=by
  intro i h1 h2;have g:=lP hzm i;rw[ae #[h1,h2],eK (cM h1 h2)]at g;have hmem:m[i-(sa+k)]'(cM h1 h2)∈m.toList:=by simp
  rcases bp.mp (hp.mem_iff.mp hmem) with z|z
  .obtain ⟨q,q1,q2,e⟩:=ou (by rw[zk];exact ax (cA _ _) hz) z;exact #[q,q1,aP q2 (by rw[zk];exact cA _ _),gf (g.trans e.symm)]
  .obtain ⟨q,q1,q2,e⟩:=ou hz' z;exact #[q,ax (cz (aZ hk) _) q1,q2,gf (g.trans e.symm)]
 clear zk ms mid ex ey hp;have outm:∀ i,(i<sa+k\/sa+k+m.size<=i)->kAt κ (back xs (sa+k) m) i=kAt κ xs i:=λi h=>gf (by rw[lP hzm,af λz=>h.elim (jq z.1) (gU z.2)]);have am:∀ i q,sa<=i->i<sa+k->sa+k<=q->q<sa+na+nb->κ.kle (kAt κ xs i) (kAt κ xs q):=λi q h1 h2 h3 h4=>by
  by_cases z:q<sa+na
  .exact ua i q h1 (ax (aZ h2) h3) z
  .have t:=k2 (i-sa) (cM h1 h2);rw[fB h1]at t;exact KeyOrd.kle_trans t (ub _ q (ai _) (cp z) h4)
 have mc:∀ q j,sa+k<=q->q<sa+na+nb'->sa+na+nb'<=j->j<sa+na+nb->κ.kle (kAt κ xs q) (kAt κ xs j):=λq j h1 h2 h3 h4=>by
  by_cases z:q<sa+na
  .have t:=c3 (j-(sa+na)) (m6 h3) (cM (jo h3) h4);rw[fB (jo h3)]at t;exact KeyOrd.kle_trans (ua q (sa+na-1) (jo h1) (fA z) (ef z)) t
  .exact ub q j (cp z) (ax (aZ h2) h3) h4
 rw[<-ju];refine #[#[sI.mpr perm,λi hi=>by rw[lP hzm,af (by lia)]],λi j h1 h2 h3=>?_];by_cases i1:i<sa+k
 .rw[outm i (.inl i1)];by_cases j1:j<sa+k
  .rw[outm j (.inl j1)];exact ua i j h1 h2 (by lia)
  .by_cases j2:j<sa+k+m.size
   .obtain ⟨q,q1,q2,e⟩:=inm j (cp j1) j2;rw[e];exact am i q h1 i1 q1 (aP q2 (cz hnb _))
   .rw[outm j (.inr (cp j2))];exact am i j h1 i1 (cp j1) h3
 .by_cases i2:i<sa+k+m.size
  .by_cases j2:j<sa+k+m.size
   .by_cases e:i=j
    .subst e;exact KeyOrd.kle_refl _
    .have gi:=lP hzm i;have gj:=lP hzm j;have i3:=cp i1;have j3:=ax i3 h2;rw[ae #[i3,i2]]at gi;rw[ae #[j3,j2]]at gj;rw[gf gi,gf gj,dw (cM i3 i2),dw (cM j3 j2)];have:=cT.mp hm.srt (i-(sa+k)) (j-(sa+k)) (cM i3 i2) (cM j3 j2) (Nat.sub_lt_sub_right i3 (cH h2 e));simpa [le] using this
   .obtain ⟨q,q1,q2,e⟩:=inm i (cp i1) i2;rw[e,outm j (.inr (cp j2))];exact mc q j q1 q2 (by rw[<-hs];exact cp j2) h3
  .rw[outm i (.inr (by lia)),outm j (.inr (by lia))];exact ub i j (by lia) h2 (by lia)
def zp {na nb:Nat}(ua:Up κ xs sa (sa+na))(ub:Up κ xs (sa+na) (sa+na+nb))(hna:0<na)(hle:κ.kle (kAt κ xs (sa+na-1)) (kAt κ xs (sa+na))):Up κ xs sa (sa+(na+nb)):=by
 intro i j h1 h2 h3;by_cases z:j<sa+na
 .exact ua i j h1 h2 z
 .by_cases y:i<sa+na
  .exact KeyOrd.kle_trans (ua i (sa+na-1) h1 (fA y) (ef y)) (KeyOrd.kle_trans hle (ub (sa+na) j (ai _) (by lia) (by lia)))
  .exact ub i j (by lia) h2 (by lia)
end
end Tim
namespace Tim
open PySem PyProof.Rows
def EL (i:Nat):mergeAt' i=(do
 let s <-get
 let (some (sa,na,power),some (sb,nb,_)):=((pendingOf s)[i]?,(pendingOf s)[i+1]?)|unsupported "internal:list.sort.pending"
 set (setPending s (((pendingOf s).setIfInBounds i (sa,na+nb,power)).eraseIdxIfInBounds (i+1)))
 let some k <-tM false (<-elem' (arrOf s) sb) (arrOf s) sa na 0|return false
 let (sa,na):=(sa+k,na-k)
 if na==0 then return true
 let some nb <-tM true (<-elem' (arrOf s) (sa+na-1)) (arrOf s) sb nb (nb-1)|return false
 if nb==0 then return true
 let x:=(arrOf s).extract sa sb
 let y:=(arrOf s).extract sb (sb+nb)
 let merged <-if na<=nb then zd x y else zj x y
 modify λs=>setArr s (merged.toList.zipIdx.foldl (λa (p,j)=>a.setIfInBounds (sa+j) p) (arrOf s))
 return (failedOf (<-get)).isNone):=rfl
section
variable {prog:Program}{w:World}{A:Around}{E:Value->Shared->Prop}{s:Shared}{κ:KeyKind}{kd:SortKind}
def EM {Z:Type}{x:Z}{Q:PUnit->Z->Prop}{st:Z}(h:Q #[] x):wpS (model prog w) A E s (set x:StateT Z Sem PUnit) Q st:=by
 unfold wpS;rw[StateT.run_set];exact aA #[rfl,h]
def sk {s k n:Nat}(a:k<=n):s+k+(n-k)-1=s+n-1:=by rw[eG a]
def so {s k n z:Nat}(a:k<=n)(b:s+n<z):s+k+(n-k)-1<z:=by rw[eG a];exact cN (eL _ _) b
def jg {s k n z:Nat}(a:k<=n)(b:s+n<z):s+k+(n-k)<=z:=by rw[eG a];exact aZ b
def kH {s k n j:Nat}(b:j<s+k+(n-k))(a:k<=n):j<s+n:=by rw[eG a]at b;exact b
def sv {s k n j:Nat}(b:j<s+k+(n-k))(a:k<=n)(c:s+k<=j):j-s<n:=m5 (ax (cA _ _) c) (kH b a)
def mT {s k n X z i:Nat}(e:X=n-k)(a:k<=n)(c:i<X)(b:s+n<z):s+k+i<z:=aP (dB c _) (by rw[e,eG a];exact aZ b)
set_option maxHeartbeats 4000000 in
def EN {st:SortSt}{N i sa na pa nb pb:Nat}{Q:Bool->SortSt->Prop}(hO:LtG prog w A s κ kd)(hB:TB κ kd N st)
  (h1:(pendingOf st)[i]?=some (sa,na,pa)) (h2:(pendingOf st)[i+1]?=some (sa+na,nb,pb)) (hna:0<na) (hnb:0<nb) (hz:sa+na+nb<=N)
  (ua:Up κ (arrOf st) sa (sa+na)) (ub:Up κ (arrOf st) (sa+na) (sa+na+nb))
  (h:∀ st',TB κ kd N st'->Off (arrOf st) (arrOf st') sa (sa+(na+nb))->Up κ (arrOf st') sa (sa+(na+nb))->pendingOf st'=((pendingOf st).setIfInBounds i (sa,na+nb,pa)).eraseIdxIfInBounds (i+1)->Q true st') :
  wpS (model prog w) A E s (mergeAt' i) Q st:=by
 have hsz:=hB.size;rw[EL];refine wpS_bind (wpS_get ?_);rw[h1,h2];dsimp only;refine wpS_bind (EM ?_);generalize hp:((pendingOf st).setIfInBounds i (sa,na+nb,pa)).eraseIdxIfInBounds (i+1)=pend at h;have same:∀ st',SG (setPending st pend) st'->TB κ kd N st'/\arrOf st'=arrOf st/\pendingOf st'=pend:=λst' g=>by
  have ga:arrOf st'=arrOf st:=g.arr;refine #[#[g.kind.trans hB.kind,by rw[ga];exact hB.keys,g.failed.trans hB.failed,by rw[ga];exact hB.size],ga,g.pend]
 obtain ⟨B0,_,_⟩:=same _ (SG.refl _);have hz':sa+na+nb<=(arrOf st).size:=by rw[hsz];exact hz
 have hbz:=aP (mZ hnb) hz';refine wpS_bind (cD hbz ?_);refine wpS_bind (jK hO B0.kind (hB.keys _ (by simp)) hB.keys (aZ hbz) hna ua λk k1 k2 k3=>?_);dsimp only;have kk:kAt κ (arrOf st) (sa+na)=ky κ (arrOf st)[sa+na]:=dw hbz;have k2':∀ i,i<k->κ.kle (kAt κ (arrOf st) (sa+i)) (kAt κ (arrOf st) (sa+na)):=λi hi=>by
  have:=k2 i hi;unfold bey at this;simp only[cS,if_false,gX]at this;rw[kk];exact this
 have k3':∀ i,k<=i->i<na->κ.klt (kAt κ (arrOf st) (sa+na)) (kAt κ (arrOf st) (sa+i)):=λi hi hj=>by
  have:=k3 i hi hj;unfold bey at this;simp only[cS,if_false,sN]at this;rw[kk];exact this
 by_cases e1:na-k=0
 .rw[ae (by simpa using e1)];obtain ⟨b1,b2,b3⟩:=same _ (SG.refl _);refine wpS_pure (h _ b1 (by rw[b2];exact Off.refl _ _ _) ?_ b3);rw[b2];refine zp ua ub hna ?_;have:=k2' (na-1) (aP (ef hna) (sP e1));rwa[<-Nat.add_sub_assoc hna]at this
 rw[af (by simpa using e1)];have ek:=Nat.lt_of_sub_ne_zero e1;have e2:sa+k+(na-k)-1=sa+na-1:=sk k1;have hlz:sa+k+(na-k)-1<(arrOf st).size:=so k1 hbz;refine wpS_bind (cD hlz ?_);refine wpS_bind (jK hO B0.kind (hB.keys _ (by simp)) hB.keys hz' (ef hnb) ub λc c1 c2 c3=>?_);dsimp only;have ck:ky κ ((arrOf st)[sa+k+(na-k)-1]'hlz)=kAt κ (arrOf st) (sa+na-1):=by
  rw[<-dw hlz,e2]
 have c2':∀ i,i<c->κ.klt (kAt κ (arrOf st) (sa+na+i)) (kAt κ (arrOf st) (sa+na-1)):=λi hi=>by
  have:=c2 i hi;unfold bey at this;simp only[if_true]at this;rw[<-ck];exact this
 have c3':∀ i,c<=i->i<nb->κ.kle (kAt κ (arrOf st) (sa+na-1)) (kAt κ (arrOf st) (sa+na+i)):=λi hi hj=>by
  have:=c3 i hi hj;unfold bey at this;simp only[if_true]at this;rw[<-ck];exact this
 by_cases e3:c=0
 .rw[ae (by simpa using e3)];obtain ⟨b1,b2,b3⟩:=same _ (SG.refl _);refine wpS_pure (h _ b1 (by rw[b2];exact Off.refl _ _ _) ?_ b3);rw[b2];exact zp ua ub hna (c3' 0 (dn e3) hnb)
 rw[af (by simpa using e3)];generalize hX:(arrOf st).extract (sa+k) (sa+na)=X;generalize hY:(arrOf st).extract (sa+na) (sa+na+c)=Y;have xl:X.toList=seg (arrOf st) (sa+k) (na-k):=by
  have:=oq (xs:=arrOf st) (lo:=sa+k) (n:=na-k);rw[<-hX];rwa[show sa+k+(na-k)=sa+na from eG k1]at this
 have yl:Y.toList=seg (arrOf st) (sa+na) c:=by rw[<-hY];exact oq
 have xz:X.size=na-k:=by
  have:=congrArg List.length xl;rwa[bH,jO (jg k1 hbz)]at this
 have hc:=ax (cz c1 (sa+na)) hz';have yz:Y.size=c:=by
  have:=congrArg List.length yl;rwa[bH,jO hc]at this
 have xg:∀ i (hi:i<X.size),X[i]=(arrOf st)[sa+k+i]'(mT xz k1 hi hbz):=λi hi=>by
  have e:X[i]?=(arrOf st)[sa+k+i]?:=by
   rw[<-eP,xl];exact lO (jg k1 hbz) (by rw[<-xz];exact hi)
  rw[eK hi,eK (mT xz k1 hi hbz)]at e;exact aJ e
 have yq:∀{i},i<Y.size->sa+na+i<(arrOf st).size:=λhi=>aP (dB hi _) (by rw[yz];exact hc);have x0:0<X.size:=by rw[xz];exact gV ek
 have v0:0<Y.size:=by rw[yz];exact eO e3
 have yg:∀ i (hi:i<Y.size),Y[i]=(arrOf st)[sa+na+i]'(yq hi):=λi hi=>by
  have e:Y[i]?=(arrOf st)[sa+na+i]?:=by
   rw[<-eP,yl];exact lO hc (by rw[<-yz];exact hi)
  rw[eK hi,eK (yq hi)]at e;exact aJ e
 have xm:∀ q∈X.toList,∃ i,k<=i/\i<na/\ky κ q=kAt κ (arrOf st) (sa+i)/\q∈(arrOf st).toList:=λq hq=>by
  rw[xl]at hq;obtain ⟨j,j1,j2,e⟩:=ou (jg k1 hbz) hq;refine #[j-sa,kL (by rw[gW];exact j1),sv j2 k1 j1,?_,?_]
  .rw[fB (ax (cA _ _) j1),iY e]
  .rw[<-eP]at e;exact cy e
 have ym:∀ q∈Y.toList,∃ i,i<c/\ky κ q=kAt κ (arrOf st) (sa+na+i)/\q∈(arrOf st).toList:=λq hq=>by
  rw[yl]at hq;obtain ⟨j,j1,j2,e⟩:=ou hc hq;refine #[j-(sa+na),cM j1 j2,?_,?_]
  .rw[fB j1,iY e]
  .rw[<-eP]at e;exact cy e
 have kX:∀ q∈X.toList,Keyd κ q:=λq hq=>by obtain ⟨_,_,_,_,z⟩:=xm q hq;exact hB.keys q z
 have kY:∀ q∈Y.toList,Keyd κ q:=λq hq=>by obtain ⟨_,_,_,z⟩:=ym q hq;exact hB.keys q z
 have sX:SL κ X.toList:=by
  rw[xl];exact zo (jg k1 hbz) (λi j q1 q2 q3=>ua i j (ax (cA _ _) q1) q2 (kH q3 k1))
 have sY:SL κ Y.toList:=by
  rw[yl];exact zo hc (λi j q1 q2 q3=>ub i j q1 q2 (aP q3 (cz c1 _)))
 have y0:∀(hb:0<Y.size),ky κ Y[0]=kAt κ (arrOf st) (sa+na):=λhb=>by
  rw[yg 0 hb,<-dw];rfl
 have lo0:∀(hb:0<Y.size),∀ q∈X.toList,le κ Y[0] q:=λhb q hq=>by
  obtain ⟨i,i1,i2,e,_⟩:=xm q hq;unfold le;rw[y0 hb,e];exact KeyOrd.kle_of_klt (k3' i i1 i2)
 have xlast:∀(ha:X.size-1<X.size),ky κ X[X.size-1]=kAt κ (arrOf st) (sa+na-1):=λha=>by
  rw[xg _ ha,<-dw];rw[xz,<-Nat.add_sub_assoc (gV ek),e2]
 have hi0:∀(ha:X.size-1<X.size),∀ q∈Y.toList,le κ q X[X.size-1]:=λha q hq=>by
  obtain ⟨i,i1,e,_⟩:=ym q hq;unfold le;rw[xlast ha,e];exact KeyOrd.kle_of_klt (c2' i i1)
 have fin:∀ m st',d3 κ X Y m->SG (setPending st pend) st'->wpS (model prog w) A E s (do
   modify λs=>setArr s (m.toList.zipIdx.foldl (λa (q:Keyed×Nat)=>a.setIfInBounds (sa+k+q.2) q.1) (arrOf s))
   return (failedOf (<-get)).isNone) Q st':=λm st' hm g=>by
  obtain ⟨b1,b2,b3⟩:=same _ g;refine wpS_bind (wpS_modify ?_);refine wpS_bind (wpS_get ?_);have hf:failedOf (setArr st' (m.toList.zipIdx.foldl (λa (q:Keyed×Nat)=>a.setIfInBounds (sa+k+q.2) q.1) (arrOf st')))=none:=b1.failed;rw[hf];rw[<-hX,<-hY]at hm;obtain ⟨o1,o2⟩:=EK hz' ua ub ek c1 (eO e3) k2' c3' hm;refine wpS_pure (h _ ?_ ?_ ?_ b3)
  .refine b1.off (lo:=sa) (hi:=sa+(na+nb)) ?_;rw[b2];exact o1
  .show Off (arrOf st) (back (arrOf st') (sa+k) m) _ _;rw[b2];exact o1
  .show Up κ (back (arrOf st') (sa+k) m) _ _;rw[b2];exact o2
 by_cases e4:na-k<=c
 .rw[ae e4];refine wpS_bind ?_;refine EE hO B0.kind kX kY sX sY x0 v0 (lo0 _) ?_ λm st' hm g=>fin m st' hm g;intro q hq i hi x hx;have:x=X[X.size-1]'(ef x0):=by
   rw[Nat.eq_sub_of_add_eq hi,oi (ef x0),eN (by rw[bH,Nat.sub_add_cancel x0];exact ai _)]at hx;exact aQ.mp hx
  rw[this];exact hi0 _ q hq
 .rw[af e4];refine wpS_bind ?_;exact EG hO B0.kind kX kY sX sY x0 v0 (lo0 _) (hi0 (ef x0)) λm st' hm g=>fin m st' hm g
end
end Tim
namespace Tim
open PySem PyProof.Rows
section
variable {κ:KeyKind}{xs ys:Array Keyed}
def Runs (κ:KeyKind)(xs:Array Keyed):List (Nat×Nat×Nat)->Nat->Nat->Prop
 | [],a,b=>a=b
 | (s,n,_)::r,a,b=>s=a/\0<n/\Up κ xs a (a+n)/\Runs κ xs r (a+n) b
def Runs.le:∀{l:List (Nat×Nat×Nat)} {a b:Nat},Runs κ xs l a b->a+l.length<=b
 | [],_,_,h=>by rw[show _=_ from h];simp
 | (s,n,p)::r,a,b,⟨_,h1,_,h2⟩=>by
  have:=Runs.le h2;rw[cE];lia
def Runs.split:∀{l m:List (Nat×Nat×Nat)} {a b:Nat},Runs κ xs (l++m) a b->∃ c,Runs κ xs l a c/\Runs κ xs m c b
 | [],m,a,b,h=>#[a,rfl,h]
 | (s,n,p)::r,m,a,b,⟨h0,h1,h2,h3⟩=>by
  obtain ⟨c,c1,c2⟩:=Runs.split (l:=r) h3;exact #[c,#[h0,h1,h2,c1],c2]
def Runs.glue:∀{l m:List (Nat×Nat×Nat)} {a b c:Nat},Runs κ xs l a c->Runs κ xs m c b->Runs κ xs (l++m) a b
 | [],m,a,b,c,h,g=>by rw[show a=c from h];exact g
 | (s,n,p)::r,m,a,b,c,⟨h0,h1,h2,h3⟩,g=>#[h0,h1,h2,Runs.glue h3 g]
def Up.off {lo hi a b:Nat}(h:Up κ xs a b)(o:Off xs ys lo hi)(d:b<=lo\/hi<=a):Up κ ys a b:=λi j h1 h2 h3=>by
 rw[tK o (by lia),tK o (by lia)];exact h i j h1 h2 h3
def Runs.off {lo hi:Nat}(o:Off xs ys lo hi):∀{l:List (Nat×Nat×Nat)} {a b:Nat},Runs κ xs l a b->(b<=lo\/hi<=a)->Runs κ ys l a b
 | [],_,_,h,_=>h
 | (s,n,p)::r,a,b,⟨h0,h1,h2,h3⟩,d=>by
  have:=Runs.le h3;exact #[h0,h1,h2.off o (by lia),Runs.off o h3 (by lia)]
def zq {α:Type}{x y v:α}{post:List α}:∀ pre:List α,((pre++x::y::post).set pre.length v).eraseIdx (pre.length+1)=pre++v::post
 | []=>rfl
 | p::pre=>by
  rw[List.cons_append,cE,List.set_cons_succ,List.eraseIdx_cons_succ,zq pre,List.cons_append]
end
section
variable {prog:Program}{w:World}{A:Around}{E:Value->Shared->Prop}{s:Shared}{κ:KeyKind}{kd:SortKind}
structure SI (κ:KeyKind)(kd:SortKind)(a₀:Array Keyed)(lo:Nat)(st:SortSt):Prop where
 tb:TB κ kd a₀.size st
 perm:(arrOf st).Perm a₀
 le:lo<=a₀.size
 runs:Runs κ (arrOf st) (pendingOf st).toList 0 lo
def zr {st:SortSt}{lo i:Nat}{Q:Bool->SortSt->Prop}(hO:LtG prog w A s κ kd)(hI:SI κ kd a₀ lo st)(hi:i+1<(pendingOf st).size)
  (h:∀ st',SI κ kd a₀ lo st'->Off (arrOf st) (arrOf st') 0 lo->(pendingOf st').size+1=(pendingOf st).size->Q true st'):wpS (model prog w) A E s (mergeAt' i) Q st:=by
 have hl:(pendingOf st).toList.length=(pendingOf st).size:=bH;obtain ⟨pre,x,y,post,e,hp⟩:∃ pre x y post,(pendingOf st).toList=pre++x::y::post/\pre.length=i:=by
  refine #[(pendingOf st).toList.take i,(pendingOf st).toList[i]'(by lia),(pendingOf st).toList[i+1]'(by lia),(pendingOf st).toList.drop (i+2),?_,?_]
  .rw[<-kO,<-kO,fb]
  .rw[aT];lia
 obtain ⟨sa,na,pa⟩:=x;obtain ⟨sb,nb,pb⟩:=y;have hr:=hI.runs;rw[e]at hr;obtain ⟨c,r1,h0,h1,ua,h2,h3,ub,r2⟩:=hr.split;subst h0 h2;have l1:=r2.le;have l0:=hI.le;have g1:(pendingOf st)[i]?=some (sa,na,pa):=by
  rw[<-eP,e,<-hp];simp
 have g2:(pendingOf st)[i+1]?=some (sa+na,nb,pb):=by
  rw[<-eP,e,<-hp,fM (by lia),show pre.length+1-pre.length=1 by lia];rfl
 refine EN hO hI.tb g1 g2 h1 h3 (by lia) ua ub λst' b1 b2 b3 b4=>?_;have e':(pendingOf st').toList=pre++(sa,na+nb,pa)::post:=by
  rw[b4,Array.toList_eraseIdxIfInBounds,Array.toList_setIfInBounds,e,<-hp];exact zq pre
 refine h st' #[b1,b2.perm.trans hI.perm,hI.le,?_] (b2.wide (bK _) (by lia)) ?_
 .rw[e'];refine (r1.off b2 (.inl (ai _))).glue #[rfl,by lia,b3,?_];have:=r2.off b2 (.inr (by lia));rwa[show sa+na+nb=sa+(na+nb) by lia]at this
 .have z1:=congrArg List.length e;have z2:=congrArg List.length e';rw[bH,bc,cE]at z1 z2;rw[cE]at z1;lia
end
end Tim
namespace Tim
open PySem PyProof.Rows
section
variable {prog:Program}{w:World}{A:Around}{E:Value->Shared->Prop}{s:Shared}{κ:KeyKind}{kd:SortKind}
def Runs.modify {p:Nat}:∀{l:List (Nat×Nat×Nat)} {a b:Nat} (i:Nat),Runs κ xs l a b->Runs κ xs (l.modify i λx=>(x.fst,x.2.fst,p)) a b
 | [],_,_,i,h=>by
  cases i<;>exact h
 | (s,n,q)::r,a,b,0,h=>h
 | (s,n,q)::r,a,b,i+1,⟨h0,h1,h2,h3⟩=>#[h0,h1,h2,Runs.modify i h3]
def SI.setp {lo hi:Nat}{st:SortSt}{p:Array (Nat×Nat×Nat)}(hI:SI κ kd a₀ lo st)(hz:hi<=a₀.size)(hr:Runs κ (arrOf st) p.toList 0 hi):SI κ kd a₀ hi (setPending st p):=
 #[#[hI.tb.kind,hI.tb.keys,hI.tb.failed,hI.tb.size],hI.perm,hz,hr]
def SI.pushed {st:SortSt}{lo n:Nat}(hI:SI κ kd a₀ lo st)(hn:0<n)(hz:lo+n<=a₀.size)(hU:Up κ (arrOf st) lo (lo+n)):SI κ kd a₀ (lo+n) (setPending st ((pendingOf st).push (lo,n,0))):=by
 refine hI.setp hz ?_;rw[jt];exact hI.runs.glue #[rfl,hn,hU,rfl]
def SI.marked {st:SortSt}{lo p:Nat}(hI:SI κ kd a₀ lo st):SI κ kd a₀ lo (setPending st ((pendingOf st).modify ((pendingOf st).size-1) λx=>(x.fst,x.2.fst,p))):=by
 refine hI.setp hI.le ?_;rw[Array.toList_modify];exact hI.runs.modify _
def EO {c:Prop}[Decidable c]{n:Nat}(h:2<=n):(if c then n-2-1 else n-2)+1<n:=by
 split<;>lia
def ER {st:SortSt}{Q:Unit->SortSt->Prop}(hO:LtG prog w A s κ kd)(hI:SI κ kd a₀ 0 st)(h2:2<=a₀.size)
  (h:∀ st',(arrOf st').Perm a₀->failedOf st'=none->Up κ (arrOf st') 0 a₀.size->Q () st'):wpS (model prog w) A E s sortRuns' Q st:=by
 rw[sortRuns'_eq];refine wpS_bind (wpS_get ?_);dsimp only;simp only[hI.tb.size];generalize minRun' a₀.size a₀.size 0=mr;refine wpS_bind (wpS_mono (wpS_forRange (I:=λx c st'=>∃ lo,c=(none,lo)/\x<=lo/\SI κ kd a₀ lo st') (Q:=λc st'=>c=(none,a₀.size)/\SI κ kd a₀ a₀.size st') ?step ?fin #[0,rfl,ai _,hI]) ?post)
 case fin=>
  rintro c st' ⟨lo,rfl,hx,hI'⟩;have e:lo=a₀.size:=by
   have:=hI'.le;lia
  subst e;exact #[rfl,hI']
 case step=>
  rintro x c st' _ hx ⟨lo,rfl,hxl,hI'⟩;have hle:=hI'.le;dsimp only;by_cases hlo:lo >= a₀.size
  .rw[ae hlo];have e:lo=a₀.size:=by lia
   subst e;exact wpS_pure #[rfl,hI']
  .rw[af hlo];refine wpS_bind (Ew hO hI'.tb (by lia) (by lia) λr st2 hr=>?_);obtain ⟨n,ys,rfl,n1,n2,rfl,ho,hU⟩:=hr;have hI2:SI κ kd a₀ lo (setArr st' ys):=#[hI'.tb.off ho,ho.perm.trans hI'.perm,hle,hI'.runs.off ho (.inl (ai _))];dsimp only;apply mp2
   case m=>
    intro key;by_cases hmr:n<mr
    .rw[ae hmr];have l1:lo+min (a₀.size-lo) mr<=a₀.size:=Nat.add_le_of_le_sub' hle (Nat.min_le_left _ _);have l2:=Nat.le_min.mpr #[n2,aZ hmr];refine wpS_bind (iW (wpS_bind (Ey hO hI2.tb l1 l2 hU λzs oz uz=>?_)));simp only[gZ,cS,if_false];refine (?_:SI κ kd a₀ lo (setArr st' zs)->Up κ zs lo (lo+min (a₀.size-lo) mr)->0<min (a₀.size-lo) mr->lo+min (a₀.size-lo) mr<=a₀.size->_) #[hI2.tb.off oz,oz.perm.trans hI2.perm,hle,hI2.runs.off oz (.inl (ai _))] uz (ax n1 l2) l1;generalize min (a₀.size-lo) mr=m;generalize zs=xs
     revert m xs
     exact key
    .rw[af hmr];exact key n ys hI2 hU n1 (Nat.add_le_of_le_sub' hle n2)
   intro m xs hI3 uz m0 m1;have m2:x+1<=lo+m:=Nat.add_le_add hxl m0;refine wpS_bind (wpS_get ?_);cases hb:(pendingOf (setArr st' xs)).back? with
   | none=>
    dsimp only;exact wpS_bind (wpS_modify (wpS_pure #[_,rfl,m2,hI3.pushed m0 m1 uz]))
   | some x1=>
    obtain ⟨s1,n1',p1⟩:=x1;dsimp only;refine wpS_bind (wpS_mono (wpS_forRange (I:=λ_ c st5=>c=(none,())/\SI κ kd a₀ lo st5/\Up κ (arrOf st5) lo (lo+m)) (Q:=λc st5=>c=(none,())/\SI κ kd a₀ lo st5/\Up κ (arrOf st5) lo (lo+m)) ?_ (λ_ _ z=>z) #[rfl,hI3,uz]) ?_)
    .rintro i c st5 _ _ ⟨rfl,hI5,hU5⟩;refine wpS_bind (wpS_get ?_);by_cases h1:(pendingOf st5).size>1
     .have h2:=Nat.sub_lt (gT h1) jn;rw[ae h1,eK h2];obtain ⟨q1,q2,q3⟩:=(pendingOf st5)[(pendingOf st5).size-2]'h2;dsimp only;split
      .exact wpS_pure #[rfl,hI5,hU5]
      .refine wpS_bind (zr hO hI5 (by lia) λst6 h3 h4 _=>?_);simp only[gZ,cS,if_false];exact wpS_pure #[rfl,h3,hU5.off h4 (.inr (ai _))]
     .rw[af h1];exact wpS_pure #[rfl,hI5,hU5]
    .rintro c st5 ⟨rfl,hI5,hU5⟩;dsimp only;exact wpS_bind (wpS_modify (wpS_bind (wpS_modify (wpS_pure #[_,rfl,m2,SI.pushed (SI.marked hI5) m0 m1 hU5]))))
 case post=>
  rintro c st' ⟨rfl,hI'⟩;dsimp only;refine wpS_bind (wpS_mono (wpS_forRange (I:=λx c st''=>c=(none,())/\SI κ kd a₀ a₀.size st''/\(pendingOf st'').size+x<=a₀.size+1) (Q:=λc st''=>c=(none,())/\SI κ kd a₀ a₀.size st''/\(pendingOf st'').size<=1) ?_ ?_ #[rfl,hI',?_]) ?_)
  .rintro x c st'' _ hx ⟨rfl,hJ,hz⟩;refine wpS_bind (wpS_get ?_);by_cases h1:(pendingOf st'').size<=1
   .rw[ae h1];exact wpS_pure #[rfl,hJ,h1]
   .rw[af h1];refine wpS_bind (zr hO hJ ?_ λst3 h3 _ h4=>?_)
    .exact EO (by lia)
    .simp only[gZ,cS,if_false];exact wpS_pure #[rfl,h3,by lia]
  .rintro c st'' ⟨rfl,hJ,hz⟩;exact #[rfl,hJ,by lia]
  .have:=hI'.runs.le;rw[bH]at this;lia
  .rintro c st'' ⟨rfl,hJ,hz⟩;dsimp only;refine wpS_pure (h _ hJ.perm hJ.tb.failed ?_);have hr:=hJ.runs;rw[<-bH]at hz
   match e:(pendingOf st'').toList,hz,hr with
   | [],_,hr=>
    have:0=a₀.size:=hr;lia
   | [(s1,n1,p1)],_,hr=>
    obtain ⟨_,_,u,z⟩:=hr;have z:0+n1=a₀.size:=z;rw[z]at u;exact u
end
end Tim
namespace Tim
open PySem PyProof.Rows
section
variable {prog:Program}{w:World}{A:Around}{E:Value->Shared->Prop}{s:Shared}{κ:KeyKind}{kd:SortKind}
def lQ (a:Addr)(h h':Heap):Prop:=∀ b o,b≠a->h.get? b=some o->h'.get? b=some o
def keyV (κ:KeyKind)(v:Value):κ.α:=(κ.keyOf v).getD κ.dflt
def tR:∀ vs:List Value,vs.zip vs=vs.map λv=>(v,v)
 | []=>rfl
 | v::vs=>by rw[sQ,tR vs,bI]
def tS {vs:List Value}{p:Keyed}(h:p∈(pairsOf vs).toList):p.1=p.2/\p.1∈vs:=by
 have e:(pairsOf vs).toList=vs.zip vs:=by
  unfold pairsOf;simp
 rw[e]at h;rw[tR]at h;obtain ⟨v,hv,rfl⟩:=bA.mp h;exact #[rfl,hv]
def ES (vs:List Value):(pairsOf vs).toList.map (·.2)=vs:=by
 have e:(pairsOf vs).toList=vs.zip vs:=by
  unfold pairsOf;simp
 rw[e,tR,iL];have z:((λx:Keyed=>x.2) ∘ λv:Value=>(v,v))=id:=rfl
 first
  | rw[z,List.map_id]
  | exact List.map_id vs
def ET {vs:List Value}{xs:Array Keyed}(hp:xs.Perm (pairsOf vs))(hU:Up κ xs 0 (pairsOf vs).size) :
  (xs.toList.map (·.2)).Perm vs/\(xs.toList.map (·.2)).Pairwise (λx y=>κ.kle (keyV κ x) (keyV κ y)):=by
 have hpl:=sI.mp hp;refine #[?_,?_]
 .have:=hpl.map (·.2);rwa[ES]at this
 .have hs:SL κ xs.toList:=EC (by rw[hp.size_eq];exact hU);refine iM.mpr (hs.imp_of_mem λ{a b} ha hb hab=>?_);have ea:=(tS (hpl.mem_iff.mp ha)).1;have eb:=(tS (hpl.mem_iff.mp hb)).1;unfold le ky at hab;unfold keyV;rw[<-ea,<-eb];exact hab
def EU {a:Addr}{vs:List Value}{n:Nat}{P:Fin->Shared->Prop}(ho:s.heap.get? a=some (seqObj "list" vs.toArray n))(hz:vs.length<=sizeLine)(keys:∀ v∈vs,∃ k,κ.keyOf v=some k)
  (hlt:∀ h',lQ a s.heap h'->LtG prog w A { s with heap:=h' } κ kd)
  (hkd:∀(h':Heap) (E:Value->Shared->Prop) (Q:SortKind->Shared->Prop),lQ a s.heap h'->2<=vs.length->Q kd { s with heap:=h' }->wpAny (model prog w) A (keyKind' vs.toArray) Q E { s with heap:=h' })
  (h:∀ out:List Value,out.Perm vs->out.Pairwise (λx y=>κ.kle (keyV κ x) (keyV κ y))->P (.done (.ret .none)) { s with heap:=sortedHeap s.heap a vs out.toArray }) :
  wpAny (model prog w) A (Builtin.«list.sort» #[[.ref a],[]]) P E s:=by
 rw[list_sort_plain];have hlt0:a<s.heap.objs.size:=aK ho;refine ao (listItems_at ho rfl ?_);refine ao (listUpdate_at ho rfl ?_ (by simpa using hz) (bK _));obtain ⟨m,ho1⟩:∃ m,(s.heap.update a (Obj.mapSeq λ_=>(List.toArray []))).get? a=some (seqObj "list" (List.toArray []) m):=#[_,get?_update_seq ho (λ_=>(List.toArray []))];refine ao (seqEpoch_at ho1 rfl ?_);refine ao (wpAny_newTuple ?_ (by simpa using hz));refine ao (wpAny_newList ?_);refine wpAny_holding ?_;have z1:(s.heap.update a (Obj.mapSeq λ_=>(List.toArray []))).objs.size=s.heap.objs.size:=by rw[Heap.size_update]
 have hk:lQ a s.heap (((s.heap.update a (Obj.mapSeq λ_=>(List.toArray []))).push (seqObj "tuple" vs.toArray 0)).push (seqObj "list" (List.toArray []) 0)):=λb o hb e=>
  aR _ (aR _ ((iF _ _ (aS hb)).trans e))
 have ho6:(((s.heap.update a (Obj.mapSeq λ_=>(List.toArray []))).push (seqObj "tuple" vs.toArray 0)).push (seqObj "list" (List.toArray []) 0)).get? a=some (seqObj "list" (List.toArray []) m):=aR _ (aR _ ho1);show wpAny (model prog w) A _ P E { s with heap:=((s.heap.update a (Obj.mapSeq λ_=>(List.toArray []))).push (seqObj "tuple" vs.toArray 0)).push (seqObj "list" (List.toArray []) 0) };dsimp only;have fin:∀ st':SortSt,(arrOf st').Perm (pairsOf vs)->failedOf st'=none->Up κ (arrOf st') 0 (pairsOf vs).size->wpAny (model prog w) A (do
   let touched:=(<-seqEpoch a) != m
   Builtin.List.listUpdate (.ref a) λ_=>(arrOf st').map (·.2)
   if let some e:=failedOf st' then rule "list.sort.comparison-raised";throw e
   if touched then rule "list.sort.modified";raiseError "ValueError" "list modified during sort"
   ret .none) P E { s with heap:=((s.heap.update a (Obj.mapSeq λ_=>(List.toArray []))).push (seqObj "tuple" vs.toArray 0)).push (seqObj "list" (List.toArray []) 0) }:=λst' hp hf hU=>by
  refine ao (seqEpoch_at ho6 rfl ?_);refine ao (listUpdate_at ho6 rfl ?_ (bK _) (by
   refine ax (dn ((Array.size_map ..).trans (hp.size_eq.trans (pairsOf_size _)))) ?_;lia))
  rw[hf];simp only[bne_self_eq_false,cS,if_false];obtain ⟨o1,o2⟩:=ET hp hU;have:=h _ o1 o2;have e:((arrOf st').toList.map (·.2)).toArray=(arrOf st').map (·.2):=by rw[<-Array.toList_map,Array.toArray_toList]
  rw[e]at this;exact aA this
 by_cases h2:vs.toArray.size<2
 .rw[ae h2,ae h2];refine ao (aA ?_);rw[StateT.run_pure];refine ao (aA ?_);refine fin (SortSt.mk' general' (vs.toArray.zip vs.toArray) (List.toArray []) 7 none) (Array.Perm.refl _) rfl ?_;intro i j q1 q2 q3;have:i=j:=by
   rw[pairsOf_size]at q3;simp at h2;lia
  subst this;exact KeyOrd.kle_refl _
 .rw[af h2,af h2];have h2':2<=vs.length:=by
   simp at h2;lia
  refine ao (hkd _ _ _ hk h2' ?_);refine ao (dP (ER (κ:=κ) (hlt _ hk) (a₀:=pairsOf vs) (st:=SortSt.mk' kd (vs.toArray.zip vs.toArray) (List.toArray []) 7 none)
   (Q:=λ_ st'=>(arrOf st').Perm (pairsOf vs)/\failedOf st'=none/\Up κ (arrOf st') 0 (pairsOf vs).size)
   #[#[rfl,λp hp=>keys _ (tS hp).2,rfl,rfl],Array.Perm.refl _,bK _,rfl] (by rw[pairsOf_size];lia) λst' a1 a2 a3=>#[a1,a2,a3]) ?_ λ_ _ e=>e)
  rintro ⟨⟨⟩,st'⟩ s' ⟨rfl,hp,hf,hs⟩;exact fin st' hp hf hs
def EV {h:Heap}{a:Addr}{vs out:List Value}{n:Nat}(ho:h.get? a=some (seqObj "list" vs.toArray n)):lQ a h (sortedHeap h a vs out.toArray)/\∃ c,(sortedHeap h a vs out.toArray).get? a=some (seqObj "list" out.toArray c):=by
 unfold sortedHeap;refine #[λb o hb e=>(iF _ _ (aS hb)).trans (aR _ (aR _ ((iF _ _ (aS hb)).trans e))),?_];exact #[_,get?_update_seq (aR _ (aR _ (get?_update_seq ho (λ_=>(List.toArray []))))) λ_=>out.toArray]
def EW {l:Addr}{vs:List Value}{Q:Value->Shared->Prop}(hl:s.heap.IsList l vs.toArray)(hz:vs.length<=sizeLine)(keys:∀ v∈vs,∃ k,κ.keyOf v=some k)
  (hlt:∀ h',(∀ b o,s.heap.get? b=some o->h'.get? b=some o)->LtG prog w A.in1.in1 { s with heap:=h' } κ kd)
  (hkd:∀(h':Heap) (E:Value->Shared->Prop) (Q:SortKind->Shared->Prop),(∀ b o,s.heap.get? b=some o->h'.get? b=some o)->2<=vs.length->Q kd { s with heap:=h' }->wpAny (model prog w) A.in1.in1 (keyKind' vs.toArray) Q E { s with heap:=h' })
  (h:∀(out:List Value) (h':Heap) (c:Nat),out.Perm vs->out.Pairwise (λx y=>κ.kle (keyV κ x) (keyV κ y))->(∀ b o,s.heap.get? b=some o->h'.get? b=some o)->
   h'.get? (s.heap.objs.size+1)=some (seqObj "list" out.toArray c)->Q (.ref (s.heap.objs.size+1)) { s with heap:=h' }) :
  wpAny (model prog w) A (call (.builtin "sorted") [.ref l]) Q E s:=by
 refine Calls.call_function_entry kind_sorted plain_sorted entry_sorted (args_sorted1 _) ?_;unfold Builtin.«sorted»;refine ao (m:=checkCount "sorted" 1 1 _) (aA ?_);refine ao (collect_list hl ?_ hz);refine ao (wpAny_newList ?_ (by simpa using hz));have z1:((s.heap.push (seqObj "list" (List.toArray []) 0)).update s.heap.objs.size (Obj.mapSeq (· ++ vs.toArray))).objs.size=s.heap.objs.size+1:=by
  rw[Heap.size_update,size_push']
 have hn:(((s.heap.push (seqObj "list" (List.toArray []) 0)).update s.heap.objs.size (Obj.mapSeq (· ++ vs.toArray))).push (seqObj "list" vs.toArray 0)).get? (s.heap.objs.size+1)=some (seqObj "list" vs.toArray 0):=by
  rw[<-z1];exact cQ _ rfl
 have hk:∀ b o,s.heap.get? b=some o->(((s.heap.push (seqObj "list" (List.toArray []) 0)).update s.heap.objs.size (Obj.mapSeq (· ++ vs.toArray))).push (seqObj "list" vs.toArray 0)).get? b=some o:=λb o e=>
  aR _ ((iF _ _ (iD (aK e))).trans (aR _ e))
 show wpAny _ _ _ _ _ { s with heap:=((s.heap.push (seqObj "list" (List.toArray []) 0)).update s.heap.objs.size (Obj.mapSeq (· ++ vs.toArray))).push (seqObj "list" vs.toArray 0) };rw[z1];generalize ((s.heap.push (seqObj "list" (List.toArray []) 0)).update s.heap.objs.size (Obj.mapSeq (· ++ vs.toArray))).push (seqObj "list" vs.toArray 0)=h1 at hn hk ⊢;have up:∀ h',lQ (s.heap.objs.size+1) h1 h'->∀ b o,s.heap.get? b=some o->h'.get? b=some o:=λh' kb b o e=>kb b o (λz=>by
  have:=aK e;rw[z]at this;exact absurd this (g8.mpr (dm _))) (hk b o e)
 refine ao (wpAny_holding (wpAny_call_entry slot_list_sort #[_,hn,rfl] entry_list_sort (EU (s:={ s with heap:=h1 }) hn hz keys (λh' kb=>hlt h' (up h' kb)) (λh' E Q kb h2 q=>hkd h' E Q (up h' kb) h2 q) λout p1 p2=>#[_,rfl,?_]) (args_list_sort _)));obtain ⟨kb,c,hc⟩:=EV (out:=out) hn;exact aA #[_,rfl,h out _ c p1 p2 (up _ kb) hc]
end
end Tim
namespace L2
open PySem PySem.Spec PyProof.Rows
structure DF (K:Frag)(mg:Str->Option Value)(x:Str)(st:Stmt)(ps:List Str):Prop where
 ex:∃ f fd,Fun K x x st f fd/\gJ K fd ps []/\mg x=some (.ref f)
structure FC (P:Program)(w:World)(K:Frag)(mg:Str->Option Value)(base:Heap)(k:Nat)(x:Str)(ps:List Str)(sp:Sp):Prop where
 ex:∃ f fd,FnOk P w K mg base CX0 k f fd ps sp/\gJ K fd ps []/\keepIn K (.ref f)=true/\mg x=some (.ref f)/\∃ oc od osl,K.lookup f=some #[oc,od,.func fd,osl]
def FC.at {w:World}{K:Frag}{mg:Str->Option Value}{base:Heap}{k:Nat}{f:Addr}{fd:FuncData}{oc:Value}{od:Option Addr}{osl:Array (Option Value)}(F:FC P w K mg base k x ps sp)(m:mg x=some (.ref f))(l:K.lookup f=some #[oc,od,.func fd,osl]):FnOk P w K mg base CX0 k f fd ps sp:=by
 obtain ⟨f',fd',ok,_,_,m',oc',od',osl',l'⟩:=F.ex;rw[m]at m';cases m'
 rw[l]at l';cases l'
 exact ok
def DF.ok {w:World}{K:Frag}{mg:Str->Option Value}{base:Heap}{st:Stmt}{N:List Str}{k:Nat}{sp:Sp}(D:DF K mg x st ps)(S:aU N ps (aI st))(len:∀ vs H Q E,sp vs H Q E->vs.length=ps.length)
  (hbody:∀(f:Addr) (cdv:Value) (A:Around) (outer:List Env) (s:Shared) (H:Hp) (vs:List V) (Q:VK) (E:XK),Room k (A.deeper (envOfC x (aI st) s.heap.objs.size f cdv))->sp vs H Q E->
   ∃ t,PSs (cxOf CX0 P w K mg base N x (aI st) f cdv A outer s H E).nox (fj st) t/\t { nx:=λ_ H'=>Q .non H',rt:=Q } (di N vs) H):FC P w K mg base (k+1) x ps sp:=by
 obtain ⟨f,fd,F,b,m⟩:=D.ex;exact #[f,fd,F.ok S len λcdv A outer s H vs Q E hr h=>hbody f cdv A outer s H vs Q E hr h,b,F.kp,m,by
  obtain ⟨oc,od,kV,doc,pm,an,cdv,ct,osl,rfl,lk,hcd⟩:=F.ex;exact #[oc,od,osl,lk]]
def aG {X:Cx}{k:Nat}{e:Expr}{es:List Expr}{t:TA}{p pos:Pos}(F:FC X.prog X.w X.K X.mg X.base j x ps sp)(hr:Room k X.A)(ha:PA X (e::es) t)(hjk:j<=k:=by decide)(hg:Gl X x:=by rfl)
  (hdb:(x==("__debug__" : Str))=false:=by decide) (he:starEach (e::es) X.env=(false,eval e X.env)::starEach es X.env:=by rfl) (hpl:(backTo pos (starEach es X.env)).any (·.1)=false:=by rfl):PE X (.Call (.Name x p) (e::es) [] pos) (yh sp [] E0 t):=by
 obtain ⟨f,fd,ok,b,kp,m,_⟩:=F.ex;exact DE ok (hr.mono hjk) hg m kp b .nil yX ha hdb he hpl
def EX (t u:TS):TS:=λD Z H=>∃ M:St->Hp->Prop,t { D with nx:=M } Z H/\∀ Z' H',M Z' H'->u D Z' H'
def fU {st:Stmt}{rest:List Stmt}{t:TS}(h1:PS X st t)(h2:PSs X rest u):PSs X (st::rest) (EX t u):=by
 intro LB s Z H D I h;obtain ⟨M,h,hM⟩:=h;refine wpAny_execs_cons (thn (h1 LB s Z H { D with nx:=M } I h) λf s1 q=>?_);cases f with
 | next=>
  obtain ⟨Z',H',I',q⟩:=q;exact h2 LB s1 Z' H' D I' (hM Z' H' q)
 | ret v=>exact q
 | brk=>exact q
 | cont=>exact q
def EY (i j:Int):Prop:=0<j/\j<2^4000
section
variable {X:Cx}
def kitO (a b:String):Option Bool:=if (Value.type a==Value.type b)=true then some true else if W.kitMeta b=true then (PySem.fastBuiltinMro a).map (·.contains (.type b)) else none
def EZ {K:Frag}{a:String}:kitOne K (.type a) (.type b)=kitO a b:=rfl
inductive rIsi (K:Frag)(xs:List V)(H:Hp)(Q:VK):Prop
 | c:∀ x n t b,xs=[x,.ty n]->TyOf K H x (.type t)->kitO t n=some b->Q (.bl b) H->rIsi K xs H Q
def E1:cV X (.builtin "isinstance") (rIsi X.K):=by
 intro LB s Z H xs us Q I r h;obtain ⟨x,n,t,b,e,ty,ki,q⟩:=h;subst e;obtain ⟨u,w',e,r1,r2⟩:=gI r;subst e;cases r2
 exact DD I r1 ty (EZ.trans ki) λtk=>#[.bl b,H,I.tok tk,rfl,q]
def E2:kitO "int" "int" = some true:=by decide +kernel
def E3:kitO "int" "bool" = some false:=by decide +kernel
def E4:kitO "list" "list" = some true:=by decide +kernel
inductive zt (x:V)(xs:List V)(H:Hp)(Q:VK):Prop
 | c:∀ i,x=.int i->xs=[]->Q (.int (Builtin.Int.intBits i:Nat)) H->zt x xs H Q
def E5:MtR X "int.bit_length" zt:=by
 intro LB s Z H x xs v us Q I rx rv h;obtain ⟨i,rfl,rfl,q⟩:=h;obtain ⟨t,rfl⟩:=rx;cases rv
 exact call_int_bit_length #[.int _,H,I.tok _,#[_,rfl],q]
end
def E6 {c A B:Prop}[Decidable c](hc:¬ c)(h:B):if decide c=true then A else B:=by
 rw[bj hc];exact iteF h
def tT {c A B:Prop}[Decidable c](hc:c)(h:A):if decide c=true then A else B:=by
 rw[aX hc];exact iteT h
def dj (L:Addr)(a l:Int):HO:=.dK [(.inr "script",.ref L),(.inr "at",.int a),(.inr "left",.int l)]
def Keep (d:Addr)(H H':Hp):Prop:=∀ b o,b≠d->H b=some o->H' b=some o
def Keep.refl (d:Addr)(H:Hp):Keep d H H:=λ_ _ _ h=>h
def Keep.trans (a:Keep d H H1)(b:Keep d H1 H2):Keep d H H2:=λc o n h=>b c o n (a c o n h)
def Same.keep (s:Same H H'):Keep d H H':=λb o _ h=>s b o h
structure LS (K:Frag)(L d:Addr)(H:Hp):Prop where
 ex:∃(ns:List Int) (a l:Int),H d=some (dj L a l)/\SqL K H L (ns.map V.int)
def tU {K:Frag}{H:Hp}{d:Addr}{a:Int}(hd:H d=some (dj L' a l))(k:Keep d H H')(h:SqL K H L xs):SqL K H' L xs:=by
 have ne:∀ o,H L=some o->(∀ kvs,o≠.dK kvs)->L≠d:=λo e n z=>by
  rw[z,hd]at e;cases e
  exact n _ rfl
 rcases h with (h|⟨o,h⟩)|h
 .exact .inl (.inl (k L _ (ne _ h nofun) h))
 .exact .inl (.inr #[o,k L _ (ne _ h nofun) h])
 .exact .inr h
def LS.set {K:Frag}{d:Addr}{H:Hp}{ns:List Int}{a l:Int}(hd:H d=some (dj L a l))(h:SqL K H L (ns.map V.int)):LS K L d (upd H d (dj L a' l'))/\Keep d H (upd H d (dj L a' l')):=by
 have k:Keep d H (upd H d (dj L a' l')):=λb o n e=>by rw[aj n];exact e
 exact #[#[ns,a',l',ak,tU hd k h],k]
def LS.same {K:Frag}(s:LS K L d H)(k:Same H H'):LS K L d H':=by
 obtain ⟨ns,a,l,e,q⟩:=s.ex;exact #[ns,a,l,k _ _ e,k.seq q]
def aD {H:Hp}{p:Addr}(h:H p=none)(o:HO):Same H (upd H p o):=λb u q=>by rw[aj (au q h)];exact q
def LS.put {K:Frag}{p:Addr}{H2:Hp}{o:HO}(s:LS K L d H0)(hp:H0 p=none)(k:∀ b o,b≠d->b≠p->H0 b=some o->H2 b=some o)(s2:LS K L d H2):LS K L d (upd H2 p o):=by
 obtain ⟨ns,a,l,e,q⟩:=s.ex;obtain ⟨ns2,a2,l2,e2,_⟩:=s2.ex;have hdp:d≠p:=au e hp;have go:∀ u,H0 L=some u->(∀ kvs,u≠.dK kvs)->upd H2 p o L=some u:=λu hu hn=>by
  have h1:L≠p:=au hu hp;have h2:L≠d:=λz=>by
   rw[z,e]at hu;cases hu
   exact hn _ rfl
  rw[aj h1];exact k L u h2 h1 hu
 refine #[ns,a2,l2,by rw[aj hdp];exact e2,?_];rcases q with (h|⟨ob,h⟩)|h
 .exact .inl (.inl (go _ h nofun))
 .exact .inl (.inr #[ob,go _ h nofun])
 .exact .inr h
section
variable {H:Hp}{d L:Addr}{a l:Int}
def gh {x y:Str}(h:x≠y):(Sum.inr x:Key)≠Sum.inr y:=λz=>h (Sum.inr.inj z)
def E7 (h:H d=some (dj L a l)):DGet H d (.str "script") (some (.ref L)):=.inl #[_,.inr "script",.inl h,rfl,by rw[dZ rfl]]
def E8 (h:H d=some (dj L a l)):DGet H d (.str "at") (some (.int a)):=.inl #[_,.inr "at",.inl h,rfl,by rw[c8 (gh (show ("script" : Str) ≠ "at" by decide +kernel)),dZ rfl]]
def tV (h:H d=some (dj L a l)):DGet H d (.str "left") (some (.int l)):=.inl #[_,.inr "left",.inl h,rfl,by rw[c8 (gh (show ("script" : Str) ≠ "left" by decide +kernel)),c8 (gh (show ("at" : Str) ≠ "left" by decide +kernel)),dZ rfl]]
def zu {k:Key}{kvs kvs':List (Key×V)}(h:H d=some (.dK kvs))(hl:kvs.length<sizeLine)(e:putK kvs k v=kvs'):DPut H d (kV k) v (upd H d (.dK kvs')):=by
 subst e;exact DPut.k h hl
def E9 (h:H d=some (dj L a l)):DPut H d (.str "at") (.int a') (upd H d (dj L a' l)):=
 zu (k:=.inr "at") h (by show 3 < sizeLine;decide) (by
  unfold putK;rw[ae (by simp)];simp only[bI,jl,af (gh (show ("script" : Str) ≠ "at" by decide +kernel)),af (gh (show ("left" : Str) ≠ "at" by decide +kernel)),if_true])
def zv (h:H d=some (dj L a l)):DPut H d (.str "left") (.int l') (upd H d (dj L a l')):=
 zu (k:=.inr "left") h (by show 3 < sizeLine;decide) (by
  unfold putK;rw[ae (by simp)];simp only[bI,jl,af (gh (show ("script" : Str) ≠ "left" by decide +kernel)),af (gh (show ("at" : Str) ≠ "left" by decide +kernel)),if_true])
end
inductive ij (K:Frag)(vs:List V)(H:Hp)(Q:VK)(w_1:XK):Prop
 | c:∀(d L:Addr) (m:Int),vs=[.ref d,.int m]->(0<m/\m<1073741824)->LS K L d H->(∀(v:Int) (H':Hp),0<=v->v<m->Keep d H H'->LS K L d H'->Q (.int v) H')->ij K vs H Q w_1
inductive tW (vs:List V)(H:Hp)(Q:VK)(w_1:XK):Prop
 | c:∀(c k:Int),vs=[.int c,.int k]->(∀ v:Int,Q (.int v) H)->tW vs H Q w_1
inductive tX (K:Frag)(vs:List V)(H:Hp)(Q:VK)(w_1:XK):Prop
 | c:∀(L:Addr) (ns:List Int),vs=[.ref L]->SqL K H L (ns.map V.int)->(∀(d:Addr) (H':Hp),H d=none->Same H H'->LS K L d H'->Q (.ref d) H')->tX K vs H Q w_1
def Fb {ns:List Int}{k:Int}(h:0<ns.length):∃ v:Int,atI (ns.map V.int) (k%(((ns.map V.int).length:Nat):Int))=some (.int v):=by
 have e:(ns.map V.int).length=ns.length:=aq _;have h1:(0:Int)<(((ns.map V.int).length:Nat):Int):=by rw[e];lia
 have z0:=kS k (Int.ne_of_gt h1);have z1:=kT k h1;generalize hj:k%(((ns.map V.int).length:Nat):Int)=j at z0 z1;rw[e]at z1;have hk:j.toNat<ns.length:=by lia
 obtain ⟨n,rfl⟩:∃ n:Nat,j=(n:Int):=#[j.toNat,by lia];have hn:n<ns.length:=by lia
 exact #[ns[n],dG (by rw[bf,az hn];rfl)]
end L2
namespace L2
open PySem PySem.Spec PyProof.Rows PySem.SeqAt
def Ext (H H':Hp):Prop:=∀ b o,H b=some o->(∀ kvs,o≠.dK kvs)->H' b=some o
def Same.ext (s:Same H H'):Ext H H':=λb o h _=>s b o h
def Keep.ext {a l:Int}(k:Keep d H H')(h:H d=some (dj L a l)):Ext H H':=λb o e n=>k b o (λz=>by
 rw[z,h]at e;cases e
 exact n _ rfl) e
def LS.ext {K:Frag}(s:LS K L d H)(k:Keep d H H'):Ext H H':=by
 obtain ⟨ns,a,l,e,_⟩:=s.ex;exact k.ext e
def LS.of_new {K:Frag}(s:LS K L d H){p:Addr}(hp:H p=none)(o:HO):LS K L d (upd H p o):=s.same (aD hp o)
def SqT.ext {K:Frag}{a:Addr}(e:Ext H H')(h:SqT K H a xs):SqT K H' a xs:=by
 rcases h with (h|⟨o,h⟩)|h
 .exact .inl (.inl (e _ _ h nofun))
 .exact .inl (.inr #[o,e _ _ h nofun])
 .exact .inr h
class Rep (α:Type) where
 dec:DecidableEq α
 depth:Nat
 has:Frag->Hp->α->V->Prop
 mono:∀{K:Frag} {H H':Hp} {a:α} {v:V},Ext H H'->has K H a v->has K H' a v
 inj:∀{X:Cx} {LB:List (Addr×Obj)} {Z:St} {H:Hp} {s:Shared} {a b:α} {v:V},Inv X LB Z H s->has X.K H a v->has X.K H b v->a=b
 rc:∀{X:Cx} {LB:List (Addr×Obj)} {Z:St} {H:Hp} {s:Shared} {A:Around} {a b:α} {x y:V} {u v:Value},Inv X LB Z H s->A.units+depth<cLine->has X.K H a x->has X.K H b y->RelV x u->RelV y v->RcAt A s u v (dec a b).decide
 rn:∀{X:Cx} {LB:List (Addr×Obj)} {Z:St} {H:Hp} {s:Shared} {A:Around} {a b:α} {x y:V} {u v:Value},Inv X LB Z H s->A.units+depth<cLine->has X.K H a x->has X.K H b y->RelV x u->RelV y v->RcNeAt A s u v (!(dec a b).decide)
 eq:∀{X:Cx} {LB:List (Addr×Obj)} {Z:St} {H:Hp} {s:Shared} {A:Around} {a b:α} {x y:V} {u v:Value},Inv X LB Z H s->A.units+depth<cLine->has X.K H a x->has X.K H b y->RelV x u->RelV y v->EqAt A s u v (dec a b).decide
instance (priority:=low) repDec {α:Type} [Rep α]:DecidableEq α:=Rep.dec
def tY {i j:Int}:(i==j)=(Int.instDecidableEq i j).decide:=by
 by_cases h:i=j
 .subst h;simp
 .rw[beq_eq_false_iff_ne.mpr h];exact (bj h).symm
instance:Rep Int where
 dec:=Int.instDecidableEq
 depth:=0
 has:=λ_ _ i v=>v=.int i
 mono:=λ_ h=>h
 inj:=λ_ h1 h2=>V.int.inj (h1.symm.trans h2)
 rc:=λ_ _ h1 h2 r1 r2=>by
  subst h1 h2;obtain ⟨t,rfl⟩:=r1;obtain ⟨t',rfl⟩:=r2;rw[<-tY];exact RcAt.int_int _ _ _ _
 rn:=λ_ _ h1 h2 r1 r2=>by
  subst h1 h2;obtain ⟨t,rfl⟩:=r1;obtain ⟨t',rfl⟩:=r2;rw[<-tY];exact RcNeAt.int_int _ _ _ _
 eq:=λ_ _ h1 h2 r1 r2=>by
  subst h1 h2;obtain ⟨t,rfl⟩:=r1;obtain ⟨t',rfl⟩:=r2;rw[<-tY];exact EqAt.int_int _ _ _ _
def pImp {α β:Type}{R S:α->β->Prop}(h:∀ a b,R a b->S a b){as:List α}{bs:List β}(p:Paired R as bs):Paired S as bs:=by
 induction p with
 | nil=>exact .nil
 | cons a _ ih=>exact .cons (h _ _ a) ih
def pApp {α β:Type}{R:α->β->Prop}{as cs:List α}{bs ds:List β}(p:Paired R as bs)(q:Paired R cs ds):Paired R (as++cs) (bs++ds):=by
 induction p with
 | nil=>exact q
 | cons a _ ih=>exact .cons a ih
def aB {α:Type}[Rep α](K:Frag)(H:Hp):List α->List V->Prop:=Paired (Rep.has K H)
section
variable {α:Type}[Rep α]{K:Frag}{H H':Hp}
def aB.mono (e:Ext H H'){as:List α}{xs:List V}(h:aB K H as xs):aB K H' as xs:=pImp (λ_ _=>Rep.mono e) h
def aB.length {as:List α}{xs:List V}(h:aB K H as xs):as.length=xs.length:=Paired.length h
def aB.get:∀{as:List α} {xs:List V} {i:Nat} {x:V},aB K H as xs->xs[i]?=some x->∃ a,as[i]?=some a/\Rep.has K H a x
 | _,_,_,_,.nil,e=>by simp at e
 | _,_,0,_,.cons h _,e=>by simp at e;subst e;exact #[_,rfl,h]
 | _,_,i+1,x,.cons _ t,e=>by
  obtain ⟨a,h1,h2⟩:=aB.get (i:=i) (x:=x) t (by simpa using e);exact #[a,by simpa using h1,h2]
def aB.append {as bs:List α}{xs ys:List V}(h:aB K H as xs)(g:aB K H bs ys):aB K H (as++bs) (xs++ys):=pApp h g
def aB.one {a:α}{x:V}(h:Rep.has K H a x):aB K H [a] [x]:=.cons h .nil
def aB.ints:∀{ns:List Int},aB K H ns (ns.map V.int)
 | []=>.nil
 | _::_=>.cons rfl aB.ints
def aB.toInts {ns:List Int}{xs:List V}(h:aB K H ns xs):xs=ns.map V.int:=by
 unfold aB at h
 induction h with
 | nil=>rfl
 | cons h _ ih=>
  have e:_=V.int _:=h;rw[e,ih];rfl
def aB.inj (I:Inv X LB Z H s){as bs:List α}{xs:List V}(h:aB X.K H as xs)(g:aB X.K H bs xs):as=bs:=by
 unfold aB at h g
 induction h generalizing bs with
 | nil=>cases g;rfl
 | cons h _ ih=>
  cases g with
  | cons h' t'=>rw[Rep.inj I h h',ih t']
end
def Fc {α:Type}[DecidableEq α]:∀(as bs:List α),as.length=bs.length->((List.range as.length).all λj=>decide (as[j]?=bs[j]?))=decide (as=bs):=by
 intro as bs hl;by_cases h:as=bs
 .subst h;simp
 .rw[bj h,List.all_eq_false]
  false_or_by_contra
  rename_i z;apply h;apply f6;intro i;by_cases hi:i<as.length
  .false_or_by_contra
   rename_i q;exact z #[i,cZ.mpr hi,by simpa using q]
  .rw[er (by lia),er (by lia)]
section
variable {α:Type}[r:Rep α]
def ow {A:Around}:A.in1.units<=A.units+1:=by
 first
  | exact ai _
  | (unfold Around.in1;simp)
def zw {A:Around}{as bs:List α}{xs ys:List V}{us vs:List Value}(I:Inv X LB Z H s)(hu:A.units+Rep.depth α<cLine)
  (h1:aB X.K H as xs) (h2:aB X.K H bs ys) (r1:Vals xs us) (r2:Vals ys vs):∀ j (q1:j<us.toArray.size) (q2:j<vs.toArray.size),EqAt A s us.toArray[j] vs.toArray[j] (decide (as[j]?=bs[j]?)):=by
 intro j q1 q2;have l1:=r1.length;have l2:=r2.length;have m1:=h1.length;have m2:=h2.length;have j1:j<us.length:=by simpa using q1
 have j2:j<vs.length:=by simpa using q2
 obtain ⟨a,ea,ha⟩:=h1.get (i:=j) (az (by lia));obtain ⟨b,eb,hb⟩:=h2.get (i:=j) (az (by lia));obtain ⟨u,eu,ru⟩:=r1.get (i:=j) (az (by lia));obtain ⟨v,ev,rv⟩:=r2.get (i:=j) (az (by lia));have gu:us.toArray[j]=u:=by
  have:us[j]?=some us[j]:=az j1;rw[eu]at this;simpa using (aJ this).symm
 have gv:vs.toArray[j]=v:=by
  have:vs[j]?=some vs[j]:=az j2;rw[ev]at this;simpa using (aJ this).symm
 rw[gu,gv,ea,eb];have e:decide (some a=some b)=(Rep.dec a b).decide:=by
  by_cases z:a=b
  .subst z;simp
  .rw[bj (λq=>z (aJ q))];exact (bj z).symm
 rw[e];exact Rep.eq I hu ha hb ru rv
end
inductive hasP {α β:Type}[Rep α][Rep β](K:Frag)(H:Hp)(p:α×β)(v:V):Prop
 | c:∀ a x y,v=.ref a->H a=some (.tup [x,y])->Rep.has K H p.1 x->Rep.has K H p.2 y->hasP K H p v
section
variable {α β:Type}[ra:Rep α][rb:Rep β]{X:Cx}{LB:List (Addr×Obj)}{Z:St}{H:Hp}{s:Shared}{A:Around}{p q:α×β}{x y:V}{u v:Value}
def zx (I:Inv X LB Z H s)(h1:hasP X.K H p x)(h2:hasP X.K H q x):p=q:=by
 obtain ⟨a,x1,x2,rfl,q1,e1,e2⟩:=h1;obtain ⟨b,y1,y2,e,q2,f1,f2⟩:=h2;cases e
 have z:=I.tuple_inj (SqT.of q2) (SqT.of q1);cases z
 have g1:=Rep.inj I e1 f1;have g2:=Rep.inj I e2 f2;obtain ⟨p1,p2⟩:=p;obtain ⟨s1,s2⟩:=q;cases g1
 cases g2
 rfl
def zA (I:Inv X LB Z H s)(hu:A.units+(Rep.depth α+Rep.depth β+1)<cLine)(h1:hasP X.K H p x)(h2:hasP X.K H q y)(r1:RelV x u)(r2:RelV y v):RcAt A s u v (decide (p=q)):=by
 obtain ⟨a,x1,x2,rfl,q1,e1,e2⟩:=h1;obtain ⟨b,y1,y2,rfl,q2,f1,f2⟩:=h2;cases r1
 cases r2
 obtain ⟨us,ru,pu,_⟩:=I.tuple (SqT.of q1);obtain ⟨vs,rv,pv,_⟩:=I.tuple (SqT.of q2);obtain ⟨u1,u2,rfl,ru1,ru2⟩:=gI ru;obtain ⟨v1,v2,rfl,rv1,rv2⟩:=gI rv;have hin:∀ n,n<=Rep.depth α+Rep.depth β->A.in1.units+n < cLine:=λn hn=>cN (gA ow _) (by lia);have c1:=Rep.eq (A:=A.in1) I (hin _ (by lia)) e1 f1 ru1 rv1;have c2:=Rep.eq (A:=A.in1) I (hin _ (by lia)) e2 f2 ru2 rv2;have:=RcAt.tuples (A:=A) (s:=s) (l:=a) (b:=b) (items:=(List.toArray [u1,u2])) (items2:=(List.toArray [v1,v2])) (e:=λj=>if j=0 then (Rep.dec p.1 q.1).decide else (Rep.dec p.2 q.2).decide) pu pv (by lia) (by
  intro j h1 h2;have h1':j<2:=h1;have z:j=0\/j=1:=by lia
  rcases z with rfl|rfl
  .exact c1
  .exact c2)
 have e:((List.range (min ((List.toArray [u1,u2]):Array Value).size ((List.toArray [v1,v2]):Array Value).size)).all (λj=>if j=0 then (Rep.dec p.1 q.1).decide else (Rep.dec p.2 q.2).decide)&&((List.toArray [u1,u2]):Array Value).size==((List.toArray [v1,v2]):Array Value).size)=decide (p=q):=by
  obtain ⟨p1,p2⟩:=p;obtain ⟨s1,s2⟩:=q;show (((List.range 2).all λj=>if j=0 then (Rep.dec p1 s1).decide else (Rep.dec p2 s2).decide)&&true)=_
  rw[show List.range 2=[0,1] from rfl];simp only[mW,List.all_nil,Bool.and_true,if_true];rw[af (by decide)];by_cases z1:p1=s1
  .by_cases z2:p2=s2
   .subst z1 z2;simp
   .subst z1;simp[z2]
  .simp[z1]
 rw[e]at this;exact this
def Fd (I:Inv X LB Z H s)(hu:A.units+(Rep.depth α+Rep.depth β+1)<cLine)(h1:hasP X.K H p x)(h2:hasP X.K H q y)(r1:RelV x u)(r2:RelV y v):RcNeAt A s u v (!decide (p=q)):=by
 obtain ⟨a,x1,x2,rfl,q1,e1,e2⟩:=h1;obtain ⟨b,y1,y2,rfl,q2,f1,f2⟩:=h2;cases r1
 cases r2
 obtain ⟨us,ru,pu,_⟩:=I.tuple (SqT.of q1);obtain ⟨vs,rv,pv,_⟩:=I.tuple (SqT.of q2);obtain ⟨u1,u2,rfl,ru1,ru2⟩:=gI ru;obtain ⟨v1,v2,rfl,rv1,rv2⟩:=gI rv;have hin:∀ n,n<=Rep.depth α+Rep.depth β->A.in1.units+n < cLine:=λn hn=>cN (gA ow _) (by lia);have c1:=Rep.eq (A:=A.in1) I (hin _ (by lia)) e1 f1 ru1 rv1;have c2:=Rep.eq (A:=A.in1) I (hin _ (by lia)) e2 f2 ru2 rv2;have:=RcNeAt.tuples (A:=A) (s:=s) (l:=a) (b:=b) (items:=(List.toArray [u1,u2])) (items2:=(List.toArray [v1,v2])) (e:=λj=>if j=0 then (Rep.dec p.1 q.1).decide else (Rep.dec p.2 q.2).decide) pu pv (by lia) (by
  intro j h1 h2;have h1':j<2:=h1;have z:j=0\/j=1:=by lia
  rcases z with rfl|rfl
  .exact c1
  .exact c2)
 have e:((List.range (min ((List.toArray [u1,u2]):Array Value).size ((List.toArray [v1,v2]):Array Value).size)).all (λj=>if j=0 then (Rep.dec p.1 q.1).decide else (Rep.dec p.2 q.2).decide)&&((List.toArray [u1,u2]):Array Value).size==((List.toArray [v1,v2]):Array Value).size)=decide (p=q):=by
  obtain ⟨p1,p2⟩:=p;obtain ⟨s1,s2⟩:=q;show (((List.range 2).all λj=>if j=0 then (Rep.dec p1 s1).decide else (Rep.dec p2 s2).decide)&&true)=_
  rw[show List.range 2=[0,1] from rfl];simp only[mW,List.all_nil,Bool.and_true,if_true];rw[af (by decide)];by_cases z1:p1=s1
  .by_cases z2:p2=s2
   .subst z1 z2;simp
   .subst z1;simp[z2]
  .simp[z1]
 rw[e]at this;exact this
def Fe (I:Inv X LB Z H s)(hu:A.units+(Rep.depth α+Rep.depth β+1)<cLine)(h1:hasP X.K H p x)(h2:hasP X.K H q y)(r1:RelV x u)(r2:RelV y v):EqAt A s u v (decide (p=q)):=by
 have rc:=zA (A:=A) I hu h1 h2 r1 r2;have h1':=id h1;have h2':=id h2;obtain ⟨a,x1,x2,rfl,q1,e1,e2⟩:=h1;obtain ⟨b,y1,y2,rfl,q2,f1,f2⟩:=h2;cases r1
 cases r2
 by_cases hab:a=b
 .subst hab;rw[aX (zx I h1' h2')];exact EqAt.same _
 .exact EqAt.of_refs hab rc
end
instance {α β:Type} [Rep α] [Rep β]:Rep (α×β) where
 dec:=inferInstance
 depth:=Rep.depth α+Rep.depth β+1
 has:=hasP
 mono:=λe ⟨a,x,y,h1,h2,h3,h4⟩=>#[a,x,y,h1,e _ _ h2 nofun,Rep.mono e h3,Rep.mono e h4]
 inj:=λI h1 h2=>zx I h1 h2
 rc:=λI hu h1 h2 r1 r2=>zA I hu h1 h2 r1 r2
 rn:=λI hu h1 h2 r1 r2=>Fd I hu h1 h2 r1 r2
 eq:=λI hu h1 h2 r1 r2=>Fe I hu h1 h2 r1 r2
def huD {k:Nat}{α:Type}[Rep α](hr:Room k A)(h:Rep.depth α<=64:=by decide):A.units+Rep.depth α<cLine:=cN (cz h _) hr.units
inductive rNeD (α:Type)[Rep α](K:Frag)(x:V)(y:V)(H:Hp)(Q:VK):Prop
 | c:∀(a b:α),Rep.has K H a x->Rep.has K H b y->Q (.bl (!decide (a=b))) H->rNeD α K x y H Q
section
variable {X:Cx}
def zB (α:Type)[Rep α](hu:X.A.units+Rep.depth α<cLine):OpR X (compareOp .NotEq) (rNeD α X.K):=by
 intro LB s Z H x y v u Q I rx ry h;obtain ⟨a,b,ha,hb,q⟩:=h;refine Rep.rn I hu ha hb rx ry X.prog X.w X.xe _ #[.bl _,H,I,rfl,?_];have e:(Rep.dec a b).decide=decide (a=b):=rfl;rw[e];exact q
end
end L2
namespace L2
open PySem PySem.Spec PyProof.Rows
section
variable {X:Cx}{LB:List (Addr×Obj)}{Z:St}{H:Hp}{s:Shared}{h':Heap}
def Inv.turnedNew {t':Nat}{fp:List Addr}{p:Addr}(I:Inv X LB Z H s)(k:∀ b ob,b∉fp->s.heap.get? b=some ob->h'.get? b=some ob)(hf:∀ b∈fp,FpOk X LB H b)
  (hp:s.heap.objs.size<=p) (new:bD X.prog X.w (upd H p o) h' p o):Inv X LB Z (upd H p o) { s with heap:=h',toks:=t' }:=by
 have hn:H p=none:=I.hok.fresh hp;have nfp:∀ b u,H b=some u->b∉fp:=λb u e z=>by rw[(hf b z).1]at e;cases e
 have nep:∀ b ob,s.heap.get? b=some ob->b≠p:=λb ob e=>bo (aP (aK e) hp);refine I.step (g':=s.gens) (d':=s.drawn) (ch:=fp) (λb hb=>?_) (λb ob _ _ hc e _=>k b ob hc e) (λb ob _ _ hc e _=>#[ob.slots,k b ob hc e]) (λb ob _ e n=>by rw[aj (nep b ob e)];exact n)
  (λb ob hc e=>#[ob,k b ob hc e]) (λb xs e=>by rw[aj (au e hn)];exact e) (λb ob u e=>by rw[aj (au e hn)];exact e) (λb ps e=>#[(List.toArray []),by rw[aj (au e hn),e];simp]) (λm hm=>?_) (λb u e=>?_) I.bare
 .obtain ⟨_,h2,_,h4,h5,h6⟩:=hf b hb;exact #[h4,h2,h5,h6]
 .obtain ⟨ob,es,ep,ho,r⟩:=hm;exact #[ob,es,ep,k _ ob (λz=>(hf _ z).2.1 rfl) ho,r]
 .by_cases hb:b=p
  .subst hb;rw[ak]at e;cases e;exact new
  .rw[aj hb]at e;refine (I.hok b u e).stay (λc v hc q=>k c v ?_ q) (λc q=>by rw[aj (au q hn)];exact q) λc xs q=>by rw[aj (au q hn)];exact q
   rcases hc with z|z
   .rw[z];exact nfp b u e
   .exact nfp c _ z
def zC {h:Heap}{p:Addr}{x y:V}{u v:Value}(rx:RelV x u)(ry:RelV y v)(e:h.get? p=some { cls:=.type "tuple",data:=.seq (List.toArray [u,v]) }):bD P w H h p (.tup [x,y]):=
 #[by show 2<=sizeLine;decide,[u,v],.cons rx (.cons ry .nil),_,e,rfl,0,rfl]
end
def Ite (K:Frag)(a:Addr):It:=
 #[λi H=>∃ xs x,SqL K H a xs/\xs[i]?=some x,λi H x H'=>∃ p y,x=.ref p/\H p=none/\(∀ xs,SqL K H a xs->xs[i]?=some y)/\H'=upd H p (.tup [.int i,y]),λi H=>∃ xs,SqL K H a xs/\xs.length<=i]
def Ff {K:Frag}{es:List Expr}{k0}{pos:Pos}(a it e:Addr)(hne:e≠it):Turn P w K (.Tuple es k0 pos) (Ite K a) [e,it] e (λi h=>(∃ old,IsEnum h e it i old)/\h.IsListIter it a i) where
 mem:=by simp
 obj:=λi h st b hb=>by
  obtain ⟨⟨old,he⟩,o,ho,c,d⟩:=st;rcases aW.mp hb with z|z
  .subst z;exact #[_,he,λv z=>by cases z]
  .have z:=aQ.mp z;subst z;exact #[o,ho,λv z=>by rw[d]at z;cases z]
 keep:=λi h h' st k=>by
  obtain ⟨⟨old,he⟩,hi⟩:=st;exact #[#[old,k e (by simp) _ he],hi.at λo q=>k it (by simp) o q]
 item:=by
  intro X hP hw hK hc i LB s Z H E I hf st hg;subst hP hw hK;obtain ⟨⟨old,he⟩,hi⟩:=st;obtain ⟨xs,x,hq,hx⟩:=hg;obtain ⟨its,rv,p,hz⟩:=I.list hq;obtain ⟨u,hu,ru⟩:=rv.get hx;refine wpAny_pyNext_enum_item he hi p.isList (x:=u) (by simpa using hu) hne λh1 he1 hi1 ht1 _ k1=>?_;refine #[_,rfl,wpAny_letOwnedTupleGo_enum (s:={ s with heap:=h1,toks:=s.toks+1 }) he1 λh2 he2 sb=>?_];have np:s.heap.objs.size≠e:=iD (aK he);have ht2:h2.get? s.heap.objs.size=some { cls:=.type "tuple",data:=.seq (List.toArray [.int i s.toks,u]) }:=(sb.2 _ np).trans ht1;have I2:Inv X LB Z (upd H s.heap.objs.size (.tup [.int i,x])) { s with heap:=h2,toks:=s.toks+1 }:=
   I.turnedNew (fp:=[e,it]) (λb ob hb q=>(sb.2 b (λz=>hb (by simp[z]))).trans (k1 b ob (λz=>hb (by simp[z])) (λz=>hb (by simp[z])) q)) hf (ai _) (zC #[_,rfl] ru ht2)
  refine #[.ref s.heap.objs.size,_,I2,rfl,#[_,x,rfl,I.hok.fresh (ai _),λys hy=>by rw[I.list_inj hy hq];exact hx,rfl],#[#[u,?_],?_],λb hb=>?_]
  .have z:IsEnum h2 e it ((i:Int)+1) u:=he2;exact z
  .exact hi1.at λo q=>(sb.2 it (aS hne)).trans q
  .have z:=(hf b hb).1;rw[aj ?_]
   .exact z
   .rcases aW.mp hb with q|q
    .rw[q];exact aS np
    .rw[aQ.mp q];obtain ⟨o,ho,_⟩:=hi;exact bo (aK ho)
 done:=by
  intro X hP hw hK hc i LB s Z H E I hf st hg;subst hP hw hK;obtain ⟨⟨old,he⟩,hi⟩:=st;obtain ⟨xs,hq,hx⟩:=hg;obtain ⟨its,rv,p,hz⟩:=I.list hq;obtain ⟨f0,f1,f2,f3,f4,f5⟩:=hf it (by simp);have hl:=rv.length;exact wpAny_pyNext_enum_end (I.ok.hd hc) he hi p.isList (by simp;lia) λh' eb=>#[rfl,I.turned (t':=s.toks) (λb o hb q=>eb b o hb q) f0 f1 f3 f4 f5]
 self:=λ_ _ _ _ _ st h=>by
  obtain ⟨⟨old,he⟩,_⟩:=st;exact wpAny_pyIter_enum he h
inductive zD (K:Frag)(R:It->Hp->Prop)(vs:List V)(H1:Hp):Prop
 | c:∀ a,vs=[.ref a]->(∃ xs,SqL K H1 a xs)->R (Ite K a) H1->zD K R vs H1
def Fg (K:Frag)(ta:TA):TI:=λZ H R=>ta Z H λvs H1=>zD K R vs H1
section
variable {X:Cx}
def tZ {es:List Expr}{k0}{tp:Pos}{a:Expr}{p pos:Pos}(hg:Gl X "enumerate")(hm:X.mg "enumerate" = none)(ha:PA X [a] ta)(hs:starEach [a] X.env=[(false,eval a X.env)]:=by rfl):PI X (.Tuple es k0 tp) (.Call (.Name "enumerate" p) [a] [] pos) (Fg X.K ta):=by
 intro LB s Z H R I h;refine Call_ (gD I hg hm boot_enumerate (PyProof.Rows.callWith_type1 (thn (ha pos LB s Z H _ I h) λus s1 zq0=>?_) hs rfl));obtain ⟨vs,H1,I1,r1,q1⟩:=zq0;obtain ⟨l,e,⟨xs,hq⟩,q⟩:=q1;subst e;cases r1 with
 | cons r rr=>
  cases rr
  cases r
  obtain ⟨its,rv,pl,hz⟩:=I1.list hq;refine call_enumerate_list pl.isList λh' he hi _ hk=>?_;have I2:Inv X LB Z H1 { s1 with heap:=h' }:=I1.kept (t':=s1.toks) hk;refine wpAny_pyIter_enum (s:={ s1 with heap:=h' }) he #[_,[s1.heap.objs.size+1,s1.heap.objs.size],_,_,H1,rfl,I2,Ff l s1.heap.objs.size (s1.heap.objs.size+1) (Nat.succ_ne_self _),#[#[_,he],hi],λb hb=>?_,q];have hb':s1.heap.objs.size<=b:=by
   rcases aW.mp hb with z|z
   .rw[z];exact dm _
   .rw[aQ.mp z];exact ai _
  exact I1.fpOk hb' (I1.hok.fresh hb')
end
def t6 {K:Frag}{a:Addr}{g:TG}{tb:TS}{D:Ends}{Z:St}{H:Hp}(Pv:Nat->St->Hp->Prop)(h0:Pv 0 Z H)(hl:∀ i Z H,i<=xs.length->Pv i Z H->SqL K H a xs)
  (hs:∀ i x Z H p,xs[i]?=some x->Pv i Z H->H p=none->g (.ref p) Z (upd H p (.tup [.int i,x])) λZ2 H2=>tb { D with nx:=Pv (i+1),ct:=Pv (i+1),bk:=D.nx } Z2 H2) (hd:∀ Z H,Pv xs.length Z H->D.nx Z H) :
  ∃ W:Nat->Nat->St->Hp->Prop,(∃ m,W 0 m Z H)/\∀ i m Z H,W i m Z H->((Ite K a).stop i H/\D.nx Z H)\/((Ite K a).go i H/\∃ N:St->Hp->Prop,(∀ Z' H',N Z' H'->∃ m',m'<m/\W (i+1) m' Z' H')/\∀ x H',(Ite K a).yld i H x H'->g x Z H' λZ2 H2=>tb { D with nx:=N,ct:=N,bk:=D.nx } Z2 H2):=by
 refine #[λi m Z H=>i+m=xs.length/\Pv i Z H,#[xs.length,by lia,h0],λi m Z H zq0=>?_];obtain ⟨e,pv⟩:=zq0;have hS:=hl i Z H (by lia) pv;by_cases hi:i<xs.length
 .refine .inr #[#[xs,xs[i],hS,az hi],Pv (i+1),λZ' H' q=>#[m-1,by lia,by lia,q],λx H' y=>?_];obtain ⟨p,z,rfl,hp,hz,rfl⟩:=y;exact hs i z Z H p (hz xs hS) pv hp
 .have:i=xs.length:=by lia
  subst this;exact .inl #[#[xs,hS,ai _],hd Z H pv]
def Itz (K:Frag)(a b:Addr):It:=
 #[λi H=>∃ xs ys x y,SqL K H a xs/\SqL K H b ys/\xs[i]?=some x/\ys[i]?=some y,λi H x H'=>∃ p y z,x=.ref p/\H p=none/\(∀ xs,SqL K H a xs->xs[i]?=some y)/\(∀ xs,SqL K H b xs->xs[i]?=some z)/\H'=upd H p (.tup [y,z]),λi H=>∃ xs ys,SqL K H a xs/\SqL K H b ys/\(xs.length<=i\/ys.length<=i)]
def Fh {K:Frag}{es:List Expr}{k0}{pos:Pos}{a b z TI TO i1 i2:Addr}(D:ZipApart z TI TO i1 i2 a b):Turn P w K (.Tuple es k0 pos) (Itz K a b) [z,TI,TO,i1,i2] z
  (λi h=>IsZip h z TI TO .none/\IsPair h TI (.ref i1) (.ref i2)/\(∃ u v,IsPair h TO u v)/\h.IsListIter i1 a i/\h.IsListIter i2 b i) where
 mem:=by simp
 obj:=λi h st c hc=>by
  obtain ⟨hz,hTI,⟨u,v,hTO⟩,⟨o1,e1,_,d1⟩,⟨o2,e2,_,d2⟩⟩:=st;simp only[aW,dU,or_false]at hc;rcases hc with rfl|rfl|rfl|rfl|rfl
  .exact #[_,hz,λv q=>by cases q]
  .exact #[_,hTI,λv q=>by cases q]
  .exact #[_,hTO,λv q=>by cases q]
  .exact #[o1,e1,λv q=>by rw[d1]at q;cases q]
  .exact #[o2,e2,λv q=>by rw[d2]at q;cases q]
 keep:=λi h h' st k=>by
  obtain ⟨hz,hTI,⟨u,v,hTO⟩,h1,h2⟩:=st;exact #[k z (by simp) _ hz,k TI (by simp) _ hTI,#[u,v,k TO (by simp) _ hTO],h1.at λo q=>k i1 (by simp) o q,h2.at λo q=>k i2 (by simp) o q]
 item:=by
  intro X hP hw hK hc i LB s Z H E I hf st hg;subst hP hw hK;obtain ⟨hz,hTI,⟨u0,v0,hTO⟩,h1,h2⟩:=st;obtain ⟨xs,ys,x,y,hqa,hqb,hx,hy⟩:=hg;obtain ⟨its,rv,p,_⟩:=I.list hqa;obtain ⟨jts,rw',p',_⟩:=I.list hqb;obtain ⟨u,hu,ru⟩:=rv.get hx;obtain ⟨v,hv,rv'⟩:=rw'.get hy;refine wpAny_pyNext_zip_item D hz hTI hTO h1 h2 p.isList p'.isList (x:=u) (y:=v) (by simpa using hu) (by simpa using hv) λh1' hz1 hTO1 hi1 hi2 ht1 _ k1=>?_;refine #[_,rfl,wpAny_letOwnedTupleGo_zip (s:={ s with heap:=h1' }) hz1 λh2' hz2 sb=>?_];have np:s.heap.objs.size≠z:=iD (aK hz);have ht2:h2'.get? s.heap.objs.size=some { cls:=.type "tuple",data:=.seq (List.toArray [u,v]) }:=(sb.2 _ np).trans ht1;have I2:Inv X LB Z (upd H s.heap.objs.size (.tup [x,y])) { s with heap:=h2',toks:=s.toks }:=
   I.turnedNew (fp:=[z,TI,TO,i1,i2]) (λc ob hb q=>(sb.2 c (λr=>hb (by simp[r]))).trans (k1 c ob (λr=>hb (by simp[r])) (λr=>hb (by simp[r])) (λr=>hb (by simp[r])) (λr=>hb (by simp[r])) q)) hf (ai _) (zC ru rv' ht2)
  refine #[.ref s.heap.objs.size,_,I2,rfl,#[_,x,y,rfl,I.hok.fresh (ai _),λys hy'=>by rw[I.list_inj hy' hqa];exact hx,λys hy'=>by rw[I.list_inj hy' hqb];exact hy,rfl],#[hz2,(sb.2 _ D.TIz).trans (k1 TI _ D.TIz D.TITO D.TIi1 D.TIi2 hTI),#[_,_,(sb.2 _ D.TOz).trans hTO1],hi1.at λo q=>(sb.2 i1 D.i1z).trans q,hi2.at λo q=>(sb.2 i2 D.i2z).trans q],λc hb=>?_];have zf:=(hf c hb).1;have lt:c<s.heap.objs.size:=by
   simp only[aW,dU,or_false]at hb;obtain ⟨o1,e1,_⟩:=h1;obtain ⟨o2,e2,_⟩:=h2;rcases hb with rfl|rfl|rfl|rfl|rfl
   .exact aK hz
   .exact aK hTI
   .exact aK hTO
   .exact aK e1
   .exact aK e2
  rw[aj (bo lt)];exact zf
 done:=by
  intro X hP hw hK hc i LB s Z H E I hf st hg;subst hP hw hK;obtain ⟨hz,hTI,⟨u0,v0,hTO⟩,h1,h2⟩:=st;obtain ⟨xs,ys,hqa,hqb,hend⟩:=hg;obtain ⟨its,rv,p,_⟩:=I.list hqa;obtain ⟨jts,rw',p',_⟩:=I.list hqb;have l1:=rv.length;have l2:=rw'.length;refine wpAny_pyNext_zip_end (I.ok.hd hc) D hz hTI hTO h1 h2 p.isList p'.isList (by
   rcases hend with q|q
   .left;simp;lia
   .right;simp;lia) λh' kk=>#[rfl,?_]
  refine I.step (g':=s.gens) (d':=s.drawn) (t':=s.toks) (ch:=[z,TI,TO,i1,i2]) (λc hb=>?_) (λc ob _ _ hn q _=>kk c ob (λr=>hn (by simp[r])) (λr=>hn (by simp[r])) (λr=>hn (by simp[r])) (λr=>hn (by simp[r])) q)
   (λc ob _ _ hn q _=>#[ob.slots,kk c ob (λr=>hn (by simp[r])) (λr=>hn (by simp[r])) (λr=>hn (by simp[r])) (λr=>hn (by simp[r])) q]) (λ_ _ _ _ n=>n)
   (λc ob hn q=>#[ob,kk c ob (λr=>hn (by simp[r])) (λr=>hn (by simp[r])) (λr=>hn (by simp[r])) (λr=>hn (by simp[r])) q]) (λ_ _ q=>q) (λ_ _ _ q=>q) (λc ps q=>#[(List.toArray []),by rw[q];simp]) (λm hm=>?_) (λc u e=>?_) I.bare
  .obtain ⟨_,q2,_,q4,q5,q6⟩:=hf c hb;exact #[q4,q2,q5,q6]
  .obtain ⟨ob,es,ep,ho,r⟩:=hm;have nL:∀ c∈[z,TI,TO,i1,i2],X.env.locals≠c:=λc hc=>aS (hf c hc).2.1;exact #[ob,es,ep,kk _ ob (nL z (by simp)) (nL TO (by simp)) (nL i1 (by simp)) (nL i2 (by simp)) ho,r]
  .have nf:∀ c' u,H c'=some u->∀ q∈[z,TI,TO,i1,i2],c'≠q:=λc' u e q hq r=>by rw[r,(hf q hq).1]at e;cases e
   refine (I.hok c u e).stay (λc' v hc' q=>?_) (λ_ q=>q) λ_ _ q=>q;have go:∀ u',H c'=some u'->h'.get? c'=some v:=λu' e'=>kk c' v (nf c' _ e' z (by simp)) (nf c' _ e' TO (by simp)) (nf c' _ e' i1 (by simp)) (nf c' _ e' i2 (by simp)) q;rcases hc' with r|r
   .exact go u (by rw[r];exact e)
   .exact go _ r
 self:=λ_ _ _ _ _ st h=>wpAny_pyIter_zip st.1 h
def Fi {l l' n:Nat}(hl:l<n)(hl':l'<n):ZipApart (n+4) (n+2) (n+3) n (n+1) l l':=by
 constructor<;>(intro z;have z':(_:Nat)=_:=z;lia)
def Fj {n c:Nat}(h:c∈[n+4,n+2,n+3,n,n+1]):n<=c:=by
 simp only[aW,dU,or_false]at h;lia
inductive zE (K:Frag)(R:It->Hp->Prop)(vs:List V)(H1:Hp):Prop
 | c:∀ a b,vs=[.ref a,.ref b]->(∃ xs,SqL K H1 a xs)->(∃ xs,SqL K H1 b xs)->R (Itz K a b) H1->zE K R vs H1
def iZip (K:Frag)(ta:TA):TI:=λZ H R=>ta Z H λvs H1=>zE K R vs H1
section
variable {X:Cx}
def t7 {es:List Expr}{k0}{tp:Pos}{a b:Expr}{p pos:Pos}(hg:Gl X "zip")(hm:X.mg "zip" = none)(ha:PA X [a,b] ta)(hs:starEach [a,b] X.env=[(false,eval a X.env),(false,eval b X.env)]:=by rfl)(hs2:starEach [b] X.env=[(false,eval b X.env)]:=by rfl):PI X (.Tuple es k0 tp) (.Call (.Name "zip" p) [a,b] [] pos) (iZip X.K ta):=by
 intro LB s Z H R I h;refine Call_ (gD I hg hm boot_zip (PyProof.Rows.callWith_type1 (thn (ha pos LB s Z H _ I h) λus s1 zq0=>?_) (by rw[hs,hs2]) (by rw[hs2];rfl)));obtain ⟨vs,H1,I1,r1,q1⟩:=zq0;obtain ⟨l,l',e,⟨xs,hq⟩,⟨ys,hq'⟩,q⟩:=q1;subst e;cases r1 with
 | cons r rr=>
  cases rr with
  | cons r' rr=>
   cases rr
   cases r
   cases r'
   obtain ⟨its,rv,pl,hz⟩:=I1.list hq;obtain ⟨jts,rv',pl',hz'⟩:=I1.list hq';have hl:l<s1.heap.objs.size:=by obtain ⟨o,_,e,_⟩:=pl;exact aK e
   have hl':l'<s1.heap.objs.size:=by obtain ⟨o,_,e,_⟩:=pl';exact aK e
   refine call_zip_2 pl.isList pl'.isList λh' hz hTI hTO hi hi' _ hk=>?_;have I2:Inv X LB Z H1 { s1 with heap:=h' }:=I1.kept (t':=s1.toks) hk;refine wpAny_pyIter_zip (s:={ s1 with heap:=h' }) hz #[_,[s1.heap.objs.size+4,s1.heap.objs.size+2,s1.heap.objs.size+3,s1.heap.objs.size,s1.heap.objs.size+1],_,_,H1,rfl,I2,Fh (Fi hl hl'),#[hz,hTI,#[_,_,hTO],hi,hi'],λc hb=>?_,q];have hb':s1.heap.objs.size<=c:=Fj hb;exact I1.fpOk hb' (I1.hok.fresh hb')
end
def Fk {K:Frag}{a:Addr}{xs ys:List V}{g:TG}{tb:TS}{D:Ends}{Z:St}{H:Hp}(hlen:xs.length=ys.length)(Pv:Nat->St->Hp->Prop)(h0:Pv 0 Z H)(hl:∀ i Z H,i<=xs.length->Pv i Z H->SqL K H a xs/\SqL K H b ys)
  (hs:∀ i x y Z H p,xs[i]?=some x->ys[i]?=some y->Pv i Z H->H p=none->g (.ref p) Z (upd H p (.tup [x,y])) λZ2 H2=>tb { D with nx:=Pv (i+1),ct:=Pv (i+1),bk:=D.nx } Z2 H2) (hd:∀ Z H,Pv xs.length Z H->D.nx Z H) :
  ∃ W:Nat->Nat->St->Hp->Prop,(∃ m,W 0 m Z H)/\∀ i m Z H,W i m Z H->((Itz K a b).stop i H/\D.nx Z H)\/((Itz K a b).go i H/\∃ N:St->Hp->Prop,(∀ Z' H',N Z' H'->∃ m',m'<m/\W (i+1) m' Z' H')/\∀ x H',(Itz K a b).yld i H x H'->g x Z H' λZ2 H2=>tb { D with nx:=N,ct:=N,bk:=D.nx } Z2 H2):=by
 refine #[λi m Z H=>i+m=xs.length/\Pv i Z H,#[xs.length,by lia,h0],λi m Z H zq0=>?_];obtain ⟨e,pv⟩:=zq0;obtain ⟨hS,hS'⟩:=hl i Z H (by lia) pv;by_cases hi:i<xs.length
 .refine .inr #[#[xs,ys,xs[i],ys[i]'(by lia),hS,hS',az hi,az (by lia)],Pv (i+1),λZ' H' q=>#[m-1,by lia,by lia,q],λx H' y=>?_];obtain ⟨p,z,z',rfl,hp,hz,hz',rfl⟩:=y;exact hs i z z' Z H p (hz xs hS) (hz' ys hS') pv hp
 .have:i=xs.length:=by lia
  subst this;exact .inl #[#[xs,ys,hS,hS',.inl (ai _)],hd Z H pv]
def dk (X:Cx)(N:List Str)(scope:Scope)(cl:List (Str×Addr))(C:Addr)(s₂:Shared)(H₂:Hp)(fp:List Addr):Cx:=
 { X with N:=N,s₀:=s₂,H₀:=H₂,env:=compEnvC scope cl C X.env,outer:=X.stack,stack:=X.stack,ex:=fp,fn:=λ_=>false,xe:=λ_ _=>False }
structure iZ (scope:Scope)(env:Env)(cl:List (Str×Addr)):Prop where
 eq:closureFor scope env=pure cl
 sub:∀ x c,cl.lookup x=some c->env.cells.lookup x=some c
 has:∀ x,(x,NameKind.free)∈scope.names->∃ c,cl.lookup x=some c
def t8 {env:Env}:∀(names:List (Str×NameKind)) (cs:List (Str×Addr)),(∀ x,(x,NameKind.free)∈names->∃ c,env.cells.lookup x=some c)->(∀ x c,cs.lookup x=some c->env.cells.lookup x=some c)->
  ∃ cl:List (Str×Addr),(forIn names cs (λ(x:Str×NameKind) (r:List (Str×Addr))=>if (x.2==NameKind.free)=true then (do let c <-cellOf env x.1;pure (ForInStep.yield ((x.1,c)::r))) else pure (ForInStep.yield r)):Sem (List (Str×Addr)))=pure cl/\
   (∀ x c,cl.lookup x=some c->env.cells.lookup x=some c)/\(∀ x c,cs.lookup x=some c->∃ c',cl.lookup x=some c')/\∀ x,(x,NameKind.free)∈names->∃ c,cl.lookup x=some c
 | [],cs,_,h2=>#[cs,by rw[List.forIn_nil],h2,λx c e=>#[c,e],λ_ z=>nomatch z]
 | (n,k)::r,cs,h1,h2=>by
  by_cases hk:k=.free
  .subst hk;obtain ⟨c,hc⟩:=h1 n bx;have hn:∀ x c',((n,c)::cs).lookup x=some c'->env.cells.lookup x=some c':=λx c' e=>by
    rw[c6]at e;cases hx:x==n with
    | true=>
     rw[hx]at e;cases e
     rw[eq_of_beq hx];exact hc
    | false=>
     rw[hx]at e;exact h2 x c' e
   obtain ⟨cl,e,s1,s2,s3⟩:=t8 r ((n,c)::cs) (λx hx=>h1 x (bG _ hx)) hn;have here:∃ c',cl.lookup n=some c':=s2 n c (by rw[c6,beq_self_eq_true]);refine #[cl,?_,s1,λx c' q=>?_,λx hx=>?_]
   .rw[List.forIn_cons,ae (by rfl)];have q:cellOf env n=pure c:=by unfold cellOf;rw[hc]
    rw[q];simp only[pure_bind];exact e
   .cases hxn:x==n with
    | true=>rw[eq_of_beq hxn];exact here
    | false=>exact s2 x c' (by rw[c6,hxn];exact q)
   .rcases aW.mp hx with z|z
    .cases z;exact here
    .exact s3 x z
  .obtain ⟨cl,e,s1,s2,s3⟩:=t8 r cs (λx hx=>h1 x (bG _ hx)) h2;refine #[cl,?_,s1,s2,λx hx=>?_]
   .have hb:(k==NameKind.free)=false:=by simpa using hk
    rw[List.forIn_cons,af (by rw[hb];exact cm)];simp only[pure_bind];exact e
   .rcases aW.mp hx with z|z
    .cases z;exact absurd rfl hk
    .exact s3 x z
def ox {scope:Scope}{env:Env}(h:∀ x,(x,NameKind.free)∈scope.names->∃ c,env.cells.lookup x=some c):∃ cl,iZ scope env cl:=by
 obtain ⟨cl,e,s1,_,s3⟩:=t8 scope.names [] h (λ_ _ z=>nomatch z);refine #[cl,?_,s1,s3];unfold closureFor;exact (by simpa using e)
def t9 {env:Env}:∀{names:List (Str×NameKind)} {x:Str},names.lookup x=some .free->
  (names.map λ(n,k)=>if (k==NameKind.free&&env.scope.kind == .function&&env.kindOf n==some .cell) then (n,NameKind.cell) else (n,k)).lookup x=some .cell\/
  (names.map λ(n,k)=>if (k==NameKind.free&&env.scope.kind == .function&&env.kindOf n==some .cell) then (n,NameKind.cell) else (n,k)).lookup x=some .free
 | [],_,h=>by simp at h
 | (n,k)::r,x,h=>by
  have ih:=@t9 env r x;show List.lookup x ((if (k==NameKind.free&&env.scope.kind == .function&&env.kindOf n==some .cell)=true then (n,NameKind.cell) else (n,k))::_)=_\/List.lookup x ((if (k==NameKind.free&&env.scope.kind == .function&&env.kindOf n==some .cell)=true then (n,NameKind.cell) else (n,k))::_)=_
  cases hx:x==n with
  | true=>
   simp only[c6,hx]at h;cases h
   by_cases hc:(NameKind.free==NameKind.free&&env.scope.kind == .function&&env.kindOf n==some .cell)=true
   .rw[ae hc];left;simp only[c6,hx]
   .rw[af hc];right;simp only[c6,hx]
  | false=>
   simp only[c6,hx]at h;by_cases hc:(k==NameKind.free&&env.scope.kind == .function&&env.kindOf n==some .cell)=true
   .rw[ae hc];simp only[c6,hx];exact ih h
   .rw[af hc];simp only[c6,hx];exact ih h
def uc {env:Env}:∀{names:List (Str×NameKind)} {x:Str} {k':NameKind},(names.map λ(n,k)=>if (k==NameKind.free&&env.scope.kind == .function&&env.kindOf n==some .cell) then (n,NameKind.cell) else (n,k)).lookup x=some k'->k'=.cell\/k'=.free->
  (∀ y∈names,y.2≠.cell)->(x,NameKind.free)∈names
 | [],_,_,h,_,_=>by simp at h
 | (n,k)::r,x,k',h,hk,hc=>by
  have ih:=@uc env r x k';have h':List.lookup x ((if (k==NameKind.free&&env.scope.kind == .function&&env.kindOf n==some .cell)=true then (n,NameKind.cell) else (n,k))::r.map λ(n,k)=>if (k==NameKind.free&&env.scope.kind == .function&&env.kindOf n==some .cell) then (n,NameKind.cell) else (n,k))=some k':=h
  cases hx:x==n with
  | true=>
   have e:=eq_of_beq hx;subst e;by_cases hf:k=.free
   .subst hf;exact bx
   .have hb:(k==NameKind.free)=false:=by simpa using hf
    rw[af (by rw[hb];simp),c6,hx]at h';cases h'
    rcases hk with z|z
    .exact absurd z (hc (x,k) bx)
    .exact absurd z hf
  | false=>
   refine bG _ (ih ?_ hk λy hy=>hc y (bG _ hy));by_cases hcd:(k==NameKind.free&&env.scope.kind == .function&&env.kindOf n==some .cell)=true
   .rw[ae hcd,c6,hx]at h';exact h'
   .rw[af hcd,c6,hx]at h';exact h'
def eD (own:Nat)(cap:List Nat)(Z:St):St:=List.replicate own none++cap.map λi=>(Z[i]?).getD none
structure oy (X:Cx)(scope:Scope)(N:List Str)(own:Nat)(cap:List Nat):Prop where
 kind:scope.kind=.function
 nocell:(scope.names.all λy=>y.2 != .cell)=true
 locs:(scope.names.all λy=>y.2 != .local||scope.names.lookup y.1==some .local)=true
 frees:(scope.names.all λy=>y.2 != .free||(X.env.kindOf y.1==some .cell||X.env.kindOf y.1==some .free))=true
 len:N.length=own+cap.length
 caps:((List.range cap.length).all λj=>(N[own+j]?==X.N[cap[j]!]?)&&(match N[own+j]? with|some x=>scope.names.lookup x==some .free&&(X.env.kindOf x==some .cell||X.env.kindOf x==some .free)|none=>false))=true
section
variable {prog:Program}{w:World}{A:Around}{R:Result->Shared->Prop}{s:Shared}
def zF {elt target iter:Expr}{ifs:List Expr}{scope:Scope}{pos:Pos}{it acc:Value}{env:Env}(I:Nat->Shared->Prop)
  (turn:∀ n s,I n s->wpAny (model prog w) A (pyNext it) (λr s₁=>match r with
   | none=>R (.ok .next) s₁
   | some v=>wpAny (model prog w) A (letOwnedTupleGo target it v) (λ_ s₁'=>wpAny (model prog w) A (assign target env v) (λ_ s₂=>
     wpAny (model prog w) A (forIn ifs true λc r=>if r=true then do let ok <-isTrue c env (eval c env);pure (ForInStep.yield ok) else pure (ForInStep.yield r)) (λok s₃=>
      if ok=true then wpAny (model prog w) A (eval elt env) (λx s₄=>
       wpAny (model prog w) A (call (.builtin "list.append") [acc,x]) (λ_ s₅=>∃ m,m<n/\I m s₅) (λ_ _=>False) s₄) (λ_ _=>False) s₃
      else ∃ m,m<n/\I m s₃) (λ_ _=>False) s₂) (λ_ _=>False) s₁') (λ_ _=>False) s₁) (λ_ _=>False) s)
  (n:Nat) (h:I n s) :
  codeAny (model prog w) A (.compLoop (.ListComp elt [#[target,iter,ifs,0]] scope pos) 0 it acc env) R s:=by
 refine codeAny_loop rfl I (λn s hI=>?_) n h;show wpAny _ A ((compTurn (.ListComp elt [#[target,iter,ifs,0]] scope pos) 0 it acc env).onRaise (λx=>do noteFrame x env;theTreesLotGoes x)) _ _ s
 refine wpAny_noted ?_;rw[compTurn_list];refine ao (wpAny_standAt (ao (dP (turn n s hI) (λr s₁ h₁=>?_) λ_ _ h'=>h'.elim)));cases r with
 | none=>exact aA h₁
 | some v=>
  refine ao (dP h₁ (λ_ s₁' h₁'=>?_) λ_ _ h'=>h'.elim);refine ao (dP h₁' (λ_ s₂ h₂=>ao (dP h₂ (λok s₃ h₃=>?_) λ_ _ h'=>h'.elim)) λ_ _ h'=>h'.elim);cases ok with
  | true=>
   simp only[if_true]at h₃ ⊢;exact ao (ao (dP h₃ (λx s₄ h₄=>ao (dP h₄ (λ_ s₅ h₅=>aA (aA #[rfl,h₅])) λ_ _ h'=>h'.elim)) λ_ _ h'=>h'.elim))
  | false=>
   simp only[cS,if_false]at h₃ ⊢;exact aA #[rfl,h₃]
end
section
variable {X:Cx}
def PTs (X:Cx)(ifs:List Expr)(t:TT):Prop:=
 ∀(LB:List (Addr×Obj)) (s:Shared) (Z:St) (H:Hp) (Q:Bool->Hp->Prop),Inv X LB Z H s->t Z H Q->
  wpAny (model X.prog X.w) X.A (forIn ifs true λc r=>if r=true then do let ok <-isTrue c X.env (eval c X.env);pure (ForInStep.yield ok) else pure (ForInStep.yield r)) (TP X LB Z Q) X.xe s
def tYes:TT:=λ_ H Q=>Q true H
def dI:PTs X [] tYes:=λ_ _ _ H _ I h=>wpAny_tests_nil #[H,I,h]
def ik {t:TT}(h:PT X c t):PTs X [c] t:=λLB s Z H Q I q=>wpAny_tests_one (h LB s Z H Q I q)
def Fl {C:Addr}{fp:List Addr}{h₁:Heap}{tk:Nat}{D:Addr}
  (I:Inv X LB Z H s) (c:oy X scope N own cap) (hcl:iZ scope X.env cl) (f:∀ b∈fp,FpOk X LB H b) (hD:s.heap.objs.size<=D) (hC:s.heap.objs.size<=C) (hCD:D≠C)
  (kp:∀ b o,s.heap.get? b=some o->h₁.get? b=some o) (hnew:h₁.get? D=some { cls:=.type "list",data:=.seq (List.toArray []) }) (hns:∃ m,h₁.Ns C m) (hfp:∀ b∈fp,b<s.heap.objs.size) (hcalm:X.calm=true) :
  Inv (dk X N scope cl C s H fp) LB (eD own cap Z) (upd H D (.lst [])) { s with heap:=h₁,toks:=tk }:=by
 have hfr:H D=none:=I.hok.fresh hD;have hfrC:H C=none:=I.hok.fresh hC;have sz:∀ b o,s.heap.get? b=some o->b≠D/\b≠C:=λb o e=>#[bo (aP (aK e) hD),bo (aP (aK e) hC)];have cells:∀ x cc,cl.lookup x=some cc->∃ v,s.heap.IsCell cc v:=λx cc e=>I.cell x cc (hcl.sub x cc e);have cellne:∀ x cc,cl.lookup x=some cc->cc≠D/\cc≠C:=λx cc e=>by
  obtain ⟨v,o,ho,_⟩:=cells x cc e;exact sz cc o ho
 have ok:(dk X N scope cl C s H fp).Ok:=by
  refine #[I.ok.mod,c.kind,I.ok.glob,I.ok.blt,hC,λx y cc e1 e2=>I.ok.inj x y cc (hcl.sub x cc e1) (hcl.sub y cc e2),λx hx=>?_,(λx cc z _=>nomatch z),I.ok.hd,I.ok.frames,.inl rfl,λb hb=>?_,λb o e=>I.bs b o e,?_,λb o e hb=>?_,λb hb z=>?_,I.stack,λb hb=>I.stkFree b hb]
  .have hm:(x,NameKind.free)∈scope.names:=by
    rcases hx with z|z
    .exact uc (env:=X.env) (names:=scope.names) (x:=x) (k':=.cell) z (.inl rfl) λy hy q=>by
      have:=eA.mp c.nocell y hy;rw[q]at this;exact absurd this (by decide)
    .exact uc (env:=X.env) (names:=scope.names) (x:=x) (k':=.free) z (.inr rfl) λy hy q=>by
      have:=eA.mp c.nocell y hy;rw[q]at this;exact absurd this (by decide)
   exact hcl.has x hm
  .exact #[bo (aP (hfp b hb) hC),λx cc e z=>(f b hb).2.2.2.2.1 x cc (hcl.sub x cc e) z]
  .exact ax I.ok.bsz I.sz
  .obtain ⟨_,_,_,h4,_⟩:=f b hb;rcases h4 with z|z
   .exact I.ok.noex b o e z
   .exact absurd (aP (aK e) (ax I.ok.bsz z)) (dQ _)
  .obtain ⟨_,h2,h3,_⟩:=f b hb;rcases aW.mp (I.stkSub b z) with q|q
   .exact h2 q
   .exact h3 q
 have hokN:bD X.prog X.w (upd H D (.lst [])) h₁ D (.lst []):=#[bK _,[],0,.nil,hnew];refine #[ok,I.os.symm ▸ rfl,I.bare,Un.laid kp hD hfr,?_,λx cc e=>?_,?_,λx cc e=>?_,λp hp=>?_,I.hok.laid kp hD hokN,?_]
 .obtain ⟨m,hm⟩:=hns;refine #[m,hm,λi x v e1 e2 e3=>?_];have hi:own<=i:=by
   false_or_by_contra
   rename_i z;unfold eD at e2;rw[gS (by rw[cR];lia),sG]at e2;split at e2<;>cases e2
  obtain ⟨j,rfl⟩:∃ j,i=own+j:=#[i-own,by lia];have hj:j<cap.length:=by
   have:=(aM.mp e1).1;have z:=c.len;have this':own+j<N.length:=this;lia
  have hc:=eA.mp c.caps j (cZ.mpr hj);have e1':N[own+j]?=some x:=e1;rw[e1']at hc;simp only[d9,beq_iff_eq,kU]at hc;obtain ⟨hN,hf,hk⟩:=hc;have e2':Z[cap[j]!]?=some (some v):=by
   unfold eD at e2;rw[fM (by rw[cR];lia),cR,show own+j-own=j by lia,bf]at e2;have g:cap[j]! = cap[j]:=by simp[hj]
   rw[az hj,jk]at e2;rw[g];have e2:=aJ e2;cases q:Z[cap[j]]? with
   | none=>rw[q]at e2;cases e2
   | some z=>rw[q]at e2;exact congrArg some e2
  obtain ⟨m0,_,hl⟩:=I.loc;obtain ⟨u,ru,lk⟩:=hl (cap[j]!) x v hN.symm e2' (by
   rcases hk with z|z
   .exact .inr (.inl z)
   .exact .inr (.inr z))
  refine #[u,ru,.inr #[t9 (env:=X.env) hf,?_]];rcases lk with ⟨z,_⟩|⟨_,cc,ec,ic⟩
  .rcases hk with q|q
   .rw[q]at z;cases z
   .rw[q]at z;cases z
  ·obtain ⟨c',hc'⟩:=hcl.has x (by
    have:(x,NameKind.free)∈scope.names:=by
     have hlk:=hf;obtain ⟨l1,l2,hs,hno⟩:=List.lookup_eq_some_iff.mp hlk;rw[hs];exact cn _ bx
    exact this)
   have:=hcl.sub x c' hc';rw[ec]at this;cases this
   obtain ⟨o,ho,hd⟩:=ic;exact #[cc,hc',o,kp cc o ho,hd]
 .obtain ⟨v,o,ho,hd⟩:=cells x cc e;exact #[v,o,kp cc o ho,hd]
 .show upd H D (.lst []) C=none;rw[aj (aS hCD)];exact hfrC
 .show upd H D (.lst []) cc=none;rw[aj (cellne x cc e).1];exact I.freeC x cc (hcl.sub x cc e)
 .obtain ⟨e,n,ne,nf,d⟩:=I.pin p hp;refine #[kp _ _ e,?_,(sz _ _ e).2,λz=>?_,d]
  .show upd H D (.lst []) p.1=none;rw[aj (sz _ _ e).1];exact n
  .rcases aW.mp (I.stkSub p.1 z) with q|q
   .exact ne q
   .exact nf q
 .show (eD own cap Z).length=N.length;unfold eD;rw[bc,cR,aq,c.len]
def ud (own:Nat)(cap:List Nat)(wi:TI)(g:TG)(ts:TT)(te:TE):TE:=λZ H Q=>wi Z H λJ H1=>∀ D,H1 D=none->∃ W:Nat->Nat->St->Hp->Prop,(∃ m,W 0 m (eD own cap Z) (upd H1 D (.lst [])))/\∀ i m Z H,W i m Z H->
 (J.stop i H/\Q (.ref D) H)\/(J.go i H/\∀ x H',J.yld i H x H'->g x Z H' λZ2 H2=>ts Z2 H2 λb H3=>if b=true then te Z2 H3 λy H4=>∃ xs,H4 D=some (.lst xs)/\xs.length<sizeLine/\∃ m',m'<m/\W (i+1) m' Z2 (upd H4 D (.lst (xs++[y]))) else ∃ m',m'<m/\W (i+1) m' Z2 H3)
def zG {fp:List Addr}{iter:Expr}{pos:Pos}{Q:VK}
  {E:Value->Shared->Prop} {RR:Value->Addr->Result->Shared->Prop}
  (hcalm:X.calm=true) (c:oy X scope N own cap) (hcl:iZ scope X.env cl)
  (hg:∀ cl C s₂ H₂ fp,PG (dk X N scope cl C s₂ H₂ fp) tg g) (hts:∀ cl C s₂ H₂ fp,PTs (dk X N scope cl C s₂ H₂ fp) ifs ts) (he:∀ cl C s₂ H₂ fp,PE (dk X N scope cl C s₂ H₂ fp) elt te)
  (I2:Inv X LB Z H2 s2) (T:Turn X.prog X.w X.K tg J fp it tn) (st2:tn 0 s2.heap) (f2:∀ b∈fp,FpOk X LB H2 b)
  (rd:∀ D,H2 D=none->∃ W:Nat->Nat->St->Hp->Prop,(∃ m,W 0 m (eD own cap Z) (upd H2 D (.lst [])))/\∀ i m Z H,W i m Z H->
   (J.stop i H/\Q (.ref D) H)\/(J.go i H/\∀ x H',J.yld i H x H'->g x Z H' λZ2 H2=>ts Z2 H2 λb H3=>if b=true then te Z2 H3 λy H4=>∃ xs,H4 D=some (.lst xs)/\xs.length<sizeLine/\∃ m',m'<m/\W (i+1) m' Z2 (upd H4 D (.lst (xs++[y]))) else ∃ m',m'<m/\W (i+1) m' Z2 H3))
  (hRR:∀ D C s' H',Inv X LB Z H' s'->(∃ m,s'.heap.Ns C m)->FpOk X LB H' C->Q (.ref D) H'->RR (.ref D) C (.ok .next) s') :
  wpAny (model X.prog X.w) X.A (newList []) (λacc s₃=>wpAny (model X.prog X.w) X.A (newFunctionEnv scope X.env.globals cl [] X.env.qual none .none (some X.env)) (λcenv s₄=>
   codeAny (model X.prog X.w) X.A (.compStart (.ListComp elt [#[tg,iter,ifs,0]] scope pos) 0 (.ref it) acc { cenv with scope:=relabel scope X.env }) (RR acc cenv.locals) s₄) E s₃) E s2:=by
 have hcell:∀ y∈scope.names,y.2≠.cell:=λy hy q=>by
  have:=eA.mp c.nocell y hy;rw[q]at this;exact absurd this (by decide)
 have hfp:∀ b∈fp,b<s2.heap.objs.size:=λb hb=>by
  obtain ⟨o,e,_⟩:=T.obj 0 _ st2 b hb;exact aK e
 refine wpAny_newObj_type (wpAny_newFunctionEnv hcell (by intro y hy;simp at hy) (λh₁ hns₁ hsb₁=>?_) c.kind);dsimp only at hns₁ hsb₁ ⊢;generalize hHH:s2.heap.push { cls:=.type "list",dict:=none,data:=.seq ([]:List Value).toArray }=HH at hns₁ hsb₁ ⊢;have hC:HH.objs.size=s2.heap.objs.size+1:=by rw[<-hHH,jw]
 have hDC:s2.heap.objs.size≠HH.objs.size:=by rw[hC];exact bo (jx _)
 have hCle:s2.heap.objs.size<=HH.objs.size:=by rw[hC];exact dm _
 have old:∀ b o,s2.heap.get? b=some o->h₁.get? b=some o:=λb o e=>hsb₁.extBut b o (bo (by rw[hC];exact nB (aK e))) (aR _ (hHH ▸ aR _ e));have hnew:h₁.get? s2.heap.objs.size=some { cls:=.type "list",data:=.seq (List.toArray []) }:=hsb₁.extBut _ _ hDC (aR _ (hHH ▸ cQ _ rfl));have I3:∀ tk,Inv (dk X N scope cl HH.objs.size s2 H2 fp) LB (eD own cap Z) (upd H2 s2.heap.objs.size (.lst [])) { s2 with heap:=h₁,toks:=tk }:=λtk=>
  Fl I2 c hcl f2 (ai _) hCle hDC old hnew #[_,hns₁] hfp hcalm
 obtain ⟨W,⟨m0,w0⟩,turn⟩:=rd s2.heap.objs.size (I2.hok.fresh (ai _));have st3:tn 0 h₁:=T.keep _ _ _ st2 λb _ o e=>old b o e;have fr3:∀ b∈fp,upd H2 s2.heap.objs.size (.lst []) b=none:=λb hb=>by rw[aj (bo (hfp b hb))];exact (f2 b hb).1
 have stat:∀{H':Hp},(∀ b∈fp,H' b=none)->∀ b∈fp,FpOk (dk X N scope cl HH.objs.size s2 H2 fp) LB H' b:=λhn b hb=>by
  obtain ⟨_,h2,h3,_,h5,h6⟩:=f2 b hb;refine #[hn b hb,bo (aP (hfp b hb) hCle),λz=>?_,.inl hb,λx cc e=>h5 x cc (hcl.sub x cc e),h6];rcases aW.mp (I2.stkSub b z) with q|q
  .exact h2 q
  .exact h3 q
 have loop:∀ s₃:Shared,s₃={ s2 with heap:=h₁,toks:=s2.toks+([]:List (Str×Value)).length }->
   codeAny (model X.prog X.w) X.A (.compLoop (.ListComp elt [#[tg,iter,ifs,0]] scope pos) 0 (.ref it) (.ref s2.heap.objs.size) (compEnvC scope cl HH.objs.size X.env)) (RR (.ref s2.heap.objs.size) HH.objs.size) s₃:=by
  rintro s₃ rfl;refine zF (λn s'=>∃ i Z' H',Inv (dk X N scope cl HH.objs.size s2 H2 fp) LB Z' H' s'/\tn i s'.heap/\(∀ b∈fp,H' b=none)/\W i n Z' H') ?_ m0 #[0,_,_,I3 _,st3,fr3,w0];rintro n s3 ⟨i,Z3,H3,J3,t3,fr,w3⟩;rcases turn i n Z3 H3 w3 with ⟨stop,qn⟩|⟨go,step⟩
  .refine thn (T.done (dk X N scope cl HH.objs.size s2 H2 fp) rfl rfl rfl hcalm i LB s3 Z3 H3 (λ_ _=>False) J3 (stat fr) t3 stop) λr s4 zq0=>?_;obtain ⟨hr,I4⟩:=zq0;subst hr;obtain ⟨mm,hmm,_⟩:=I4.loc;refine hRR _ _ s4 H3 (I2.call' I4.os I4.base I4.hok I4.bare λb hb=>?_) #[mm,hmm] (I2.fpOk hCle I4.free) qn;obtain ⟨_,h2,_,h4,h5,h6⟩:=f2 b hb;exact #[h4,h2,h5,h6]
  .refine thn (T.item (dk X N scope cl HH.objs.size s2 H2 fp) rfl rfl rfl hcalm i LB s3 Z3 H3 (λ_ _=>False) J3 (stat fr) t3 go) λr s4 zq0=>?_;obtain ⟨u,hr,h4⟩:=zq0;subst hr;refine thn h4 λ_ s5 zq0=>?_;obtain ⟨x,H5,I5,r5,y5,st5,fr5⟩:=zq0;have I5':=I5.pinned (stat fr5) (T.obj _ _ st5);have back:∀{Z7:St} {H7:Hp} {s7:Shared} {m':Nat},Inv (dk X N scope cl HH.objs.size s2 H2 fp) (LB++jD fp s5.heap) Z7 H7 s7->W (i+1) m' Z7 H7->∃ i Z' H',Inv (dk X N scope cl HH.objs.size s2 H2 fp) LB Z' H' s7/\tn i s7.heap/\(∀ b∈fp,H' b=none)/\W i m' Z' H':=λ{Z7 H7 s7 m'} I7 w7=>by
    refine #[i+1,Z7,H7,I7.unpinned,T.keep _ _ _ st5 λb hb o e=>(I7.pin (b,o) (cn _ (cn _ (jE hb e)))).1,λb hb=>?_,w7];obtain ⟨o,e,d⟩:=T.obj _ _ st5 b hb;exact (I7.pin (b,o) (cn _ (cn _ (jE hb e)))).2.1
   refine thn (hg cl HH.objs.size s2 H2 fp _ s5 Z3 H5 x u _ I5' r5 (step x H5 y5)) λ_ s6 zq0=>?_;obtain ⟨Z6,H6,I6,q6⟩:=zq0;refine thn (hts cl HH.objs.size s2 H2 fp _ s6 Z6 H6 _ I6 q6) λb s7 zq0=>?_;obtain ⟨H7,I7,q7⟩:=zq0;cases b with
   | false=>
    rw[af cm]at q7 ⊢;obtain ⟨m',hm,w7⟩:=q7;exact #[m',hm,back I7 w7]
   | true=>
    rw[ae rfl]at q7 ⊢;refine thn (he cl HH.objs.size s2 H2 fp _ s7 Z6 H7 _ I7 q7) λv s8 zq0=>?_;obtain ⟨y,H8,I8,r8,q8⟩:=zq0;obtain ⟨xs,hx,hz,m',hm,w8⟩:=q8;refine thn (dH (X:=dk X N scope cl HH.objs.size s2 H2 fp) _ s8 Z6 H8 (.ref s2.heap.objs.size) [y] (.ref s2.heap.objs.size) [v] (λ_ H9=>H9=upd H8 s2.heap.objs.size (.lst (xs++[y]))) I8 rfl (.cons r8 .nil) #[_,xs,y,rfl,rfl,hx,hz,rfl]) λ_ s9 zq0=>?_;obtain ⟨_,H9,I9,_,e9⟩:=zq0;subst e9;exact #[m',hm,back I9 w8]
 refine codeAny_compStart_list (loop _ rfl) ?_;exact T.self _ 0 _ _ _ st3 (loop _ rfl)
def d4 {pos:Pos}(hcalm:X.calm=true)(hi:PI X tg iter wi)(c:oy X scope N own cap)
  (hg:∀ cl C s₂ H₂ fp,PG (dk X N scope cl C s₂ H₂ fp) tg g) (hts:∀ cl C s₂ H₂ fp,PTs (dk X N scope cl C s₂ H₂ fp) ifs ts) (he:∀ cl C s₂ H₂ fp,PE (dk X N scope cl C s₂ H₂ fp) elt te)
  (hs:∀ x,foldedSetIterable iter X.env x=pure x:=by intro _;rfl):PE X (.ListComp elt [#[tg,iter,ifs,0]] scope pos) (ud own cap wi g ts te):=by
 intro LB s Z H Q I h;obtain ⟨cl,hcl⟩:=ox (scope:=scope) (env:=X.env) λx hx=>I.ok.has x (by
  have:=eA.mp c.frees _ hx;simpa using this)
 rw[eval_ListComp];refine wpAny_comprehension_free (use:=none) rfl hs hcl.eq c.kind (λx hx hl=>by
  have:=eA.mp c.locs x hx;rw[hl]at this;simpa using this) (thn (hi LB s Z H _ I h) λv s1 h1=>thn h1 λitv s2 h2=>?_)
 obtain ⟨it,fp,tn,J,H2,e,I2,T,st2,f2,rd⟩:=h2;subst e;refine zG (RR:=λacc C=>compPost (model X.prog X.w) X.A X.xe none (EP X LB Z Q) acc C) hcalm c hcl hg hts he I2 T st2 f2 rd ?_;intro D C s' H' I' hm fC q;obtain ⟨m,hm⟩:=hm;obtain ⟨f0,f1,f2,f3,f4,f5⟩:=fC;exact #[m,hm,λh' hsb=>#[.ref D,H',I'.turned (t':=s'.toks) (λb o hb e=>(hsb.2 b hb).trans e) f0 f1 f3 f4 f5,rfl,q]]
def il {i:Nat}{x:Str}{pos pos' spos:Pos}(hN:X.N.Nodup)(hxi:X.N[i]?=some x)(hx:X.env.scope.names.lookup x=some .local)(hcalm:X.calm=true)(hi:PI X tg iter wi)(c:oy X scope N own cap)
  (hg:∀ cl C s₂ H₂ fp,PG (dk X N scope cl C s₂ H₂ fp) tg g) (hts:∀ cl C s₂ H₂ fp,PTs (dk X N scope cl C s₂ H₂ fp) ifs ts) (he:∀ cl C s₂ H₂ fp,PE (dk X N scope cl C s₂ H₂ fp) elt te)
  (hsw:swapsWith (.ListComp elt [#[tg,iter,ifs,0]] scope pos) (some (.Name x pos')) spos.line X.env=pure true:=by rfl)
  (hs:∀ x,foldedSetIterable iter X.env x=pure x:=by intro _;rfl):PS X (.Assign [.Name x pos'] (.ListComp elt [#[tg,iter,ifs,0]] scope pos) spos) (tAsg (ud own cap wi g ts te) (gE i)):=by
 intro LB s Z H D I h;obtain ⟨cl,hcl⟩:=ox (scope:=scope) (env:=X.env) λx hx=>I.ok.has x (by
  have:=eA.mp c.frees _ hx;simpa using this)
 rw[exec_Assign_Name_used _ _ _ _ hsw];refine ao (wpAny_standAt (ao ?_));show wpAny _ X.A (do let _ <-comprehension (.ListComp elt [#[tg,iter,ifs,0]] scope pos) scope X.env _ (newList []) false (eval iter X.env) (some (assign (.Name x pos') X.env))) _ _ s
 refine ao (dP (wpAny_comprehension_free (use:=some (assign (.Name x pos') X.env)) (Q:=λ_ s'=>SP X LB D .next s') rfl hs hcl.eq c.kind (λx hx hl=>by
  have:=eA.mp c.locs x hx;rw[hl]at this;simpa using this) (thn (hi LB s Z H _ I h) λv s1 h1=>thn h1 λitv s2 h2=>?_)) (λ_ s' hq=>aA (aA hq)) λ_ _ e=>e)
 obtain ⟨it,fp,tn,J,H2,e,I2,T,st2,f2,rd⟩:=h2;subst e;refine zG (RR:=λacc C=>compPost (model X.prog X.w) X.A X.xe (some (assign (.Name x pos') X.env)) (λ_ s'=>SP X LB D .next s') acc C) (Q:=λx H1=>gE i x Z H1 D.nx) hcalm c hcl hg hts he I2 T st2 f2 rd ?_;intro Dd C s' H' I' hm fC q;obtain ⟨m,hm⟩:=hm;have hne:∀ a,(a=X.env.locals\/X.env.cells.lookup x=some a)->a≠C:=λa z=>by
  obtain ⟨f0,f1,f2,f3,f4,f5⟩:=fC;rcases z with z|z
  .rw[z];exact aS f1
  .exact f4 x a z
 show wpAny _ X.A (assign (.Name x pos') X.env (.ref Dd)) _ _ _;refine wpAny_assign_Name (tj I' hN hxi (.inl hx) (v:=.ref Dd) rfl (λs'' I'' hch=>?_) (.inr hx));obtain ⟨a,hsb,ha⟩:=hch;refine #[m,hm.sameBut hsb (aS (hne a ha)),λh' hs'=>?_];obtain ⟨f0,f1,f2,f3,f4,f5⟩:=fC;exact #[_,H',I''.turned (t':=s''.toks) (λb o hb e=>(hs'.2 b hb).trans e) f0 f1 f3 f4 f5,q]
end
end L2
namespace L2
open PySem PySem.Spec PyProof.Rows PySem.SeqAt
class Srt (α:Type)[Rep α] where
 blt:α->α->Bool
 irrefl:∀ a,blt a a=false
 trans:∀ a b c,blt a b=true->blt b c=true->blt a c=true
 negTrans:∀ a b c,blt a c=true->blt a b=true\/blt b c=true
 total:∀ a b,blt a b=false->blt b a=false->a=b
 kd:SortKind
 one:α
 lt:∀{X:Cx} {LB:List (Addr×Obj)} {Z:St} {H:Hp} {s:Shared} {A:Around} {a b:α} {x y:V} {u v:Value} {Q:Bool->Shared->Prop} {E:Value->Shared->Prop},Inv X LB Z H s->Rep.has X.K H a x->Rep.has X.K H b y->RelV x u->RelV y v->Q (blt a b) s->wpAny (model X.prog X.w) A (keyLt' kd u v) Q E s
 kind:∀{X:Cx} {LB:List (Addr×Obj)} {Z:St} {H:Hp} {s:Shared} {A:Around} {as:List α} {xs:List V} {us:List Value} {Q:SortKind->Shared->Prop} {E:Value->Shared->Prop},Inv X LB Z H s->aB X.K H as xs->Vals xs us->2<=us.length->Q kd s->wpAny (model X.prog X.w) A (keyKind' us.toArray) Q E s
section
variable {α:Type}[Rep α][Srt α]
noncomputable def srtKind (α:Type)[Rep α][Srt α](K:Frag)(H:Hp):PyProof.Rows.KeyKind where
 α:=α
 blt:=Srt.blt
 irrefl:=Srt.irrefl
 trans:=Srt.trans
 negTrans:=Srt.negTrans
 total:=Srt.total
 keyOf:=λu=>open Classical in if h:∃ a:α,∃ x,RelV x u/\Rep.has K H a x then some (Classical.choose h) else none
 dflt:=Srt.one
def Fm {a:α}{x:V}{u:Value}(I:Inv X LB Z H s)(r:RelV x u)(h:Rep.has X.K H a x):(srtKind α X.K H).keyOf u=some a:=by
 have e:∃ a:α,∃ x,RelV x u/\Rep.has X.K H a x:=#[a,x,r,h];unfold srtKind;dsimp only;rw[dif_pos e];obtain ⟨y,ry,hy⟩:=Classical.choose_spec e;have z:=ry.inj r;subst z;exact congrArg some (Rep.inj I hy h)
def zH {K:Frag}{a:α}{u:Value}(h:(srtKind α K H).keyOf u=some a):∃ x,RelV x u/\Rep.has K H a x:=by
 unfold srtKind at h;dsimp only at h;split at h
 .rename_i e;cases h
  exact Classical.choose_spec e
 .cases h
def dJ (as:List α):List α:=as.mergeSort λa b=>!Srt.blt b a
def jP (as:List α):(dJ as).Perm as:=List.mergeSort_perm _ _
def oA {as:List α}{a:α}:a∈dJ as↔a∈as:=(jP as).mem_iff
def oB (as:List α):(dJ as).length=as.length:=(jP as).length_eq
def Fn {a b:α}(h:Srt.blt a b=true):Srt.blt b a=false:=by
 cases e:Srt.blt b a with
 | false=>rfl
 | true=>
  have:=Srt.trans _ _ _ h e;rw[Srt.irrefl]at this;cases this
def zI (as:List α):(dJ as).Pairwise λa b=>Srt.blt b a=false:=by
 have h:=List.pairwise_mergeSort (le:=λa b:α=>!Srt.blt b a) (λa b c h1 h2=>by
  simp only[gX]at h1 h2 ⊢;cases e:Srt.blt c a with
  | false=>rfl
  | true=>
   rcases Srt.negTrans c b a e with z|z
   .rw[h2]at z;cases z
   .rw[h1]at z;cases z) (λa b=>by
  cases e:Srt.blt b a with
  | false=>rfl
  | true=>rw[Fn e];rfl) as
 exact h.imp λ{a b} z=>by simpa using z
def Fo {as bs:List α}(hp:bs.Perm as)(hs:bs.Pairwise λa b=>Srt.blt b a=false):bs=dJ as:=
 List.Perm.eq_of_pairwise (λa b _ _ h1 h2=>Srt.total a b h2 h1) hs (zI as) (hp.trans (jP as).symm)
def ue {as:List α}(hn:as.Nodup):(dJ as).Pairwise λa b=>Srt.blt a b=true:=by
 have h1:=zI as;have h2:(dJ as).Nodup:=(jP as).nodup_iff.mpr hn;refine (h1.and h2).imp λ{a b} z=>?_;cases e:Srt.blt a b with
 | true=>rfl
 | false=>exact absurd (Srt.total a b e z.1) z.2
def zJ {K:Frag}:∀{out:List Value},(∀ v∈out,∃ a:α,∃ x,RelV x v/\Rep.has K H a x/\(srtKind α K H).keyOf v=some a)->
  ∃(ws:List V) (bs:List α),Vals ws out/\aB K H bs ws/\bs=out.map (Tim.keyV (srtKind α K H))
 | [],_=>#[[],[],.nil,.nil,rfl]
 | v::out,h=>by
  obtain ⟨ws,bs,h1,h2,h3⟩:=zJ (out:=out) λu hu=>h u (bG _ hu);obtain ⟨a,x,r,e,k⟩:=h v bx;refine #[x::ws,a::bs,.cons r h1,.cons e h2,?_];rw[bI,<-h3];have z:Tim.keyV (srtKind α K H) v=a:=by
   unfold Tim.keyV;rw[k];rfl
  rw[z];rfl
def zK (I:Inv X LB Z H s):∀{as:List α} {xs:List V} {us:List Value},aB X.K H as xs->Vals xs us->us.map (Tim.keyV (srtKind α X.K H))=as/\∀ v∈us,∃ a:α,∃ x,RelV x v/\Rep.has X.K H a x/\(srtKind α X.K H).keyOf v=some a
 | _,_,_,.nil,.nil=>#[rfl,λ_ z=>nomatch z]
 | _,_,_,.cons e t,.cons r q=>by
  obtain ⟨h1,h2⟩:=zK I t q;have k:=Fm I r e;refine #[?_,λv hv=>?_]
  .rw[bI,h1];unfold Tim.keyV;rw[k];rfl
  .rcases aW.mp hv with z|z
   .subst z;exact #[_,_,r,e,k]
   .exact h2 v z
end
inductive zL (α:Type)[Rep α][Srt α](K:Frag)(xs:List V)(H:Hp)(Q:VK):Prop
 | c:∀(p:Addr) (vs:List V) (as:List α),xs=[.ref p]->SqL K H p vs->aB K H as vs->(∀ l ws,H l=none->aB K H (dJ as) ws->Q (.ref l) (upd H l (.lst ws)))->zL α K xs H Q
section
variable {X:Cx}
def oC (α:Type)[Rep α][Srt α]:cV X (.builtin "sorted") (zL α X.K):=by
 intro LB s Z H xs us Q I r h;obtain ⟨p,vs,as,rfl,hq,ha,q⟩:=h;obtain ⟨u,rfl,rx⟩:=fh r;cases rx
 obtain ⟨its,rv,pl,hz⟩:=I.list hq;have hlen:=rv.length;obtain ⟨km,kk⟩:=zK I ha rv;refine Tim.EW (κ:=srtKind α X.K H) (kd:=Srt.kd α) pl.isList (by lia) (λv hv=>?_) (λh' k E x y a b Q hx hy q=>?_) (λh' E Q k h2 q=>Srt.kind (Inv.kept (t':=s.toks) I k) ha rv h2 q) λout h' c p1 p2 k hc=>?_
 .obtain ⟨a,_,_,_,e⟩:=kk v hv;exact #[a,e]
 .obtain ⟨x1,r1,e1⟩:=zH hx;obtain ⟨y1,r2,e2⟩:=zH hy;exact Srt.lt (Inv.kept (t':=s.toks) I k) e1 e2 r1 r2 q
 .obtain ⟨ws,bs,w1,w2,w3⟩:=zJ (α:=α) (K:=X.K) (H:=H) (out:=out) λv hv=>kk v (p1.mem_iff.mp hv);have eb:bs=dJ as:=by
   refine Fo ?_ ?_
   .rw[w3,<-km];exact p1.map _
   .rw[w3];exact iM.mpr p2
  rw[eb]at w2;have hw:ws.length<=sizeLine:=by
   have:=w1.length;have:=p1.length_eq;lia
  exact #[.ref (s.heap.objs.size+1),_,I.laid (a:=s.heap.objs.size+1) (o:=.lst ws) (t':=s.toks) k (dm _) #[hw,out,c,w1,hc],rfl,q _ ws (I.hok.fresh (dm _)) w2]
end
instance:Srt Int where
 blt:=λa b=>decide (a<b)
 irrefl:=λa=>by simp
 trans:=λa b c h1 h2=>by
  simp only[decide_eq_true_eq]at *;lia
 negTrans:=λa b c h=>by
  simp only[decide_eq_true_eq]at *;lia
 total:=λa b h1 h2=>by
  simp only[decide_eq_false_iff_not]at *;lia
 kd:=oneType'
 one:=0
 lt:=λ{X LB Z H s A a b x y u v Q E} _ h1 h2 r1 r2 q=>by
  have h1:x=.int a:=h1;have h2:y=.int b:=h2;subst h1 h2;obtain ⟨t,rfl⟩:=r1;obtain ⟨t',rfl⟩:=r2;exact W.kat_lt_int q
 kind:=λ{X LB Z H s A as xs us Q E} _ h r hl q=>by
  have e:=aB.toInts h;subst e;have hi:IntsAre us as:=by
   clear q hl
   induction as generalizing us with
   | nil=>cases r;exact .nil
   | cons a as ih=>
    cases r with
    | cons r1 r2=>
     obtain ⟨t,rfl⟩:=r1;exact .cons a t (ih (by first|exact aB.ints|assumption) r2)
  match us,hl,hi with
  | v₁::v₂::rest,_,hi=>
   rw[keyKind_ints hi];exact aA q
def pLt (a b:Int×Int):Bool:=decide (a.1<b.1)||(decide (a.1=b.1)&&decide (a.2<b.2))
def gk {a:Int×Int}:pLt a b=true↔a.1<b.1\/(a.1=b.1/\a.2<b.2):=by
 unfold pLt;simp
def uf {a:Int×Int}:pLt a b=false↔¬ (a.1<b.1\/(a.1=b.1/\a.2<b.2)):=by
 rw[<-gk];simp
def ug {a:Int×Int}{x:V}{u:Value}(I:Inv X LB Z H s)(h:Rep.has X.K H a x)(r:RelV x u) :
  ∃(p:Addr) (o:Obj) (n:Nat) (t t':Tok),u=.ref p/\s.heap.get? p=some o/\o.cls=.type "tuple"/\o.data=.seq (List.toArray [.int a.1 t,.int a.2 t']) n:=by
 obtain ⟨p,x1,x2,rfl,q,e1,e2⟩:=(show hasP X.K H a x from h);have e1:x1=.int a.1:=e1;have e2:x2=.int a.2:=e2;subst e1 e2;cases r
 obtain ⟨us,ru,pu,_⟩:=I.tuple (SqT.of q);obtain ⟨u1,u2,rfl,⟨t,rfl⟩,⟨t',rfl⟩⟩:=gI ru;obtain ⟨o,ho,hc,n,hd⟩:=pu;exact #[p,o,n,t,t',rfl,ho,hc,hd]
def zM {prog:Program}{w:World}{A:Around}{E:Value->Shared->Prop}{s:Shared}{x y:Int}{t u:Tok}{Q:Bool->Shared->Prop}(b:Bool)(h:Q (decide (x<y)) s):wpAny (model prog w) A (oneLt' b (.int x t) (.int y u)) Q E s:=by
 cases b with
 | true=>
  rw[<-keyLt'_oneType];exact W.kat_lt_int h
 | false=>exact W.kat_one _ _ (lt_int h)
instance:Srt (Int×Int) where
 blt:=pLt
 irrefl:=λa=>by rw[uf];lia
 trans:=λa b c h1 h2=>by
  rw[gk]at *;lia
 negTrans:=λa b c h=>by
  rw[gk]at *;rw[gk];lia
 total:=λa b h1 h2=>by
  rw[uf]at *;obtain ⟨a1,a2⟩:=a;obtain ⟨b1,b2⟩:=b;have:a1=b1/\a2=b2:=by dsimp only at *;lia
  rw[this.1,this.2]
 kd:=tuples' true
 one:=(0,0)
 lt:=λ{X LB Z H s A a b x y u v Q E} I h1 h2 r1 r2 q=>by
  obtain ⟨p,o,n,t1,t2,rfl,ho,hc,hd⟩:=ug I h1 r1;obtain ⟨p',o',n',t3,t4,rfl,ho',hc',hd'⟩:=ug I h2 r2;refine W.kat_lt ho hd ho' hd' ?_;show W.KatLex X.prog X.w A true _ Q [(.int a.1 t1,.int b.1 t3),(.int a.2 t2,.int b.2 t4)] 0 s;refine W.kat_cons (EqAt.int_int a.1 t1 b.1 t3 _ _ _ _ (W.kat_go (λe=>W.kat_yes ?_) (λe=>W.kat_no ?_)))
  .have e1:a.1=b.1:=eq_of_beq e;refine W.kat_cons (EqAt.int_int a.2 t2 b.2 t4 _ _ _ _ (W.kat_go (λe=>W.kat_yes (W.kat_nil ?_)) (λe=>W.kat_no (zM _ ?_))))
   .have e2:a.2=b.2:=eq_of_beq e;have z:pLt a b=false:=by rw[uf];lia
    rw[z]at q;exact q
   .have z:pLt a b=decide (a.2<b.2):=by
     unfold pLt;rw[bj (by lia:¬ a.1<b.1),aX e1];rfl
    rw[z]at q;exact q
  .have e1:¬ a.1=b.1:=λz=>by rw[z]at e;simp at e
   refine zM _ ?_;have z:pLt a b=decide (a.1<b.1):=by
    unfold pLt;rw[bj e1];simp
   rw[z]at q;exact q
 kind:=λ{X LB Z H s A as xs us Q E} I h r hl q=>by
  have go:∀{as:List (Int×Int)} {xs:List V} {us:List Value},aB X.K H as xs->Vals xs us->∃ fs,W.KatTups s.heap us fs/\fs.length=us.length/\∀ v∈fs,∃ i t,v=Value.int i t:=by
   intro as
   induction as with
   | nil=>
    intro xs us h r;cases h
    cases r
    exact #[[],.nil,rfl,λ_ z=>nomatch z]
   | cons a as ih=>
    intro xs us h r;cases h with
    | cons h1 h2=>
     cases r with
     | cons r1 r2=>
      obtain ⟨fs,f1,f2,f3⟩:=ih h2 r2;obtain ⟨p,o,n,t,t',rfl,ho,hc,hd⟩:=ug I h1 r1;refine #[.int a.1 t::fs,W.KatTups.cons ho hc hd rfl f1,by rw[cE,cE,f2],λv hv=>?_];rcases aW.mp hv with z|z
      .exact #[_,_,z]
      .exact f3 v z
  obtain ⟨fs,f1,f2,f3⟩:=go h r;refine W.kat_kind (T:=.type "int") f1 (by lia) (λv hv=>?_) (by decide) ?_
  .obtain ⟨i,t,rfl⟩:=f3 v hv;exact W.Looks.of_pure rfl
  .exact q
end L2
namespace L2
open PySem PySem.Spec PyProof.Rows
section
variable {X:Cx}
def uh {i:Int}{pos:Pos}(hg:Gl X x)(hm:∃ t,X.mg x=some (.int i t))(hd:(x==("__debug__" : Str))=false:=by decide):PE X (.Name x pos) (tC (.int i)):=by
 obtain ⟨t,e⟩:=hm;exact Dg hg e #[t,rfl] hd
end
def fI {K:Frag}{a:Addr}{g:TG}{ts:TT}{te:TE}{Z:St}{H:Hp}{Q:Hp->Prop}(Pv:Nat->St->Hp->Prop)(h0:Pv 0 Z H)(hl:∀ i Z H,i<=xs.length->Pv i Z H->SqL K H a xs)
  (hs:∀ i m x Z H,xs[i]?=some x->i+m=xs.length->Pv i Z H->g x Z H λZ2 H2=>ts Z2 H2 λb H3=>if b=true then te Z2 H3 λy H4=>∃ zs,H4 D=some (.lst zs)/\zs.length<sizeLine/\∃ m',m'<m/\(i+1+m'=xs.length/\Pv (i+1) Z2 (upd H4 D (.lst (zs++[y])))) else ∃ m',m'<m/\(i+1+m'=xs.length/\Pv (i+1) Z2 H3))
  (hd:∀ Z H,Pv xs.length Z H->Q H) :
  ∃ W:Nat->Nat->St->Hp->Prop,(∃ m,W 0 m Z H)/\∀ i m Z H,W i m Z H->((Itl K a).stop i H/\Q H)\/((Itl K a).go i H/\∀ x H',(Itl K a).yld i H x H'->g x Z H' λZ2 H2=>ts Z2 H2 λb H3=>if b=true then te Z2 H3 λy H4=>∃ xs,H4 D=some (.lst xs)/\xs.length<sizeLine/\∃ m',m'<m/\W (i+1) m' Z2 (upd H4 D (.lst (xs++[y]))) else ∃ m',m'<m/\W (i+1) m' Z2 H3):=by
 refine #[λi m Z H=>i+m=xs.length/\Pv i Z H,#[xs.length,by lia,h0],λi m Z H zq0=>?_];obtain ⟨e,pv⟩:=zq0;have hS:=hl i Z H (by lia) pv;by_cases hi:i<xs.length
 .refine .inr #[#[xs,xs[i],hS,az hi],λx H' y=>?_];obtain ⟨e1,y⟩:=y;subst e1;exact hs i m x Z _ (y xs hS) e pv
 .have:i=xs.length:=by lia
  subst this;exact .inl #[#[xs,hS,ai _],hd Z H pv]
def jQ {lo:Int}{n:Nat}{g:TG}{ts:TT}{te:TE}{Z:St}{H:Hp}{Q:Hp->Prop}(Pv:Nat->St->Hp->Prop)(h0:Pv 0 Z H)
  (hs:∀ i m Z H,i+m=n->i<n->Pv i Z H->g (.int (lo+i)) Z H λZ2 H2=>ts Z2 H2 λb H3=>if b=true then te Z2 H3 λy H4=>∃ zs,H4 D=some (.lst zs)/\zs.length<sizeLine/\∃ m',m'<m/\(i+1+m'=n/\Pv (i+1) Z2 (upd H4 D (.lst (zs++[y])))) else ∃ m',m'<m/\(i+1+m'=n/\Pv (i+1) Z2 H3))
  (hd:∀ Z H,Pv n Z H->Q H) :
  ∃ W:Nat->Nat->St->Hp->Prop,(∃ m,W 0 m Z H)/\∀ i m Z H,W i m Z H->((Itr lo n).stop i H/\Q H)\/((Itr lo n).go i H/\∀ x H',(Itr lo n).yld i H x H'->g x Z H' λZ2 H2=>ts Z2 H2 λb H3=>if b=true then te Z2 H3 λy H4=>∃ xs,H4 D=some (.lst xs)/\xs.length<sizeLine/\∃ m',m'<m/\W (i+1) m' Z2 (upd H4 D (.lst (xs++[y]))) else ∃ m',m'<m/\W (i+1) m' Z2 H3):=by
 refine #[λi m Z H=>i+m=n/\Pv i Z H,#[n,by lia,h0],λi m Z H zq0=>?_];obtain ⟨e,pv⟩:=zq0;by_cases hi:i<n
 .refine .inr #[hi,λx H' y=>?_];obtain ⟨e1,y⟩:=y;subst e1 y;exact hs i m Z _ e hi pv
 .have:i=n:=by lia
  subst this;exact .inl #[ai _,hd Z H pv]
def zN:∀{ns:List Int} {us:List Value},Vals (ns.map V.int) us->IntsAre us ns
 | [],_,.nil=>.nil
 | n::_,_,.cons ⟨t,e⟩ q=>by
  subst e;exact .cons n t (zN q)
def Fp:kitO "tuple" "tuple" = some true:=by decide +kernel
end L2
namespace L2
def fV {i:Nat}{x:V}{Z:St}{H:Hp}{A B:St->Hp->Prop}(h:A (Z.set i (some x)) H):gE i x Z H λZ2 H2=>tYes Z2 H2 λb H3=>if b=true then A Z2 H3 else B Z2 H3:=by
 show (if true=true then A (Z.set i (some x)) H else B (Z.set i (some x)) H)
 rw[ae rfl];exact h
end L2
namespace L2
open PySem PySem.Spec PyProof.Rows
def zO:∀{bs:List Bool} {us:List Value},Vals (bs.map V.bl) us->us=bs.map Value.bool
 | [],_,.nil=>rfl
 | b::_,_,.cons e q=>by
  have e:_=Value.bool b:=e;rw[e,zO q];rfl
section
variable {X:Cx}
def zP (hc:X.calm=true):cV X (.builtin "all") (λxs H Q=>∃(p:Addr) (bs:List Bool),xs=[.ref p]/\SqL X.K H p (bs.map V.bl)/\Q (.bl (bs.all id)) H):=by
 intro LB s Z H xs us Q I r h;obtain ⟨p,bs,rfl,hq,q⟩:=h;obtain ⟨u,rfl,rx⟩:=fh r;cases rx
 obtain ⟨its,rv,pl,_⟩:=I.list hq;have e:=zO rv;subst e;have hl:=pl.isList;have hlt:p<s.heap.objs.size:=by obtain ⟨_,e,_⟩:=hl;exact aK e
 refine call_all_walk (wpAny_pyIter_list hl ?_);refine #[s.heap.objs.size,[s.heap.objs.size,p],[s.heap.objs.size],(bs.map Value.bool).toArray.size,_,_,λi=>(bs[i]?).getD true,rfl,Walks.list (A:=X.A.in1) (I.ok.hd hc) _ p (bo hlt) _,
  #[#[_,cQ _ rfl,rfl,rfl],hl.push _],λi v s' Q' E' hP hQ=>?_,λh' tk hk=>?_]
 .have hP:(bs.map Value.bool)[i]?=some v:=by simpa using hP
  rw[bf]at hP;cases e:bs[i]? with
  | none=>rw[e]at hP;cases hP
  | some b=>
   rw[e]at hP;cases hP
   simp only[e,Option.getD_some]at hQ;exact wpAny_truthy_bool hQ
 .have e:((List.range (bs.map Value.bool).toArray.size).all λi=>(bs[i]?).getD true)=bs.all id:=by
   rw[bL,aq];exact PyProof.Rows.LSm.range_all bs
  rw[e];have kk:∀ b o,s.heap.get? b=some o->h'.get? b=some o:=λb o eb=>hk b o (λhm=>by rw[aQ.mp hm]at eb;exact dQ _ (aK eb)) (aR _ eb);have I':Inv X LB Z H { s with heap:=h',toks:=tk }:=I.kept (t':=tk) kk;exact #[.bl _,H,I',rfl,q]
end
section
variable {X:Cx}{K:Frag}
def bS (h:X.K=K:=by rfl):cV X (.builtin "len") (λxs H Q=>∃ p ys,xs=[.ref p]/\(SqL K H p ys\/SqT K H p ys)/\Q (.int ys.length) H):=by
 subst h;exact DX
def oD (h:X.K=K:=by rfl):cV X (.builtin "isinstance") (rIsi K):=by
 subst h;exact E1
def bC (h:X.K=K:=by rfl):IxR X (rIxL K):=by
 subst h;exact DO
def bN (h:X.K=K:=by rfl):IxR X (rIxT K):=by
 subst h;exact DP
def oE (h:X.K=K:=by rfl):cV X (.type "list") (λxs H Q=>∃ p ys,xs=[.ref p]/\(SqL K H p ys\/SqT K H p ys)/\∀ l,H l=none->Q (.ref l) (upd H l (.lst ys))):=by
 subst h;exact DY
end
def zQ {c:TT}{tb:TS}{D:Ends}{Z:St}{H:Hp}(Pv Pe:St->Hp->Prop)(μ:St->Hp->Nat)(h0:Pv Z H)
  (hs:∀ Z H,Pv Z H->c Z H λb H1=>if b=true then tb { D with nx:=λZ' H'=>Pv Z' H'/\μ Z' H'<μ Z H,ct:=λZ' H'=>Pv Z' H'/\μ Z' H'<μ Z H,bk:=D.nx } Z H1 else Pe Z H1)
  (mono:∀ Z H Q Q',(∀ b H1,Q b H1->Q' b H1)->c Z H Q->c Z H Q') (he:∀ Z H,Pe Z H->D.nx Z H):tm c tb D Z H:=by
 refine xS Pv μ h0 (λZ H p=>mono Z H _ _ (λb H1 q=>?_) (hs Z H p)) mono;cases b with
 | true=>exact q
 | false=>exact he _ _ q
section
variable {X:Cx}{K:Frag}
def zR (h:X.K=K:=by rfl):OpR X (compareOp .In) (rIn K false):=by
 subst h;exact DV
def lR (h:X.K=K:=by rfl):OpR X (compareOp .NotIn) (rIn K true):=by
 subst h;exact DW
def oF {k:Nat}{t:TGs}{n:Nat}{pos:Pos}(hc:X.calm=true)(h:PGs X es t)(hK:X.K=K:=by rfl)
  (hn:(assignEach es X.env).length=n:=by rfl) (hst:(assignEach es X.env).findIdx? (·.1)=none:=by rfl):PG X (.Tuple es k pos) (gTup K n t):=by
 subst hK;exact gF hc h hn hst
def lS (h:X.K=K:=by rfl):SlR X (rSlL K):=by
 subst h;exact DT
end
def zS {K:Frag}{a:Addr}{xs ys:List V}{g:TG}{ts:TT}{te:TE}{Z:St}{H:Hp}{Q:Hp->Prop}(hlen:xs.length=ys.length)(Pv:Nat->St->Hp->Prop)(h0:Pv 0 Z H)(hl:∀ i Z H,i<=xs.length->Pv i Z H->SqL K H a xs/\SqL K H b ys)
  (hs:∀ i m x y Z H r,xs[i]?=some x->ys[i]?=some y->i+m=xs.length->Pv i Z H->H r=none->g (.ref r) Z (upd H r (.tup [x,y])) λZ2 H2=>ts Z2 H2 λb H3=>if b=true then te Z2 H3 λy H4=>∃ zs,H4 D=some (.lst zs)/\zs.length<sizeLine/\∃ m',m'<m/\(i+1+m'=xs.length/\Pv (i+1) Z2 (upd H4 D (.lst (zs++[y])))) else ∃ m',m'<m/\(i+1+m'=xs.length/\Pv (i+1) Z2 H3))
  (hd:∀ Z H,Pv xs.length Z H->Q H) :
  ∃ W:Nat->Nat->St->Hp->Prop,(∃ m,W 0 m Z H)/\∀ i m Z H,W i m Z H->((Itz K a b).stop i H/\Q H)\/((Itz K a b).go i H/\∀ x H',(Itz K a b).yld i H x H'->g x Z H' λZ2 H2=>ts Z2 H2 λb H3=>if b=true then te Z2 H3 λy H4=>∃ xs,H4 D=some (.lst xs)/\xs.length<sizeLine/\∃ m',m'<m/\W (i+1) m' Z2 (upd H4 D (.lst (xs++[y]))) else ∃ m',m'<m/\W (i+1) m' Z2 H3):=by
 refine #[λi m Z H=>i+m=xs.length/\Pv i Z H,#[xs.length,by lia,h0],λi m Z H zq0=>?_];obtain ⟨e,pv⟩:=zq0;obtain ⟨hS,hS'⟩:=hl i Z H (by lia) pv;by_cases hi:i<xs.length
 .refine .inr #[#[xs,ys,xs[i],ys[i]'(by lia),hS,hS',az hi,az (by lia)],λx H' y=>?_];obtain ⟨p,z,z',rfl,hp,hz,hz',rfl⟩:=y;exact hs i m z z' Z H p (hz xs hS) (hz' ys hS') e pv hp
 .have:i=xs.length:=by lia
  subst this;exact .inl #[#[xs,ys,hS,hS',.inl (ai _)],hd Z H pv]
section
variable {X:Cx}
def Fq (hc:X.calm=true):cV X (.builtin "min") (λxs H Q=>∃(p:Addr) (ns:List Int),xs=[.ref p]/\SqL X.K H p (ns.map V.int)/\0<ns.length/\∀ M,M∈ns->(∀ a,a∈ns->M<=a)->Q (.int M) H):=by
 intro LB s Z H xs us Q I r h;obtain ⟨p,ns,rfl,hq,hne,q⟩:=h;obtain ⟨u,rfl,rx⟩:=fh r;cases rx
 obtain ⟨its,rv,pl,_⟩:=I.list hq;have hi:=zN rv;obtain ⟨xs,hx⟩:=hi.allInts.items;have hl':s.heap.IsList p (intItems xs):=hx ▸ pl.isList;have e1:ns=xs.toList.map (·.1):=by
  rw[<-nums_intItems,<-hx];exact (show numsOf its.toArray.toList=ns from hi.numsOf).symm
 have hsz:0<xs.size:=by
  rw[e1,aq,bH]at hne;exact hne
 refine min_intList (I.ok.hd hc) hl' hsz λv h' tk hv hk=>?_;obtain ⟨t,rfl⟩:=intItems_at hv;obtain ⟨h1,h2⟩:=argBest_lt (numAt xs) (xs.size-1);refine #[.int _,H,Inv.kept (t':=tk) I hk,#[t,rfl],q _ ?_ λa ha=>?_]
 .rw[e1,numAt_eq];rw[aE,az (by rw[aq,bH];lia)];exact cU _
 .rw[e1]at ha;obtain ⟨j,hj,rfl⟩:=mem_getD ha;rw[aq,bH]at hj;rw[<-numAt_eq];exact h2 j (by lia)
end
def lT {K:Frag}{a:Addr}{g:TG}{ts:TT}{te:TE}{Z:St}{H:Hp}{Q:Hp->Prop}(Pv:Nat->St->Hp->Prop)(h0:Pv 0 Z H)(hl:∀ i Z H,i<=xs.length->Pv i Z H->SqT K H a xs)
  (hs:∀ i m x Z H,xs[i]?=some x->i+m=xs.length->Pv i Z H->g x Z H λZ2 H2=>ts Z2 H2 λb H3=>if b=true then te Z2 H3 λy H4=>∃ zs,H4 D=some (.lst zs)/\zs.length<sizeLine/\∃ m',m'<m/\(i+1+m'=xs.length/\Pv (i+1) Z2 (upd H4 D (.lst (zs++[y])))) else ∃ m',m'<m/\(i+1+m'=xs.length/\Pv (i+1) Z2 H3))
  (hd:∀ Z H,Pv xs.length Z H->Q H) :
  ∃ W:Nat->Nat->St->Hp->Prop,(∃ m,W 0 m Z H)/\∀ i m Z H,W i m Z H->((Itt K a).stop i H/\Q H)\/((Itt K a).go i H/\∀ x H',(Itt K a).yld i H x H'->g x Z H' λZ2 H2=>ts Z2 H2 λb H3=>if b=true then te Z2 H3 λy H4=>∃ xs,H4 D=some (.lst xs)/\xs.length<sizeLine/\∃ m',m'<m/\W (i+1) m' Z2 (upd H4 D (.lst (xs++[y]))) else ∃ m',m'<m/\W (i+1) m' Z2 H3):=by
 refine #[λi m Z H=>i+m=xs.length/\Pv i Z H,#[xs.length,by lia,h0],λi m Z H zq0=>?_];obtain ⟨e,pv⟩:=zq0;have hS:=hl i Z H (by lia) pv;by_cases hi:i<xs.length
 .refine .inr #[#[xs,xs[i],hS,az hi],λx H' y=>?_];obtain ⟨e1,y⟩:=y;subst e1;exact hs i m x Z _ (y xs hS) e pv
 .have:i=xs.length:=by lia
  subst this;exact .inl #[#[xs,hS,ai _],hd Z H pv]
def Itv (K:Frag)(a:Addr)(n:Nat):It:=
 #[λi H=>i<n/\∃ xs,SqL K H a xs/\xs.length=n,λi H x H'=>H'=H/\∀ xs,SqL K H a xs->xs.length=n->xs.reverse[i]?=some x,λi _=>i=n]
def Fs {K:Frag}(a it:Addr)(n:Nat):Turn P w K tg (Itv K a n) [it] it (λi h=>h.IsRevIter it a ((n:Int)-1-(i:Int))) where
 mem:=by simp
 obj:=λi h st b hb=>by
  have e:b=it:=by simpa using hb
  subst e;obtain ⟨o,e,c,d⟩:=st;exact #[o,e,λv z=>by rw[d]at z;cases z]
 keep:=λi h h' st k=>st.at λo e=>k it (by simp) o e
 item:=by
  intro X hP hw hK hc i LB s Z H E I hf st hg;subst hP hw hK;obtain ⟨hi,xs,hq,hn⟩:=hg;obtain ⟨its,rv,p,hz⟩:=I.list hq;have hx:xs[n-1-i]?=some (xs[n-1-i]'(by lia)):=az (by lia);obtain ⟨u,hu,ru⟩:=rv.get hx;obtain ⟨f0,f1,f2,f3,f4,f5⟩:=hf it (by simp);have e1:(n:Int)-1-(i:Int)=((n-1-i:Nat):Int):=by lia
  rw[e1]at st;refine wpAny_pyNext_rev_item st p.isList (x:=u) (by simpa using hu) λh' st' sb=>?_;have e2:((n-1-i:Nat):Int)-1=(n:Int)-1-((i+1:Nat):Int):=by lia
  rw[e2]at st';have I1:Inv X LB Z H { s with heap:=h' }:=I.turned (t':=s.toks) (λb o hb e=>(sb.2 b hb).trans e) f0 f1 f3 f4 f5;obtain ⟨o,e,c,d⟩:=id st';refine #[u,rfl,lC (s:={ s with heap:=h' }) e c d (by decide) #[xs[n-1-i]'(by lia),H,I1,ru,#[rfl,λys hy hyn=>?_],st',λb hb=>(hf b hb).1]];rw[I.list_inj hy hq,sR (by lia),show xs.length-1-i=n-1-i by lia];exact hx
 done:=by
  intro X hP hw hK hc i LB s Z H E I hf st hg;subst hP hw hK;have hi:i=n:=hg;subst hi;obtain ⟨f0,f1,f2,f3,f4,f5⟩:=hf it (by simp);have e1:(i:Int)-1-(i:Int) = -1:=by lia
  rw[e1]at st;exact wpAny_pyNext_rev_end (I.ok.hd hc) st λh' eb=>#[rfl,I.turned (t':=s.toks) (λb o hb e=>eb b o hb e) f0 f1 f3 f4 f5]
 self:=λ_ _ _ _ _ st h=>wpAny_pyIter_revIter st h
inductive zT (K:Frag)(R:It->Hp->Prop)(vs:List V)(H1:Hp):Prop
 | c:∀ a xs,vs=[.ref a]->SqL K H1 a xs->R (Itv K a xs.length) H1->zT K R vs H1
def iRev (K:Frag)(ta:TA):TI:=λZ H R=>ta Z H λvs H1=>zT K R vs H1
section
variable {X:Cx}
def Ft {a:Expr}{p pos:Pos}(hg:Gl X "reversed")(hm:X.mg "reversed" = none)(ha:PA X [a] ta)(hs:starEach [a] X.env=[(false,eval a X.env)]:=by rfl):PI X tg (.Call (.Name "reversed" p) [a] [] pos) (iRev X.K ta):=by
 intro LB s Z H R I h;refine Call_ (gD I hg hm boot_reversed (PyProof.Rows.callWith_type1 (thn (ha pos LB s Z H _ I h) λus s1 zq0=>?_) hs rfl));obtain ⟨vs,H1,I1,r1,q1⟩:=zq0;obtain ⟨l,xs,e,hq,q⟩:=q1;subst e;cases r1 with
 | cons r rr=>
  cases rr
  cases r
  obtain ⟨its,rv,pl,hz⟩:=I1.list hq;have hl:=rv.length;refine call_reversed_list pl.isList ?_;have I2:Inv X LB Z H1 { s1 with heap:=s1.heap.push (revObj l ((its.toArray.size:Int)-1)) }:=I1.kept (t':=s1.toks) λb o e=>aR _ e;have hr:(s1.heap.push (revObj l ((its.toArray.size:Int)-1))).IsRevIter s1.heap.objs.size l (((xs.length:Nat):Int)-1-((0:Nat):Int)):=by
   refine #[_,cQ _ rfl,rfl,?_];have:(its.toArray.size:Int)-1=((xs.length:Nat):Int)-1-((0:Nat):Int):=by
    rw[bL,hl];lia
   rw[this];rfl
  refine wpAny_pyIter_revIter (s:={ s1 with heap:=s1.heap.push (revObj l ((its.toArray.size:Int)-1)) }) hr #[_,[s1.heap.objs.size],_,_,H1,rfl,I2,Fs l s1.heap.objs.size xs.length,hr,λb hb=>?_,q];have e:b=s1.heap.objs.size:=by simpa using hb
  subst e;exact I1.fpOk (ai _) (I1.hok.fresh (ai _))
end
def Fu {K:Frag}{a:Addr}{g:TG}{tb:TS}{D:Ends}{Z:St}{H:Hp}(Pv:Nat->St->Hp->Prop)(h0:Pv 0 Z H)(hl:∀ i Z H,i<=xs.length->Pv i Z H->SqL K H a xs)
  (hs:∀ i x Z H,xs.reverse[i]?=some x->Pv i Z H->g x Z H λZ2 H2=>tb { D with nx:=Pv (i+1),ct:=Pv (i+1),bk:=D.nx } Z2 H2) (hd:∀ Z H,Pv xs.length Z H->D.nx Z H) :
  ∃ W:Nat->Nat->St->Hp->Prop,(∃ m,W 0 m Z H)/\∀ i m Z H,W i m Z H->((Itv K a xs.length).stop i H/\D.nx Z H)\/((Itv K a xs.length).go i H/\∃ N:St->Hp->Prop,(∀ Z' H',N Z' H'->∃ m',m'<m/\W (i+1) m' Z' H')/\∀ x H',(Itv K a xs.length).yld i H x H'->g x Z H' λZ2 H2=>tb { D with nx:=N,ct:=N,bk:=D.nx } Z2 H2):=by
 refine #[λi m Z H=>i+m=xs.length/\Pv i Z H,#[xs.length,by lia,h0],λi m Z H zq0=>?_];obtain ⟨e,pv⟩:=zq0;have hS:=hl i Z H (by lia) pv;by_cases hi:i<xs.length
 .refine .inr #[#[hi,xs,hS,rfl],Pv (i+1),λZ' H' q=>#[m-1,by lia,by lia,q],λx H' y=>?_];obtain ⟨e1,y⟩:=y;subst e1;exact hs i x Z _ (y xs hS rfl) pv
 .have:i=xs.length:=by lia
  subst this;exact .inl #[rfl,hd Z H pv]
def Fv {k:Key}{u:Value}(h:(bB P w).is k u=true):RelV (kV k) u:=by
 rw[C6]at h;rcases f7 h with ⟨i,t,rfl,rfl⟩|⟨x,t,rfl,rfl⟩
 .exact #[t,rfl]
 .exact #[t,rfl]
section
variable {X:Cx}
def Fw (hc:X.calm=true):cV X (.type "list") (λxs H Q=>∃(p:Addr) (kvs:List (Key×V)),xs=[.ref p]/\H p=some (.dK kvs)/\∀ l,H l=none->Q (.ref l) (upd H l (.lst (kvs.map λkv=>kV kv.1)))):=by
 intro LB s Z H xs us Q I r h;obtain ⟨p,kvs,rfl,hq,q⟩:=h;obtain ⟨u,rfl,rx⟩:=fh r;cases rx
 obtain ⟨hz,hne,vs,rel,o,es,ep,h1,h2,h3,h4,h5,h6⟩:=tF I.hok hq;have hlen:kvs.length=vs.length:=rel.length;refine W.kdl_call (W.kdl_dict (knd:=bB X.prog X.w) (kvs:=vs) (ep:=ep) hne) (I.ok.hd hc) #[o,es,h1,h2,h3,h4,h5,h6] (by lia) λh' tk acc c k e hi=>?_;have hv:Vals (kvs.map λkv=>kV kv.1) acc.toList:=by
  obtain ⟨g1,g2⟩:=hi;have key:∀(m:Nat) (kvs:List (Key×V)) (vs:List (Key×Value)) (us:List Value),KV kvs vs->us.length=vs.length->(∀(i:Nat) (v:Value),us[i]?=some v->∃ k x,vs[i]?=some (k,x)/\(bB X.prog X.w).is k v=true)->Vals (kvs.map λkv=>kV kv.1) us:=by
   intro m kvs
   induction kvs with
   | nil=>
    intro vs us r hl _;cases r
    have:us=[]:=nC hl;subst this;exact .nil
   | cons kv kvs ih=>
    intro vs us r hl hh;cases r with
    | cons a b=>
     cases us with
     | nil=>cases hl
     | cons v us=>
      refine .cons ?_ (ih _ us b (Nat.succ.inj hl) λi v e=>?_)
      .obtain ⟨k,x,e1,e2⟩:=hh 0 v rfl;cases e1
       have h9:=Fv e2;have a1:kv.1=k:=a.1;rw[<-a1]at h9;exact h9
      .have:=hh (i+1) v (by simpa using e);simpa using this
  refine key 0 kvs vs acc.toList rel (by rw[bH];exact g1) λi v e=>?_;exact g2 i v (by rw[<-eP];exact e)
 refine #[.ref s.heap.objs.size,_,I.laid (a:=s.heap.objs.size) (o:=.lst (kvs.map λkv=>kV kv.1)) (t':=tk) k (ai _) #[?_,acc.toList,c,hv,by rw[Array.toArray_toList];exact e],rfl,q _ (I.hok.fresh (ai _))];rw[aq];lia
end
end L2
namespace HT
open PySem PySem.Spec PyProof.Rows
section
variable {prog:Program}{w:World}{A:Around}{E:Value->Shared->Prop}{s:Shared}
def getItem_tuple_all {t sl:Addr}{items:Array Value}{vl vu:Value}{lo hi:Option Int}{Q:Value->Shared->Prop}(ht:IsTup s.heap t items)(hs:s.heap.IsSliceOf sl vl vu .none)(pl:IsPart vl lo)(pu:IsPart vu hi)
  (hw:sIx items.size 0 lo=0/\sIx items.size items.size hi=items.size) (h:Q (.ref t) s):wpAny (model prog w) A (getItem (.ref t) (.ref sl)) Q E s:=by
 obtain ⟨os,hos,hcs,hds⟩:=id hs;have hTs:s.TypeIs (.ref sl) "slice":=#[os,hos,hcs];unfold getItem
 try with_reducible refine wpAny_holding ?_
 first|refine ao (aA ?_)|skip
 refine ao (wpAny_sequenceKey ht.typeIs (by decide) ?_);refine ao (wpAny_callSpecial?_slot (name:=Str.ofString "__getitem__") ht.typeIs PyProof.Rows.slot_tuple_getitem (wpAny_call_entry PyProof.Rows.slot_tuple_getitem ht.typeIs entry_tuple_getitem ?_ (args_tuple_getitem _ _)));show wpAny _ _ (Builtin.Tuple.tupleItemsOf (.ref t) >>= _) _ _ s;refine ao (tupleItemsOf_ ht ?_);refine ao (wpAny_typeOf hTs ?_);rw[ae (by decide)];refine ao (yv hs pl pu ?_);have yes:(((sIx items.size 0 lo:Nat):Int)==0&&(1:Int)==1&&(sIx items.size items.size hi-sIx items.size 0 lo)==items.size)=true:=by
  rw[hw.1,hw.2];simp
 show wpAny _ _ (if (((sIx items.size 0 lo:Nat):Int)==0&&(1:Int)==1&&(sIx items.size items.size hi-sIx items.size 0 lo)==items.size)=true then _ else _) _ _ s
 rw[ae yes];refine ao ?_;unfold Builtin.Tuple.tupleIsExact;refine ao (wpAny_typeOf ht.typeIs ?_);refine aA ?_;rw[ae (by decide)];exact ao (wpAny_rule (aA #[_,rfl,aA h]))
end
end HT
namespace L2
open PySem PySem.Spec PyProof.Rows
section
variable {X:Cx}
inductive rSlX (K:Frag)(x:V)(lo:Option Int)(hi:Option Int)(H:Hp)(Q:VK):Prop
 | c:∀ a xs,x=.ref a->SqT K H a xs->((HT.sIx xs.length 0 lo=0/\HT.sIx xs.length xs.length hi=xs.length)->Q (.ref a) H)->(¬ (HT.sIx xs.length 0 lo=0/\HT.sIx xs.length xs.length hi=xs.length)->∀ p,H p=none->Q (.ref p) (upd H p (.tup (cutV xs lo hi))))->rSlX K x lo hi H Q
def Fx:SlR X (rSlX X.K):=by
 intro LB s Z H x v vl vu lo hi sl Q I rx hs pl pu h;obtain ⟨a,xs,e,hx,q1,q2⟩:=h;by_cases hw:HT.sIx xs.length 0 lo=0/\HT.sIx xs.length xs.length hi=xs.length
 .subst e;cases rx
  obtain ⟨its,r,ht,hz⟩:=I.tuple hx;have hlen:its.toArray.size=xs.length:=by rw[bL];exact r.length.symm
  refine #["tuple",_,PyProof.Rows.slot_tuple_getitem.lookup,ht.typeIs,?_];exact HT.getItem_tuple_all ht hs pl pu (by rw[hlen];exact hw) #[.ref a,H,I,rfl,q1 hw]
 .exact DM LB s Z H x v vl vu lo hi sl Q I rx hs pl pu #[a,xs,e,hx,hw,q2 hw]
def oG {K:Frag}(h:X.K=K:=by rfl):SlR X (rSlX K):=by
 subst h;exact Fx
inductive ui (K:Frag)(x:V)(y:V)(H:Hp)(Q:VK):Prop
 | c:∀ a b xs ys,x=.ref a->y=.ref b->SqT K H a xs->SqT K H b ys->ys≠[]->xs.length+ys.length<=sizeLine->(xs=[]->Q (.ref b) H)->(xs≠[]->∀ p,H p=none->Q (.ref p) (upd H p (.tup (xs++ys))))->ui K x y H Q
def Fy:OpR X (binaryOp .Add) (ui X.K):=by
 intro LB s Z H x y v u Q I rx ry h;obtain ⟨a,b,xs,ys,e1,e2,ha,hb,hy,hz,q1,q2⟩:=h;by_cases hx:xs=[]
 .subst e1 e2;cases rx
  cases ry
  obtain ⟨its,r1,p1,_⟩:=I.tuple ha;obtain ⟨its2,r2,p2,_⟩:=I.tuple hb;obtain ⟨⟨cls,dd,data,sl⟩,ho,hc,n,hd⟩:=id p1;obtain ⟨⟨cls2,dd2,data2,sl2⟩,ho2,hc2,n2,hd2⟩:=id p2;simp only at hc hd hc2 hd2;subst hc hd hc2 hd2;have hv:its=[]:=r1.nil_iff.mpr hx;exact concat_meets #[_,ho,rfl] #[_,ho2,rfl] noFill_tuple_add seq_tuple_add PySem.F.slot_tuple_add PySem.F.entry_tuple_add (PySem.F.args_tuple_add_2 _ _)
   (tuple_addW0 a b its.toArray its2.toArray n n2 dd dd2 sl sl2 (by simp[hv])) #[ho,ho2,.ref b,H,I,rfl,q1 hx]
 .exact tE LB s Z H x y v u Q I rx ry #[a,b,xs,ys,e1,e2,ha,hb,hx,hz,λz=>absurd z hy,λ_=>q2 hx]
end
end L2
namespace L2
open PySem PySem.Spec PyProof.Rows PySem.SeqAt
structure Tup (α:Type) where
 l:List α
def Tup.ext' {α:Type}{a b:Tup α}(h:a.l=b.l):a=b:=by
 cases a
 cases b
 cases h
 rfl
instance {α:Type} [DecidableEq α]:DecidableEq (Tup α):=λa b=>if h:a.l=b.l then .isTrue (Tup.ext' h) else .isFalse λz=>h (by rw[z])
inductive hasT {α:Type}[Rep α](K:Frag)(H:Hp)(t:Tup α)(v:V):Prop
 | c:∀ a xs,v=.ref a->SqT K H a xs->aB K H t.l xs->hasT K H t v
section
variable {α:Type}[r:Rep α]{X:Cx}{LB:List (Addr×Obj)}{Z:St}{H:Hp}{s:Shared}{A:Around}{as bs:Tup α}{x y:V}{u v:Value}
def zU (I:Inv X LB Z H s)(h1:hasT X.K H as x)(h2:hasT X.K H bs x):as=bs:=by
 obtain ⟨a,xs,rfl,q1,h1⟩:=h1;obtain ⟨b,ys,e,q2,h2⟩:=h2;cases e
 rw[I.tuple_inj q2 q1]at h2;exact Tup.ext' (h1.inj I h2)
def zV {as bs:List α}(n m:Nat)(hn:as.length=n)(hm:bs.length=m):((List.range (min n m)).all (λj=>decide (as[j]?=bs[j]?))&&n==m)=decide (as=bs):=by
 by_cases hl:as.length=bs.length
 .have e:=Fc as bs hl;have z:min n m=as.length:=by lia
  rw[z,e,beq_iff_eq.mpr (by lia:n=m),Bool.and_true]
 .rw[bj (λz=>hl (by rw[z])),beq_eq_false_iff_ne.mpr (by lia:n≠m),iG]
def zW:decide (as=bs)=decide (as.l=bs.l):=by
 by_cases h:as.l=bs.l
 .rw[aX h,aX (Tup.ext' h)]
 .rw[bj h,bj (λz=>h (by rw[z]))]
def zX (I:Inv X LB Z H s)(hu:A.units+(Rep.depth α+1)<cLine)(h1:hasT X.K H as x)(h2:hasT X.K H bs y)(r1:RelV x u)(r2:RelV y v):RcAt A s u v (decide (as=bs)):=by
 obtain ⟨a,xs,rfl,q1,h1⟩:=h1;obtain ⟨b,ys,rfl,q2,h2⟩:=h2;cases r1
 cases r2
 obtain ⟨us,ru,pu,_⟩:=I.tuple q1;obtain ⟨vs,rv,pv,_⟩:=I.tuple q2;have l1:=ru.length;have l2:=rv.length;have m1:=h1.length;have m2:=h2.length;have hin:A.in1.units+Rep.depth α<cLine:=cN (gA ow _) (by lia);have:=RcAt.tuples (A:=A) (s:=s) (l:=a) (b:=b) (items:=us.toArray) (items2:=vs.toArray) (e:=λj=>decide (as.l[j]?=bs.l[j]?)) pu pv (by lia) (zw I hin h1 h2 ru rv);rw[zV (as:=as.l) (bs:=bs.l) us.toArray.size vs.toArray.size (by simp;lia) (by simp;lia),<-zW]at this;exact this
def Fz (I:Inv X LB Z H s)(hu:A.units+(Rep.depth α+1)<cLine)(h1:hasT X.K H as x)(h2:hasT X.K H bs y)(r1:RelV x u)(r2:RelV y v):RcNeAt A s u v (!decide (as=bs)):=by
 obtain ⟨a,xs,rfl,q1,h1⟩:=h1;obtain ⟨b,ys,rfl,q2,h2⟩:=h2;cases r1
 cases r2
 obtain ⟨us,ru,pu,_⟩:=I.tuple q1;obtain ⟨vs,rv,pv,_⟩:=I.tuple q2;have l1:=ru.length;have l2:=rv.length;have m1:=h1.length;have m2:=h2.length;have hin:A.in1.units+Rep.depth α<cLine:=cN (gA ow _) (by lia);have:=RcNeAt.tuples (A:=A) (s:=s) (l:=a) (b:=b) (items:=us.toArray) (items2:=vs.toArray) (e:=λj=>decide (as.l[j]?=bs.l[j]?)) pu pv (by lia) (zw I hin h1 h2 ru rv);rw[zV (as:=as.l) (bs:=bs.l) us.toArray.size vs.toArray.size (by simp;lia) (by simp;lia),<-zW]at this;exact this
def FB (I:Inv X LB Z H s)(hu:A.units+(Rep.depth α+1)<cLine)(h1:hasT X.K H as x)(h2:hasT X.K H bs y)(r1:RelV x u)(r2:RelV y v):EqAt A s u v (decide (as=bs)):=by
 have rc:=zX (A:=A) I hu h1 h2 r1 r2;have h1':=id h1;have h2':=id h2;obtain ⟨a,xs,rfl,q1,h1⟩:=h1;obtain ⟨b,ys,rfl,q2,h2⟩:=h2;cases r1
 cases r2
 by_cases hab:a=b
 .subst hab;rw[aX (zU I h1' h2')];exact EqAt.same _
 .exact EqAt.of_refs hab rc
end
instance {α:Type} [Rep α]:Rep (Tup α) where
 dec:=inferInstance
 depth:=Rep.depth α+1
 has:=hasT
 mono:=λe ⟨a,xs,h1,h2,h3⟩=>#[a,xs,h1,h2.ext e,h3.mono e]
 inj:=λI h1 h2=>zU I h1 h2
 rc:=λI hu h1 h2 r1 r2=>zX I hu h1 h2 r1 r2
 rn:=λI hu h1 h2 r1 r2=>Fz I hu h1 h2 r1 r2
 eq:=λI hu h1 h2 r1 r2=>FB I hu h1 h2 r1 r2
end L2
namespace L2
open PySem PySem.Spec PyProof.Rows
section
variable {X:Cx}{K:Frag}
def oH (h:X.K=K:=by rfl):cV X (.type "tuple") (λxs H Q=>∃ p ys,xs=[V.ref p]/\((SqL K H p ys/\∀ l,H l=none->Q (.ref l) (upd H l (.tup ys)))\/(SqT K H p ys/\Q (.ref p) H))):=by
 subst h;exact DZ
end
section
variable {X:Cx}{K:Frag}{tg:Expr}
def FD (hl:PE X l tl)(h:X.K=K:=by rfl):PI X tg l (iTup K tl):=by
 subst h;exact gH hl
end
def d5 (X:Cx)(N:List Str)(scope:Scope)(z:Str)(cl:List (Str×Addr))(C:Addr)(s₂:Shared)(H₂:Hp)(fp:List Addr):Cx:=
 { X with N:=N,s₀:=s₂,H₀:=H₂,env:=compEnvC scope ((z,C+1)::cl) C X.env,outer:=X.stack,stack:=X.stack,ex:=fp,fn:=λx=>x==z,xe:=λ_ _=>False }
def zY {n:Nat}{h:Heap}:∀{names:List (Str×NameKind)} {acc:List (Str×Addr)},names.filter (λy=>y.2 == .cell)=[]->cellsFrom n names acc=acc/\pushCells h names=h
 | [],_,_=>#[rfl,rfl]
 | (x,k)::r,acc,e=>by
  cases hk:k==NameKind.cell with
  | true=>
   rw[dr (by exact hk)]at e;cases e
  | false=>
   rw[eB (by rw[show ((x,k):Str×NameKind).2=k from rfl,hk];decide)]at e;unfold cellsFrom pushCells;rw[hk];exact zY e
def uj {n:Nat}{h:Heap}{z:Str}:∀{names:List (Str×NameKind)} {acc:List (Str×Addr)},names.filter (λy=>y.2 == .cell)=[(z,.cell)]->cellsFrom n names acc=(z,n)::acc/\pushCells h names=h.push { cls:=.type "cell",data:=.cell none }
 | [],_,e=>by cases e
 | (x,k)::r,acc,e=>by
  cases hk:k==NameKind.cell with
  | true=>
   rw[dr (by exact hk)]at e;obtain ⟨e1,e2⟩:=List.cons.inj e;have e3:x=z:=congrArg Prod.fst e1;subst e3;unfold cellsFrom pushCells;rw[hk];exact zY e2
  | false=>
   rw[eB (by rw[show ((x,k):Str×NameKind).2=k from rfl,hk];decide)]at e;unfold cellsFrom pushCells;rw[hk];exact uj e
def FE {M:Model}{A:Around}{E:Value->Shared->Prop}{s:Shared}{scope:Scope}{z:Str}{globals:Addr}{closure:List (Str×Addr)}{qual:Str}{env:Env}{Q:Env->Shared->Prop}
  (one:scope.names.filter (λy=>y.2 == .cell)=[(z,.cell)])
  (hQ:Q { scope,locals:=s.heap.objs.size,globals,cells:=(z,s.heap.objs.size+1)::closure,qual,func:=none,code:=env.code,frame:=env.frame,builtins:=env.builtins } { s with heap:=(s.heap.push { cls:=.type "dict",data:=.dict (List.toArray []) }).push { cls:=.type "cell",data:=.cell none } }) :
  wpAny M A (newFunctionEnv scope globals closure [] qual none .none (some env)) Q E s:=by
 simp only[newFunctionEnv,Option.isSome_some,if_true];refine ao (wpAny_alloc ?_);refine ao (wpAny_layCells _ (λname kind cells=>by cases hkc:kind==NameKind.cell<;>simp[hkc]) _ _ _ _ ?_)
 rw[show ({ s with heap:=s.heap.push { cls:=.type "dict",data:=.dict (List.toArray []) } }:Shared).heap.objs.size=s.heap.objs.size+1 from jw ..];rw[(uj (n:=s.heap.objs.size+1) (h:=s.heap) one).1,(uj (n:=0) (h:=s.heap.push { cls:=.type "dict",data:=.dict (List.toArray []) }) (acc:=[]) one).2];refine ao ?_;rw[List.forIn_nil];exact aA (aA hQ)
def uk {env:Env}:∀{names:List (Str×NameKind)} {x:Str} {k':NameKind},(names.map λ(n,k)=>if (k==NameKind.free&&env.scope.kind == .function&&env.kindOf n==some .cell) then (n,NameKind.cell) else (n,k)).lookup x=some k'->k'=.cell\/k'=.free->
  (x,NameKind.free)∈names\/(x,NameKind.cell)∈names
 | [],_,_,h,_=>by simp at h
 | (n,k)::r,x,k',h,hk=>by
  have ih:=@uk env r x k';have h':List.lookup x ((if (k==NameKind.free&&env.scope.kind == .function&&env.kindOf n==some .cell)=true then (n,NameKind.cell) else (n,k))::r.map λ(n,k)=>if (k==NameKind.free&&env.scope.kind == .function&&env.kindOf n==some .cell) then (n,NameKind.cell) else (n,k))=some k':=h
  cases hx:x==n with
  | true=>
   have e:=eq_of_beq hx;subst e;by_cases hf:k=.free
   .subst hf;exact .inl bx
   .have hb:(k==NameKind.free)=false:=by simpa using hf
    rw[af (by rw[hb];simp),c6,hx]at h';cases h'
    rcases hk with z|z
    .subst z;exact .inr bx
    .exact absurd z hf
  | false=>
   refine (ih ?_ hk).imp (bG _) (bG _);by_cases hcd:(k==NameKind.free&&env.scope.kind == .function&&env.kindOf n==some .cell)=true
   .rw[ae hcd,c6,hx]at h';exact h'
   .rw[af hcd,c6,hx]at h';exact h'
structure um (X:Cx)(scope:Scope)(z:Str)(N:List Str)(own:Nat)(cap:List Nat):Prop where
 kind:scope.kind=.function
 one:scope.names.filter (λy=>y.2 == .cell)=[(z,.cell)]
 look:scope.names.lookup z=some .cell
 locs:(scope.names.all λy=>y.2 != .local||scope.names.lookup y.1==some .local)=true
 frees:(scope.names.all λy=>y.2 != .free||(X.env.kindOf y.1==some .cell||X.env.kindOf y.1==some .free))=true
 len:N.length=own+cap.length
 caps:((List.range cap.length).all λj=>(N[own+j]?==X.N[cap[j]!]?)&&(match N[own+j]? with|some x=>scope.names.lookup x==some .free&&(X.env.kindOf x==some .cell||X.env.kindOf x==some .free)|none=>false))=true
section
variable {X:Cx}
def FF {C:Addr}{fp:List Addr}{h₁:Heap}{tk:Nat}{D:Addr}
  (I:Inv X LB Z H s) (c:um X scope z N own cap) (hcl:iZ scope X.env cl) (f:∀ b∈fp,FpOk X LB H b) (hD:s.heap.objs.size<=D) (hC:s.heap.objs.size<=C) (hCD:D≠C)
  (kp:∀ b o,s.heap.get? b=some o->h₁.get? b=some o) (hnew:h₁.get? D=some { cls:=.type "list",data:=.seq (List.toArray []) }) (hns:∃ m,h₁.Ns C m) (hcz:h₁.IsCell (C+1) none) (hDz:D≠C+1) (hfp:∀ b∈fp,b<s.heap.objs.size) (hcalm:X.calm=true) :
  Inv (d5 X N scope z cl C s H fp) LB (eD own cap Z) (upd H D (.lst [])) { s with heap:=h₁,toks:=tk }:=by
 have hfr:H D=none:=I.hok.fresh hD;have hfrC:H C=none:=I.hok.fresh hC;have sz:∀ b o,s.heap.get? b=some o->b≠D/\b≠C:=λb o e=>#[bo (aP (aK e) hD),bo (aP (aK e) hC)];have cells:∀ x cc,cl.lookup x=some cc->∃ v,s.heap.IsCell cc v:=λx cc e=>I.cell x cc (hcl.sub x cc e);have cellne:∀ x cc,cl.lookup x=some cc->cc≠D/\cc≠C:=λx cc e=>by
  obtain ⟨v,o,ho,_⟩:=cells x cc e;exact sz cc o ho
 have czlt:∀ x cc,cl.lookup x=some cc->cc≠C+1:=λx cc e q=>by
  obtain ⟨v,o,ho,_⟩:=cells x cc e;exact absurd (show C+1<s.heap.objs.size from (by rw[<-q];exact aK ho)) (g8.mpr (ax hC (dm _)))
 have lk:∀ x cc,((z,C+1)::cl).lookup x=some cc->(x=z/\cc=C+1)\/(x≠z/\cl.lookup x=some cc):=λx cc e=>by
  rw[c6]at e;cases hx:x==z with
  | true=>
   rw[hx]at e;exact .inl #[eq_of_beq hx,(aJ e).symm]
  | false=>
   rw[hx]at e;exact .inr #[λq=>(by rw[q,beq_self_eq_true]at hx;cases hx),e]
 have hfrZ:H (C+1)=none:=I.hok.fresh (ax hC (dm _));have ok:(d5 X N scope z cl C s H fp).Ok:=by
  refine #[I.ok.mod,c.kind,I.ok.glob,I.ok.blt,hC,λx y cc e1 e2=>?_,λx hx=>?_,λx cc e1 e2=>?_,I.ok.hd,I.ok.frames,.inl rfl,λb hb=>?_,λb o e=>I.bs b o e,?_,λb o e hb=>?_,λb hb z=>?_,I.stack,λb hb=>I.stkFree b hb]
  .rcases lk x cc e1 with ⟨q1,q2⟩|⟨q1,q2⟩<;>rcases lk y cc e2 with ⟨r1,r2⟩|⟨r1,r2⟩
   .rw[q1,r1]
   .exact absurd q2 (czlt y cc r2)
   .exact absurd r2 (czlt x cc q2)
   .exact I.ok.inj x y cc (hcl.sub x cc q2) (hcl.sub y cc r2)
  .show ∃ c,((z,C+1)::cl).lookup x=some c;cases hxz:x==z with
   | true=>exact #[C+1,by rw[c6,hxz]]
   | false=>
    have hm:(x,NameKind.free)∈scope.names:=by
     have hor:(x,NameKind.free)∈scope.names\/(x,NameKind.cell)∈scope.names:=by
      rcases hx with y|y
      .exact uk (env:=X.env) (names:=scope.names) (x:=x) (k':=.cell) y (.inl rfl)
      .exact uk (env:=X.env) (names:=scope.names) (x:=x) (k':=.free) y (.inr rfl)
     rcases hor with q|q
     .exact q
     .have hf:(x,NameKind.cell)∈scope.names.filter (λy=>y.2 == .cell):=eJ.mpr #[q,rfl];rw[c.one]at hf;have e:=congrArg Prod.fst (aQ.mp hf);have e:x=z:=e;rw[e,beq_self_eq_true]at hxz;cases hxz
    obtain ⟨cc,hcc⟩:=hcl.has x hm;exact #[cc,by rw[c6,hxz];exact hcc]
  .have e1:(x==z)=true:=e1;rcases lk x cc e2 with ⟨_,q2⟩|⟨q1,_⟩
   .rw[q2];exact ax hC (dm _)
   .exact absurd (eq_of_beq e1) q1
  ·exact #[bo (aP (hfp b hb) hC),λx cc e q=>by
    rcases lk x cc e with ⟨_,q2⟩|⟨_,q2⟩
    .exact absurd (show C+1<s.heap.objs.size from (by rw[<-q2,q];exact hfp b hb)) (g8.mpr (ax hC (dm _)))
    .exact (f b hb).2.2.2.2.1 x cc (hcl.sub x cc q2) q]
  .exact ax I.ok.bsz I.sz
  .obtain ⟨_,_,_,h4,_⟩:=f b hb;rcases h4 with z|z
   .exact I.ok.noex b o e z
   .exact absurd (aP (aK e) (ax I.ok.bsz z)) (dQ _)
  .obtain ⟨_,h2,h3,_⟩:=f b hb;rcases aW.mp (I.stkSub b z) with q|q
   .exact h2 q
   .exact h3 q
 have hokN:bD X.prog X.w (upd H D (.lst [])) h₁ D (.lst []):=#[bK _,[],0,.nil,hnew];refine #[ok,I.os.symm ▸ rfl,I.bare,Un.laid kp hD hfr,?_,λx cc e=>?_,?_,λx cc e=>?_,λp hp=>?_,I.hok.laid kp hD hokN,?_]
 .obtain ⟨m,hm⟩:=hns;refine #[m,hm,λi x v e1 e2 e3=>?_];have hi:own<=i:=by
   false_or_by_contra
   rename_i z;unfold eD at e2;rw[gS (by rw[cR];lia),sG]at e2;split at e2<;>cases e2
  obtain ⟨j,rfl⟩:∃ j,i=own+j:=#[i-own,by lia];have hj:j<cap.length:=by
   have:=(aM.mp e1).1;have z:=c.len;have this':own+j<N.length:=this;lia
  have hc:=eA.mp c.caps j (cZ.mpr hj);have e1':N[own+j]?=some x:=e1;rw[e1']at hc;simp only[d9,beq_iff_eq,kU]at hc;obtain ⟨hN,hf,hk⟩:=hc;have e2':Z[cap[j]!]?=some (some v):=by
   unfold eD at e2;rw[fM (by rw[cR];lia),cR,show own+j-own=j by lia,bf]at e2;have g:cap[j]! = cap[j]:=by simp[hj]
   rw[az hj,jk]at e2;rw[g];have e2:=aJ e2;cases q:Z[cap[j]]? with
   | none=>rw[q]at e2;cases e2
   | some z=>rw[q]at e2;exact congrArg some e2
  obtain ⟨m0,_,hl⟩:=I.loc;obtain ⟨u,ru,lk⟩:=hl (cap[j]!) x v hN.symm e2' (by
   rcases hk with z|z
   .exact .inr (.inl z)
   .exact .inr (.inr z))
  refine #[u,ru,.inr #[t9 (env:=X.env) hf,?_]];rcases lk with ⟨z,_⟩|⟨_,cc,ec,ic⟩
  .rcases hk with q|q
   .rw[q]at z;cases z
   .rw[q]at z;cases z
  ·obtain ⟨c',hc'⟩:=hcl.has x (by
    have:(x,NameKind.free)∈scope.names:=by
     have hlk:=hf;obtain ⟨l1,l2,hs,hno⟩:=List.lookup_eq_some_iff.mp hlk;rw[hs];exact cn _ bx
    exact this)
   have:=hcl.sub x c' hc';rw[ec]at this;cases this
   obtain ⟨o,ho,hd⟩:=ic;refine #[cc,?_,o,kp cc o ho,hd];show ((z,C+1)::cl).lookup x=some cc;cases hxz:x==z with
   | true=>
    rw[eq_of_beq hxz,c.look]at hf;cases hf
   | false=>rw[c6,hxz];exact hc'
 .rcases lk x cc e with ⟨_,q2⟩|⟨_,q2⟩
  .rw[q2];exact #[_,hcz]
  .obtain ⟨v,o,ho,hd⟩:=cells x cc q2;exact #[v,o,kp cc o ho,hd]
 .show upd H D (.lst []) C=none;rw[aj (aS hCD)];exact hfrC
 .show upd H D (.lst []) cc=none;rcases lk x cc e with ⟨_,q2⟩|⟨_,q2⟩
  .rw[q2,aj (aS hDz)];exact hfrZ
  .rw[aj (cellne x cc q2).1];exact I.freeC x cc (hcl.sub x cc q2)
 .obtain ⟨e,n,ne,nf,d⟩:=I.pin p hp;refine #[kp _ _ e,?_,(sz _ _ e).2,λz=>?_,d]
  .show upd H D (.lst []) p.1=none;rw[aj (sz _ _ e).1];exact n
  .rcases aW.mp (I.stkSub p.1 z) with q|q
   .exact ne q
   .exact nf q
 .show (eD own cap Z).length=N.length;unfold eD;rw[bc,cR,aq,c.len]
def FG {fp:List Addr}{iter:Expr}{pos:Pos}{Q:VK}
  {E:Value->Shared->Prop} {RR:Value->Addr->Result->Shared->Prop}
  (hcalm:X.calm=true) (c:um X scope z N own cap) (hcl:iZ scope X.env cl)
  (hg:∀ cl C s₂ H₂ fp,PG (d5 X N scope z cl C s₂ H₂ fp) tg g) (hts:∀ cl C s₂ H₂ fp,PTs (d5 X N scope z cl C s₂ H₂ fp) ifs ts) (he:∀ cl C s₂ H₂ fp,PE (d5 X N scope z cl C s₂ H₂ fp) elt te)
  (I2:Inv X LB Z H2 s2) (T:Turn X.prog X.w X.K tg J fp it tn) (st2:tn 0 s2.heap) (f2:∀ b∈fp,FpOk X LB H2 b)
  (rd:∀ D,H2 D=none->∃ W:Nat->Nat->St->Hp->Prop,(∃ m,W 0 m (eD own cap Z) (upd H2 D (.lst [])))/\∀ i m Z H,W i m Z H->
   (J.stop i H/\Q (.ref D) H)\/(J.go i H/\∀ x H',J.yld i H x H'->g x Z H' λZ2 H2=>ts Z2 H2 λb H3=>if b=true then te Z2 H3 λy H4=>∃ xs,H4 D=some (.lst xs)/\xs.length<sizeLine/\∃ m',m'<m/\W (i+1) m' Z2 (upd H4 D (.lst (xs++[y]))) else ∃ m',m'<m/\W (i+1) m' Z2 H3))
  (hRR:∀ D C s' H',Inv X LB Z H' s'->(∃ m,s'.heap.Ns C m)->FpOk X LB H' C->Q (.ref D) H'->RR (.ref D) C (.ok .next) s') :
  wpAny (model X.prog X.w) X.A (newList []) (λacc s₃=>wpAny (model X.prog X.w) X.A (newFunctionEnv scope X.env.globals cl [] X.env.qual none .none (some X.env)) (λcenv s₄=>
   codeAny (model X.prog X.w) X.A (.compStart (.ListComp elt [#[tg,iter,ifs,0]] scope pos) 0 (.ref it) acc { cenv with scope:=relabel scope X.env }) (RR acc cenv.locals) s₄) E s₃) E s2:=by
 have hfp:∀ b∈fp,b<s2.heap.objs.size:=λb hb=>by
  obtain ⟨o,e,_⟩:=T.obj 0 _ st2 b hb;exact aK e
 refine wpAny_newObj_type (FE c.one ?_);dsimp only;generalize hHH:s2.heap.push { cls:=.type "list",dict:=none,data:=.seq ([]:List Value).toArray }=HH;generalize hh₁:(HH.push { cls:=.type "dict",data:=.dict (List.toArray []) }).push { cls:=.type "cell",data:=.cell none }=h₁;have hC:HH.objs.size=s2.heap.objs.size+1:=by rw[<-hHH,jw]
 have hDC:s2.heap.objs.size≠HH.objs.size:=by rw[hC];exact bo (jx _)
 have hCle:s2.heap.objs.size<=HH.objs.size:=by rw[hC];exact dm _
 have kp₁:∀ b o,HH.get? b=some o->h₁.get? b=some o:=λb o e=>hh₁ ▸ aR _ (aR _ e);have old:∀ b o,s2.heap.get? b=some o->h₁.get? b=some o:=λb o e=>kp₁ b o (hHH ▸ aR _ e);have hnew:h₁.get? s2.heap.objs.size=some { cls:=.type "list",data:=.seq (List.toArray []) }:=kp₁ _ _ (hHH ▸ cQ _ rfl);have hns₁:h₁.Ns HH.objs.size λ_=>none:=hh₁ ▸ (Heap.Ns.new HH (.type "dict")).push _;have hcz:h₁.IsCell (HH.objs.size+1) none:=by
  refine #[{ cls:=.type "cell",data:=.cell none },?_,rfl];rw[<-hh₁];have e:(HH.push { cls:=.type "dict",data:=.dict (List.toArray []) }).objs.size=HH.objs.size+1:=jw ..;rw[<-e];exact cQ _ rfl
 have I3:∀ tk,Inv (d5 X N scope z cl HH.objs.size s2 H2 fp) LB (eD own cap Z) (upd H2 s2.heap.objs.size (.lst [])) { s2 with heap:=h₁,toks:=tk }:=λtk=>
  FF I2 c hcl f2 (ai _) hCle hDC old hnew #[_,hns₁] hcz (by rw[hC];exact bo (nB (jx _))) hfp hcalm
 obtain ⟨W,⟨m0,w0⟩,turn⟩:=rd s2.heap.objs.size (I2.hok.fresh (ai _));have st3:tn 0 h₁:=T.keep _ _ _ st2 λb _ o e=>old b o e;have fr3:∀ b∈fp,upd H2 s2.heap.objs.size (.lst []) b=none:=λb hb=>by rw[aj (bo (hfp b hb))];exact (f2 b hb).1
 have stat:∀{H':Hp},(∀ b∈fp,H' b=none)->∀ b∈fp,FpOk (d5 X N scope z cl HH.objs.size s2 H2 fp) LB H' b:=λhn b hb=>by
  obtain ⟨_,h2,h3,_,h5,h6⟩:=f2 b hb;refine #[hn b hb,bo (aP (hfp b hb) hCle),λz=>?_,.inl hb,λx cc e=>?_,h6]
  .rcases aW.mp (I2.stkSub b z) with q|q
   .exact h2 q
   .exact h3 q
  .have e:((_,HH.objs.size+1)::cl).lookup x=some cc:=e;rw[c6]at e;split at e
   .exact λq=>absurd (show HH.objs.size+1<s2.heap.objs.size from (by rw[aJ e,q];exact hfp b hb)) (g8.mpr (ax hCle (dm _)))
   .exact h5 x cc (hcl.sub x cc e)
 have loop:∀ s₃:Shared,s₃={ s2 with heap:=h₁ }->
   codeAny (model X.prog X.w) X.A (.compLoop (.ListComp elt [#[tg,iter,ifs,0]] scope pos) 0 (.ref it) (.ref s2.heap.objs.size) (compEnvC scope ((z,HH.objs.size+1)::cl) HH.objs.size X.env)) (RR (.ref s2.heap.objs.size) HH.objs.size) s₃:=by
  rintro s₃ rfl;refine zF (λn s'=>∃ i Z' H',Inv (d5 X N scope z cl HH.objs.size s2 H2 fp) LB Z' H' s'/\tn i s'.heap/\(∀ b∈fp,H' b=none)/\W i n Z' H') ?_ m0 #[0,_,_,I3 _,st3,fr3,w0];rintro n s3 ⟨i,Z3,H3,J3,t3,fr,w3⟩;rcases turn i n Z3 H3 w3 with ⟨stop,qn⟩|⟨go,step⟩
  .refine thn (T.done (d5 X N scope z cl HH.objs.size s2 H2 fp) rfl rfl rfl hcalm i LB s3 Z3 H3 (λ_ _=>False) J3 (stat fr) t3 stop) λr s4 zq0=>?_;obtain ⟨hr,I4⟩:=zq0;subst hr;obtain ⟨mm,hmm,_⟩:=I4.loc;refine hRR _ _ s4 H3 (I2.call' I4.os I4.base I4.hok I4.bare λb hb=>?_) #[mm,hmm] (I2.fpOk hCle I4.free) qn;obtain ⟨_,h2,_,h4,h5,h6⟩:=f2 b hb;exact #[h4,h2,h5,h6]
  .refine thn (T.item (d5 X N scope z cl HH.objs.size s2 H2 fp) rfl rfl rfl hcalm i LB s3 Z3 H3 (λ_ _=>False) J3 (stat fr) t3 go) λr s4 zq0=>?_;obtain ⟨u,hr,h4⟩:=zq0;subst hr;refine thn h4 λ_ s5 zq0=>?_;obtain ⟨x,H5,I5,r5,y5,st5,fr5⟩:=zq0;have I5':=I5.pinned (stat fr5) (T.obj _ _ st5);have back:∀{Z7:St} {H7:Hp} {s7:Shared} {m':Nat},Inv (d5 X N scope z cl HH.objs.size s2 H2 fp) (LB++jD fp s5.heap) Z7 H7 s7->W (i+1) m' Z7 H7->∃ i Z' H',Inv (d5 X N scope z cl HH.objs.size s2 H2 fp) LB Z' H' s7/\tn i s7.heap/\(∀ b∈fp,H' b=none)/\W i m' Z' H':=λ{Z7 H7 s7 m'} I7 w7=>by
    refine #[i+1,Z7,H7,I7.unpinned,T.keep _ _ _ st5 λb hb o e=>(I7.pin (b,o) (cn _ (cn _ (jE hb e)))).1,λb hb=>?_,w7];obtain ⟨o,e,d⟩:=T.obj _ _ st5 b hb;exact (I7.pin (b,o) (cn _ (cn _ (jE hb e)))).2.1
   refine thn (hg cl HH.objs.size s2 H2 fp _ s5 Z3 H5 x u _ I5' r5 (step x H5 y5)) λ_ s6 zq0=>?_;obtain ⟨Z6,H6,I6,q6⟩:=zq0;refine thn (hts cl HH.objs.size s2 H2 fp _ s6 Z6 H6 _ I6 q6) λb s7 zq0=>?_;obtain ⟨H7,I7,q7⟩:=zq0;cases b with
   | false=>
    rw[af cm]at q7 ⊢;obtain ⟨m',hm,w7⟩:=q7;exact #[m',hm,back I7 w7]
   | true=>
    rw[ae rfl]at q7 ⊢;refine thn (he cl HH.objs.size s2 H2 fp _ s7 Z6 H7 _ I7 q7) λv s8 zq0=>?_;obtain ⟨y,H8,I8,r8,q8⟩:=zq0;obtain ⟨xs,hx,hz,m',hm,w8⟩:=q8;refine thn (dH (X:=d5 X N scope z cl HH.objs.size s2 H2 fp) _ s8 Z6 H8 (.ref s2.heap.objs.size) [y] (.ref s2.heap.objs.size) [v] (λ_ H9=>H9=upd H8 s2.heap.objs.size (.lst (xs++[y]))) I8 rfl (.cons r8 .nil) #[_,xs,y,rfl,rfl,hx,hz,rfl]) λ_ s9 zq0=>?_;obtain ⟨_,H9,I9,_,e9⟩:=zq0;subst e9;exact #[m',hm,back I9 w8]
 refine codeAny_compStart_list (loop _ rfl) ?_;exact T.self _ 0 _ _ _ st3 (loop _ rfl)
def FH (z:Str){i:Nat}{x:Str}{pos pos' spos:Pos}(hN:X.N.Nodup)(hxi:X.N[i]?=some x)(hx:X.env.scope.names.lookup x=some .local)(hcalm:X.calm=true)(hi:PI X tg iter wi)(c:um X scope z N own cap)
  (hg:∀ cl C s₂ H₂ fp,PG (d5 X N scope z cl C s₂ H₂ fp) tg g) (hts:∀ cl C s₂ H₂ fp,PTs (d5 X N scope z cl C s₂ H₂ fp) ifs ts) (he:∀ cl C s₂ H₂ fp,PE (d5 X N scope z cl C s₂ H₂ fp) elt te)
  (hsw:swapsWith (.ListComp elt [#[tg,iter,ifs,0]] scope pos) (some (.Name x pos')) spos.line X.env=pure true:=by rfl)
  (hs:∀ x,foldedSetIterable iter X.env x=pure x:=by intro _;rfl):PS X (.Assign [.Name x pos'] (.ListComp elt [#[tg,iter,ifs,0]] scope pos) spos) (tAsg (ud own cap wi g ts te) (gE i)):=by
 intro LB s Z H D I h;obtain ⟨cl,hcl⟩:=ox (scope:=scope) (env:=X.env) λx hx=>I.ok.has x (by
  have:=eA.mp c.frees _ hx;simpa using this)
 rw[exec_Assign_Name_used _ _ _ _ hsw];refine ao (wpAny_standAt (ao ?_));show wpAny _ X.A (do let _ <-comprehension (.ListComp elt [#[tg,iter,ifs,0]] scope pos) scope X.env _ (newList []) false (eval iter X.env) (some (assign (.Name x pos') X.env))) _ _ s
 refine ao (dP (wpAny_comprehension_free (use:=some (assign (.Name x pos') X.env)) (Q:=λ_ s'=>SP X LB D .next s') rfl hs hcl.eq c.kind (λx hx hl=>by
  have:=eA.mp c.locs x hx;rw[hl]at this;simpa using this) (thn (hi LB s Z H _ I h) λv s1 h1=>thn h1 λitv s2 h2=>?_)) (λ_ s' hq=>aA (aA hq)) λ_ _ e=>e)
 obtain ⟨it,fp,tn,J,H2,e,I2,T,st2,f2,rd⟩:=h2;subst e;refine FG (RR:=λacc C=>compPost (model X.prog X.w) X.A X.xe (some (assign (.Name x pos') X.env)) (λ_ s'=>SP X LB D .next s') acc C) (Q:=λx H1=>gE i x Z H1 D.nx) hcalm c hcl hg hts he I2 T st2 f2 rd ?_;intro Dd C s' H' I' hm fC q;obtain ⟨m,hm⟩:=hm;have hne:∀ a,(a=X.env.locals\/X.env.cells.lookup x=some a)->a≠C:=λa z=>by
  obtain ⟨f0,f1,f2,f3,f4,f5⟩:=fC;rcases z with z|z
  .rw[z];exact aS f1
  .exact f4 x a z
 show wpAny _ X.A (assign (.Name x pos') X.env (.ref Dd)) _ _ _;refine wpAny_assign_Name (tj I' hN hxi (.inl hx) (v:=.ref Dd) rfl (λs'' I'' hch=>?_) (.inr hx));obtain ⟨a,hsb,ha⟩:=hch;refine #[m,hm.sameBut hsb (aS (hne a ha)),λh' hs'=>?_];obtain ⟨f0,f1,f2,f3,f4,f5⟩:=fC;exact #[_,H',I''.turned (t':=s''.toks) (λb o hb e=>(hs'.2 b hb).trans e) f0 f1 f3 f4 f5,q]
end
def ItF (hi:Int)(n:Nat):It:=#[λi _=>i<n,λi H x H'=>H'=H/\x=.int (hi-i),λi _=>n<=i]
def FI {K:Frag}(it:Addr)(hi:Int)(n:Nat):Turn P w K tg (ItF hi n) [it] it (λi h=>IsRangeIter h it (hi+(i:Nat)*(-1)) ((n:Int)-(i:Nat)) (-1)) where
 mem:=by simp
 obj:=λi h st b hb=>by
  have e:b=it:=by simpa using hb
  subst e;exact #[_,st,λv z=>by
   have z':Data.fields _=Data.cell v:=z;cases z']
 keep:=λi h h' st k=>k it (by simp) _ st
 item:=by
  intro X hP hw hK hc i LB s Z H E I hf st hg;subst hP hw hK;obtain ⟨f0,f1,f2,f3,f4,f5⟩:=hf it (by simp);have W:=Walks.range (prog:=X.prog) (w:=X.w) (I.ok.hd hc) it hi (-1) n;refine W.item i s _ _ hg st λv h' tk hv st' kk=>?_;obtain ⟨t,rfl⟩:=hv;have I1:Inv X LB Z H { s with heap:=h',toks:=tk }:=I.turned (λb o hb e=>kk b o (by simpa using hb) e) f0 f1 f3 f4 f5;refine #[_,rfl,lC (s:={ s with heap:=h',toks:=tk }) (n := "range_iterator") st' rfl rfl (by decide) #[.int (hi-i),H,I1,#[t,?_],#[rfl,rfl],st',λb hb=>(hf b hb).1]];rw[show hi+((i:Nat):Int)*(-1)=hi-i by lia]
 done:=by
  intro X hP hw hK hc i LB s Z H E I hf st hg;subst hP hw hK;obtain ⟨f0,f1,f2,f3,f4,f5⟩:=hf it (by simp);exact wpAny_pyNext_range_end (I.ok.hd hc) st (by have:n<=i:=hg;lia) λh' eb=>#[rfl,I.turned (t':=s.toks) (λb o hb e=>eb b o hb e) f0 f1 f3 f4 f5]
 self:=λ_ _ _ _ _ st h=>wpAny_pyIter_rangeiter st h
def zZ (a b:Int):Builtin.Range.rangeSize a b (-1)=if a>b then a-b else 0:=by
 unfold Builtin.Range.rangeSize;rw[af (by decide)];split
 .rw[show -(-1:Int)=1 from rfl,Int.ediv_one];lia
 .rfl
def FJ {a b:Int}(ha:-(2^62)<=a)(ha':a<2^62)(hb:-(2^62)<=b)(hb':b<2^62):Builtin.Range.small a b (-1)=true:=by
 unfold Builtin.Range.small;rw[zZ];simp only[Builtin.Range.rangeFitsLong,d9,kU,decide_eq_true_eq,beq_iff_eq,show ¬ (-1:Int)>0 by decide,if_false];split<;>lia
section
variable {X:Cx}{tg:Expr}
def FK {R:It->Hp->Prop}{E:Value->Shared->Prop}{hi lo:Int}{t u v:Tok}{tk:Nat}(I:Inv X LB Z H s)(h1:-(2^62)<=hi)(h2:hi<2^62)(h3:-(2^62)<=lo)(h4:lo<2^62)
  (q:R (ItF hi (hi-lo).toNat) H):wpAny (model X.prog X.w) X.A (pyIter (.ref s.heap.objs.size)) (PIE X LB Z tg R) E { s with heap:=s.heap.push { cls:=.type "range",data:=.fields (List.toArray [.int hi t,.int lo u,.int (-1) v]) },toks:=tk }:=by
 refine wpAny_pyIter_range (IsRange.new ..) (FJ h1 h2 h3 h4) ?_;have I1:Inv X LB Z H { s with heap:=s.heap.push { cls:=.type "range",data:=.fields (List.toArray [.int hi t,.int lo u,.int (-1) v]) },toks:=tk }:=I.kept λb o e=>aR _ e;refine #[(s.heap.push { cls:=.type "range",data:=.fields (List.toArray [.int hi t,.int lo u,.int (-1) v]) }).objs.size,[(s.heap.push { cls:=.type "range",data:=.fields (List.toArray [.int hi t,.int lo u,.int (-1) v]) }).objs.size],_,_,H,rfl,
  I1.kept (t':=tk) λb o e=>aR _ e,FI _ hi (hi-lo).toNat,?_,λb hb=>?_,q]
 .have e1:hi+((0:Nat):Int)*(-1)=hi:=by simp
  have e2:(((hi-lo).toNat:Nat):Int)-((0:Nat):Int)=Builtin.Range.rangeSize hi lo (-1):=by rw[zZ];split<;>lia
  show IsRangeIter _ _ (hi+((0:Nat):Int)*(-1)) ((((hi-lo).toNat:Nat):Int)-((0:Nat):Int)) (-1);rw[e1,e2];exact cQ _ rfl
 .have e:b=(s.heap.push { cls:=.type "range",data:=.fields (List.toArray [.int hi t,.int lo u,.int (-1) v]) }).objs.size:=by simpa using hb
  subst e;exact I1.fpOk (ai _) (I1.hok.fresh (ai _))
inductive z5 (R:It->Hp->Prop)(vs:List V)(H1:Hp):Prop
 | c:∀(i j:Int),vs=[.int i,.int j,.int (-1)]->(-(2^62)<=i/\i<2^62/\-(2^62)<=j/\j<2^62)->R (ItF i (i-j).toNat) H1->z5 R vs H1
def FL (ta:TA):TI:=λZ H R=>ta Z H λvs H1=>z5 R vs H1
def FM {a b c:Expr}{p pos:Pos}(hg:Gl X "range")(hm:X.mg "range" = none)(ha:PA X [a,b,c] ta)(hs:starEach [a,b,c] X.env=[(false,eval a X.env),(false,eval b X.env),(false,eval c X.env)]:=by rfl)(hs2:starEach [b,c] X.env=[(false,eval b X.env),(false,eval c X.env)]:=by rfl) :
  PI X tg (.Call (.Name "range" p) [a,b,c] [] pos) (FL ta):=by
 intro LB s Z H R I h;refine Call_ (gD I hg hm boot_range (PyProof.Rows.callWith_type1 (thn (ha pos LB s Z H _ I h) λus s1 zq0=>?_) (by rw[hs,hs2]) (by rw[hs2];rfl)));obtain ⟨vs,H1,I1,r1,q1⟩:=zq0;obtain ⟨i,j,e,⟨q1,q2,q3,q4⟩,q⟩:=q1;subst e;cases r1 with
 | cons r rr=>
  cases rr with
  | cons r' rr=>
   cases rr with
   | cons r2 rr=>
    cases rr
    obtain ⟨t,rfl⟩:=r;obtain ⟨t',rfl⟩:=r';obtain ⟨t2,rfl⟩:=r2;exact call_range_3 (by decide) (FK I1 q1 q2 q3 q4 q) (ar (PyProof.noPylong_small (by decide)))
end
def FN {hi:Int}{n:Nat}{g:TG}{tb:TS}{D:Ends}{Z:St}{H:Hp}(Pv:Nat->St->Hp->Prop)(h0:Pv 0 Z H)
  (hs:∀ i Z H,i<n->Pv i Z H->g (.int (hi-i)) Z H λZ2 H2=>tb { D with nx:=Pv (i+1),ct:=Pv (i+1),bk:=D.nx } Z2 H2) (hd:∀ Z H,Pv n Z H->D.nx Z H) :
  ∃ W:Nat->Nat->St->Hp->Prop,(∃ m,W 0 m Z H)/\∀ i m Z H,W i m Z H->
   ((ItF hi n).stop i H/\D.nx Z H)\/((ItF hi n).go i H/\∃ N:St->Hp->Prop,(∀ Z' H',N Z' H'->∃ m',m'<m/\W (i+1) m' Z' H')/\∀ x H',(ItF hi n).yld i H x H'->g x Z H' λZ2 H2=>tb { D with nx:=N,ct:=N,bk:=D.nx } Z2 H2):=by
 refine #[λi m Z H=>m=n-i/\i<=n/\Pv i Z H,#[n,by simp,bK _,h0],?_];rintro i m Z H ⟨rfl,hi,p⟩;by_cases hlt:i<n
 .refine .inr #[hlt,Pv (i+1),λZ' H' p'=>#[n-(i+1),by lia,rfl,hlt,p'],λx H' y=>?_];obtain ⟨e,y⟩:=y;subst e y;exact hs i Z _ hlt p
 .have e:i=n:=by lia
  subst e;exact .inl #[ai _,hd Z H p]
mutual
inductive RD (H:Hp):V->PyData->List Addr->Prop
 | non:RD H .non .none []
 | bl (b:Bool):RD H (.bl b) (.bool b) []
 | int (i:Int):RD H (.int i) (.int i) []
 | str (x:Str):RD H (.str x) (.str x) []
 | lst {a:Addr} {xs:List V} {ds:List PyData} {as:List Addr}:H a=some (.lst xs)->RDs H xs ds as->RD H (.ref a) (.list ds) (a::as)
 | tup {a:Addr} {xs:List V} {ds:List PyData} {as:List Addr}:H a=some (.tup xs)->RDs H xs ds as->RD H (.ref a) (.tuple ds) as
 | dic {a:Addr}:H a=some (.dK [])->RD H (.ref a) (.dict []) [a]
inductive RDs (H:Hp):List V->List PyData->List Addr->Prop
 | nil:RDs H [] [] []
 | cons {x:V} {xs:List V} {d:PyData} {ds:List PyData} {as bs:List Addr}:RD H x d as->RDs H xs ds bs->RDs H (x::xs) (d::ds) (as++bs)
end
section
variable {X:Cx}{LB:List (Addr×Obj)}{Z:St}{H:Hp}{s:Shared}
mutual
def RD.reads (I:Inv X LB Z H s):∀{x:V} {d:PyData} {as:List Addr} {u:Value},RD H x d as->RelV x u->Reads s.heap u d as
 | _,_,_,_,.non,r=>by
  cases r
  exact .none
 | _,_,_,_,.bl b,r=>by
  cases r
  exact .bool b
 | _,_,_,_,.int i,r=>by
  obtain ⟨t,rfl⟩:=r;exact .int i t
 | _,_,_,_,.str x,r=>by
  obtain ⟨t,rfl⟩:=r;exact .str x t
 | _,_,_,_,.lst (a:=a) (xs:=xs) e t,r=>by
  cases r
  obtain ⟨_,its,n,rv,h1⟩:=(show bD X.prog X.w H s.heap a (.lst xs) from I.hok a _ e);exact .list h1 rfl rfl (RDs.reads I t rv)
 | _,_,_,_,.tup (a:=a) (xs:=xs) e t,r=>by
  cases r
  obtain ⟨_,its,rv,p⟩:=(show bD X.prog X.w H s.heap a (.tup xs) from I.hok a _ e);obtain ⟨o,h1,h2,n,h3⟩:=(show s.heap.IsTuple a its.toArray from p);exact .tuple h1 h2 h3 (RDs.reads I t rv)
 | _,_,_,_,.dic (a:=a) e,r=>by
  cases r
  obtain ⟨_,_,vs,rel,o,es,ep,h1,h2,h3,h4,h5,h6⟩:=(show bD X.prog X.w H s.heap a (.dK []) from I.hok a _ e);cases rel
  have e0:es.toList=[]:=by
   have:=h5.length;exact List.length_eq_zero_iff.mp this
  have:=Reads.dict (kvs:=[]) (as:=[]) (bs:=[]) h1 h2.1 h3 (by rw[e0];exact .nil) (by rw[e0];exact .nil);exact this
def RDs.reads (I:Inv X LB Z H s):∀{xs:List V} {ds:List PyData} {as:List Addr} {us:List Value},RDs H xs ds as->Vals xs us->ReadsAll s.heap us ds as
 | _,_,_,_,.nil,.nil=>.nil
 | _,_,_,_,.cons r t,.cons rv q=>.cons (RD.reads I r rv) (RDs.reads I t q)
end
end
inductive uo (xs:List V)(H:Hp)(Q:VK):Prop
 | c:∀(a:Addr) (d:PyData) (as:List Addr),xs=[.ref a]->RD H (.ref a) d as->d.showable=true->(d.hasDict=true->sysModules∉as)->d.depth<=8->d.shown.length<=sizeLine->Q (.str d.shown) H->uo xs H Q
def z9 {X:Cx}(hg:X.A.guards=some [])(hu:X.A.units+16<cLine):cV X (.builtin "repr") uo:=by
 intro LB s Z H xs us Q I r h;obtain ⟨a,d,as,rfl,rd,h1,h2,h3,h4,q⟩:=h;obtain ⟨u,rfl,rx⟩:=fh r;have rr:=rd.reads I rx;cases rx
 exact repr_of_reads' rr h1 h2 hg (by lia) (λb o e=>e) (λh' u tk k=>#[.str d.shown,H,Inv.kept (t':=tk) I k,#[u,rfl],q]) h4
structure uq (scope:Scope)(ps caps:List Str):Prop where
 kind:scope.kind=.function
 co:scope.isCoroutine=false
 gen:scope.isGenerator=false
 nocell:∀ x∈scope.names,x.2≠.cell
 par:∀ x∈ps,scope.names.lookup x=some .local
 cap:∀ x∈caps,scope.names.lookup x=some .free
 nd:(ps++caps).Nodup
def jR (P:Program)(w:World)(K:Frag)(mg:Str->Option Value)(base:Heap)(N:List Str)(qual:Str)(scope:Scope)(f:Addr)(cd:Value)(cl:List (Str×Addr))(A:Around)(outer:List Env)(s:Shared)(H:Hp):Cx where
 prog:=P
 w:=w
 K:=K
 mg:=mg
 base:=base
 A:=A.deeper (W.envX qual scope s.heap.objs.size f cd cl)
 N:=N
 s₀:=s
 H₀:=H
 env:=W.envX qual scope s.heap.objs.size f cd cl
 outer:=outer
 stack:=W.envX qual scope s.heap.objs.size f cd cl::outer
 ex:=[]
 calm:=true
 fn:=λ_=>false
 pn:=[]
 xe:=λ_ _=>False
def lU (c:Addr)(q:Str):Heap->Prop:=λh=>h.CodeRec (.ref c) q
def i0 (H:Hp)(c:Addr)(q:Str):Prop:=H c=some (.ext (lU c q))
def FO (h1 h2:Heap)(x:lU c q h1)(k:∀ o,h1.get? c=some o->h2.get? c=some o):lU c q h2:=by
 obtain ⟨c',o,vs,t,e,ho,r⟩:=x;cases e
 exact #[c,o,vs,t,rfl,k o ho,r]
def i0.rec {w:World}{h:Heap}{c:Addr}(x:i0 H c q)(ok:HOk P w H h):h.CodeRec (.ref c) q:=(ok c _ x).1
def Aa {x:Str}{u:Value}:∀{ps:List Str} {us:List Value} {i:Nat},ps.Nodup->ps[i]?=some x->us[i]?=some u->(ps.zip us).reverse.lookup x=some u
 | [],_,_,_,e,_=>by simp at e
 | _::_,[],_,_,_,e=>by simp at e
 | p::ps,v::us,0,hn,e1,e2=>by
  have e1:p=x:=by simpa using e1
  have e2:v=u:=by simpa using e2
  subst e1 e2;rw[sQ,nE,List.lookup_append];have z:(ps.zip us).reverse.lookup p=none:=by
   rw[List.lookup_eq_none_iff];intro y hy;have:=kJ (kW.mp hy);simp only[beq_eq_false_iff_ne,ne_eq,bne_iff_ne];intro q;rw[dz]at hn
   first
    | exact hn.1 (q ▸ this.1)
    | (rw[q]at hn;exact hn.1 this.1)
  rw[z];simp
 | p::ps,v::us,i+1,hn,e1,e2=>by
  rw[dz]at hn;have ih:=Aa (ps:=ps) (us:=us) (i:=i) hn.2 (by simpa using e1) (by simpa using e2);rw[sQ,nE,List.lookup_append,ih];rfl
inductive lV (n:Nat)(tb:TE)(vcs:List V)(c:Addr)(q:Str)(vs:List V)(H:Hp)(Q:VK)(w_1:XK):Prop
 | c:vs.length=n->i0 H c q->tb (vs.map some++vcs.map some) H Q->lV n tb vcs c q vs H Q w_1
def FP {K:Frag}{base:Heap}{k:Nat}{f c:Addr}{name qual:Str}{params:Arguments}{body:Expr}{cl:List (Str×Addr)}{pm ctv:Value}{vcs:List V}
  (S:uq scope ps caps) (hf:base.get? f=some (W.kla_obj name qual params body scope cl pm c ctv)) (hlen:vcs.length=caps.length)
  (hcap:∀(j:Nat) (x:Str) (v:V),caps[j]?=some x->vcs[j]?=some v->∃ a u,cl.lookup x=some a/\base.IsCell a (some u)/\RelV v u)
  (hcell:∀ x a,cl.lookup x=some a->∃ v,base.IsCell a v) (hinj:∀ x y a,cl.lookup x=some a->cl.lookup y=some a->x=y) (hhas:∀ x,scope.names.lookup x=some .free->∃ a,cl.lookup x=some a)
  (hb:∀(A:Around) (outer:List Env) (s:Shared) (H:Hp),Room k (A.deeper (W.envX qual scope s.heap.objs.size f (.ref c) cl))->PE (jR P w K mg base (ps++caps) qual scope f (.ref c) cl A outer s H) body tb) :
  FnOk P w K mg base CX0 (k+1) f (W.kla_fn name qual params body scope cl pm (.ref c) ctv) ps (lV ps.length tb vcs c qual):=by
 refine #[λvs H Q E h=>h.1,λA outer s H args us vs Q E hr e0 hbind r hsp=>?_];obtain ⟨hl,hc,hq⟩:=hsp;have bk:∀ b o,base.get? b=some o->s.heap.get? b=some o:=λb o e=>(e0.bs b o e).1;have hul:us.length=ps.length:=by rw[<-r.length];exact hl
 refine W.kla_callFunE hr.depth (bk _ _ hf) rfl S.co S.gen rfl (hc.rec e0.hok) ?_;refine hbind _ _ _ _ ?_;refine wpAny_newFunctionEnv S.nocell (λy hy=>S.par _ (kJ hy).1) (λh1 hns hsb=>#[(e0.mod.nolimit.keeps bk).fresh _ hsb,?_]) S.kind;show codeAny _ _ (.expr body (W.envX qual scope s.heap.objs.size f (.ref c) cl)) _ _;have hk:∀ b o,s.heap.get? b=some o->h1.get? b=some o:=λb o e=>hsb.extBut b o (bo (aK e)) (aR _ e);have cellK:∀ a v,base.IsCell a v->h1.IsCell a v/\H a=none:=λa v ⟨o,ho,hd⟩=>#[#[o,hk _ _ (bk _ _ ho),hd],(e0.bs _ _ ho).2];have ndps:ps.Nodup:=(fP.mp S.nd).1;have noA:∀ b:Addr,b∉([]:List Addr):=λb z=>absurd z (by simp);have I:Inv (jR P w K mg base (ps++caps) qual scope f (.ref c) cl A outer s H) [] (vs.map some++vcs.map some) H { s with heap:=h1,toks:=s.toks+(ps.zip us).length }:=by
  refine #[#[e0.mod,S.kind,rfl,rfl,ai _,hinj,λy hy=>?_,λy a z _=>(by cases z),λ_=>hr.hd,Around.frames_deeper e0.frames,.inr #[rfl,rfl],λb z=>absurd z (noA b),e0.bs,e0.bsz,λb _ _=>noA b,λb z=>absurd z (noA b),e0.funs,e0.frf],
   rfl,e0.bare,Un.kept hk,#[_,hns,λi y v h1' h2 h3=>?_],λy a h=>?_,e0.hok.fresh (ai _),λy a h=>?_,λp hp=>absurd (show p∈([]:List (Addr×Obj)) from hp) (by simp),e0.hok.kept hk,?_]
  .have hy:scope.names.lookup y=some .cell\/scope.names.lookup y=some .free:=hy;rcases hy with hy|hy
   .exact absurd rfl (S.nocell _ (PySem.mem_of_lookup hy))
   .exact hhas y hy
  .have h1':(ps++caps)[i]?=some y:=h1';by_cases hi:i<ps.length
   .rw[gS hi]at h1';rw[gS (by rw[aq];lia),bf]at h2;cases e:vs[i]? with
    | none=>rw[e]at h2;cases h2
    | some v'=>
     rw[e]at h2;cases h2
     obtain ⟨u,hu,ru⟩:=r.get e;exact #[u,ru,.inl #[S.par y (cy h1'),Aa ndps h1' hu]]
   .rw[fM (by lia)]at h1';rw[fM (by rw[aq];lia),aq,bf]at h2;cases e:vcs[i-vs.length]? with
    | none=>rw[e]at h2;cases h2
    | some v'=>
     rw[e]at h2;cases h2
     rw[hl]at e;obtain ⟨a,u,e1,e2,ru⟩:=hcap _ _ _ h1' e;exact #[u,ru,.inr #[.inr (S.cap y (cy h1')),a,e1,(cellK _ _ e2).1]]
  .obtain ⟨v,z⟩:=hcell y a h;exact #[v,(cellK _ _ z).1]
  .obtain ⟨v,z⟩:=hcell y a h;exact (cellK _ _ z).2
  .show (vs.map some++vcs.map some).length=(ps++caps).length;rw[bc,bc,aq,aq,hl,hlen]
 refine W.kla_codeExpr (dP (hb A outer s H (hr.deeper _) [] _ _ H Q I hq) (λu s' hu=>?_) λ_ _ z=>(show False from z).elim);obtain ⟨v,H',J,rv,q⟩:=hu;exact #[v,H',J.os,J.bare,J.base,J.hok,rv,q]
def Gro (Pt:Addr)(H H':Hp):Prop:=∀ b o,b≠Pt->H b=some o->H' b=some o
def Gro.refl (Pt:Addr)(H:Hp):Gro Pt H H:=λ_ _ _ h=>h
structure cW (H:Hp)(Pt:Addr)(pos:Pos)(q:Str):Prop where
 ex:∃ tab:Array Value,H Pt=some (.tbl tab)/\TriplesOk tab.toList/\(codeAmong pos tab.toList=none\/∃ c,codeAmong pos tab.toList=some (.ref c)/\i0 H c q)
def cW.ext (x:cW H Pt pos q)(e:Ext H H'):cW H' Pt pos q:=by
 obtain ⟨tab,h1,h2,h3⟩:=x.ex;refine #[tab,e _ _ h1 nofun,h2,?_];rcases h3 with h3|⟨c,h3,h4⟩
 .exact .inl h3
 .exact .inr #[c,h3,e _ _ h4 nofun]
def cW.gro (x:cW H Pt pos q)(e:Gro P2 H H')(hne:Pt≠P2)(h2:∃ tab,H P2=some (.tbl tab)):cW H' Pt pos q:=by
 obtain ⟨tab,h1,h3,h4⟩:=x.ex;refine #[tab,e _ _ hne h1,h3,?_];rcases h4 with h4|⟨c,h4,h5⟩
 .exact .inl h4
 .refine .inr #[c,h4,e _ _ (λz=>?_) h5];obtain ⟨tab2,y⟩:=h2;rw[<-z,show H c=_ from h5]at y;cases y
def BMAt (mg:Str->Option Value)(base:Heap):Prop:=∃ bm o,mg "__builtins__" = some (.ref bm)/\bm≠builtinsNs/\bm≠mainGlobals/\base.get? bm=some o/\o.cls=.type "module"/\o.dict=some builtinsNs/\o.data=.plain
section
variable {X:Cx}{LB:List (Addr×Obj)}{Z:St}{H:Hp}{s:Shared}{params:Arguments}{body:Expr}{scope:Scope}{lpos:Pos}{c Pt:Addr}{Q:Value->Shared->Prop}
def FQ {c':Addr}{q:Str}{tab more:Array Value}{h':Heap}{tk:Nat}(I:Inv X LB Z H s)(hP:H Pt=some (.tbl tab))(hx:∀ b o,b≠Pt->s.heap.get? b=some o->h'.get? b=some o)(hge:s.heap.objs.size<=c')
  (hrec:h'.CodeRec (.ref c') q) (htb:h'.get? Pt=some (W.tabObj (tab++more))):Inv X LB Z (upd (upd H Pt (.tbl (tab++more))) c' (.ext (lU c' q))) { s with heap:=h',toks:=tk }:=by
 have hfr:H c'=none:=I.hok.fresh hge;have nPc:Pt≠c':=au hP hfr;have low:∀ b u,H b=some u->b≠c':=λb u e=>au e hfr;have lows:∀ b o,s.heap.get? b=some o->b≠c':=λb o e=>bo (aP (aK e) hge);have nP:∀ b,H b=none->b≠Pt:=λb n z=>by rw[z,hP]at n;cases n
 refine I.un (t':=tk) #[λb o e n _ _=>hx b o (nP b n) e,λb o e n _ _=>#[o.slots,hx b o (nP b n) e],λb o e n _=>?_,λb o e _=>?_,λb xs e=>?_,λb o u e=>?_,λb ps e=>?_] λa o e=>?_
 .rw[aj (lows b o e),aj (nP b n)];exact n
 .by_cases z:b=Pt
  .exact #[_,by rw[z];exact htb]
  .exact #[o,hx b o z e]
 .rw[aj (low b _ e),aj (λz=>by rw[z,hP]at e;cases e)]
  exact e
 .rw[aj (low b _ e),aj (λz=>by rw[z,hP]at e;cases e)]
  exact e
 .by_cases z:b=Pt
  .rw[z,hP]at e;cases e
   exact #[more,by rw[z,aj nPc,ak]]
  .exact #[(List.toArray []),by rw[aj (low b _ e),aj z,e];simp]
 .by_cases z:a=c'
  .subst z;rw[ak]at e;cases e
   obtain ⟨c2,o2,vs,t,e2,ho2,r2⟩:=id hrec;cases e2
   exact #[hrec,#[o2,ho2],λh1 h2 x k=>FO h1 h2 x k]
  .rw[aj z]at e;by_cases y:a=Pt
   .subst y;rw[ak]at e;cases e
    exact htb
   .rw[aj y]at e;refine (I.hok a o e).stay (λb u hb q=>hx b u ?_ q) (λb q=>?_) λb xs q=>?_
    .rcases hb with rfl|hb
     .exact y
     .intro z2;rw[z2,hP]at hb;cases hb
    .rw[aj (low b _ q),aj (λz2=>by rw[z2,hP]at q;cases q)]
     exact q
    .rw[aj (low b _ q),aj (λz2=>by rw[z2,hP]at q;cases q)]
     exact q
def FR (I:Inv X LB Z H s)(hdef:defaultsOf params X.env=([],[]))(hfr:∀ x,(x,NameKind.free)∈scope.names->(X.env.kindOf x=some .cell\/X.env.kindOf x=some .free))(hcode:X.env.code=.ref c)(hC:codeHdIn X.K c Pt=true)(hBM:BMAt X.mg X.base)
  (hT:cW H Pt lpos (X.env.qual ++ "<lambda>"))
  (h:∀(f c':Addr) (cl:List (Str×Addr)) (pm ctv:Value) (H':Hp) (s':Shared),iZ scope X.env cl->Inv X LB Z H' s'->s'.heap.get? f=some (W.kla_obj "<lambda>" (X.env.qual ++ "<lambda>") params body scope cl pm c' ctv)->H' f=none->s.heap.objs.size<=f->
   Gro Pt H H'->cW H' Pt lpos (X.env.qual ++ "<lambda>")->i0 H' c' (X.env.qual ++ "<lambda>")->Q (.ref f) s') :
  wpAny (model X.prog X.w) X.A (eval (.Lambda params body scope lpos) X.env) Q X.xe s:=by
 obtain ⟨cl,hcl⟩:=ox (scope:=scope) (env:=X.env) λx hx=>I.ok.has x (hfr x hx);obtain ⟨tab,hP,ht,hor⟩:=hT.ex;have hPo:s.heap.get? Pt=some (W.tabObj tab):=I.hok Pt _ hP;have C:W.CodeHd s.heap c Pt:=(W.codeHd_of_K I.ok.mod.kin hC).keeps I.bk;have hgl:=I.mod.glob.keeps I.bk;have hgP:mainGlobals≠Pt:=λz=>by
  obtain ⟨o,es,ep,e,_⟩:=I.mod.glob;have:=(I.bs _ _ e).2;rw[z,hP]at this;cases this
 have hb:s.heap.BuiltinsAt X.mg Pt:=by
  obtain ⟨bm,o,b1,b2,b3,b4,b5⟩:=hBM;refine #[bm,o,b1,b2,b3,λz=>?_,I.bk _ _ b4,b5];have:=(I.bs _ _ b4).2;rw[z,hP]at this;cases this
 refine W.kla_eval hdef ?_;rcases hor with hnone|⟨c',hsome,hca⟩
 .refine W.kla_makeFunction (clos:=cl) hcl.eq I.ok.glob hgl hcode C hPo ht hnone hgP hb λc' ctv h' tk hx hge hlt hrec htb=>?_;have hx':∀ o2 b o,b≠Pt->s.heap.get? b=some o->(h'.push o2).get? b=some o:=λo2 b o n e=>aR _ (hx b o n e);have I':=FQ (c':=c') (q:=X.env.qual ++ "<lambda>") (tk:=tk) I hP (hx' _) hge (hrec.push (W.kla_obj "<lambda>" (X.env.qual ++ "<lambda>") params body scope cl ((X.mg "__name__").getD .none) c' ctv)) (aR _ htb);have hsz:s.heap.objs.size<=h'.objs.size:=aZ (cN hge hlt);have nPc:Pt≠c':=au hP (I.hok.fresh hge);have eT:(tab++(List.toArray [rawInt lpos.line,rawInt lpos.col,.ref c'])).toList=tab.toList++[rawInt lpos.line,rawInt lpos.col,.ref c']:=by simp
  have hTI:cW (upd (upd H Pt (.tbl (tab++(List.toArray [rawInt lpos.line,rawInt lpos.col,.ref c'])))) c' (.ext (lU c' (X.env.qual ++ "<lambda>")))) Pt lpos (X.env.qual ++ "<lambda>"):=
   #[_,by rw[aj nPc,ak],by rw[eT];exact TriplesOk_snoc _ _ _ _ ht,.inr #[c',by rw[eT];exact codeAmong_snoc _ ht hnone,ak]]
  refine h h'.objs.size c' cl _ ctv _ _ hcl I' (cQ _ rfl) ?_ hsz ?_ hTI ak
  .rw[aj (iD hlt),aj (λz=>?_)]
   .exact I.hok.fresh hsz
   .have:=aK hPo;rw[<-z]at this;exact absurd this (g8.mpr hsz)
  .intro b o n e;rw[aj (au e (I.hok.fresh hge)),aj n];exact e
 .refine W.kla_makeFunctionHit (clos:=cl) hcl.eq I.ok.glob hgl hcode C hPo ht hsome hb λctv h' tk hk hsz=>?_;exact h h'.objs.size c' cl _ ctv H _ hcl (I.kept (t':=tk) λb o e=>aR _ (hk b o e)) (cQ _ rfl) (I.hok.fresh hsz) hsz (Gro.refl _ _) hT hca
end
def fJ (X:Cx)(s:Shared)(H:Hp):Heap:=W.hideAll s.heap (trk s.heap H++frs X.stack)
def ur {h b1 b2:Heap}:∀{l:List Env},h.FunFrames b1 l->(∀ b∈frs l,b2.get? b=none)->h.FunFrames b2 l
 | [],_,_=>trivial
 | env::l,⟨h1,⟨L,o,h2,h3,h4,h5⟩,h6⟩,k=>by
  have m:∀ b∈frs l,b∈frs (env::l):=λb hb=>by
   unfold frs;rw[kI,h2];exact bG _ hb
  refine #[h1,#[L,o,h2,k L ?_,h4,h5],ur h6 λb hb=>k b (m b hb)];unfold frs;rw[kI,h2];exact bx
section
variable {X:Cx}{LB:List (Addr×Obj)}{Z:St}{H:Hp}{s:Shared}
def uu {b:Addr}{o:Obj}(e:s.heap.get? b=some o)(n:H b=none)(hf:b∉frs X.stack):(fJ X s H).get? b=some o:=
 W.hideAll_get _ e λhm=>by
  rcases bp.mp hm with z|z
  .have q:(H b).isSome=true:=(eJ.mp z).2;rw[n]at q;cases q
  .exact hf z
def Ab {b:Addr}{o:Obj}(e:(fJ X s H).get? b=some o):s.heap.get? b=some o/\H b=none/\b∉frs X.stack:=by
 have e1:=W.of_hideAll _ e;have hm:b∉trk s.heap H++frs X.stack:=λz=>by
  unfold fJ at e;rw[W.hideAll_none _ z]at e;cases e
 rw[bp,not_or]at hm;refine #[e1,?_,hm.2];cases q:H b with
 | none=>rfl
 | some u=>exact absurd (eJ.mpr #[cZ.mpr (aK e1),by rw[q];rfl]) hm.1
def Ac (I:Inv X LB Z H s):∀ b o,X.base.get? b=some o->(fJ X s H).get? b=some o:=λb o e=>by
 obtain ⟨h1,h2⟩:=I.bs b o e;refine uu h1 h2 λz=>?_;have:=(I.stack.mem z).1;rw[e]at this;cases this
def FS (I:Inv X LB Z H s):Env0 X.prog X.w X.K X.mg (fJ X s H) X.A X.stack s H:=by
 have sub:=Ac I;refine #[I.ok.frames,#[I.mod.kin.keeps sub,I.mod.glob.keeps sub,?_,I.mod.nolimit.keeps sub],λb o e=>#[(Ab e).1,(Ab e).2.1],dn (W.hideAll_size _ _),ur I.stack λb hb=>W.hideAll_none _ (cn _ hb),I.stkFree,I.hok,I.bare];obtain ⟨mb,h1,h2⟩:=I.mod.blt;exact #[mb,h1.keeps sub,h2]
end
structure FV (P:Program)(w:World)(K:Frag)(mg:Str->Option Value)(base:Heap)(k:Nat)(f:Addr)(ps:List Str)(sp:Sp):Prop where
 ex:∃ fd,FnOk P w K mg base CX0 k f fd ps sp/\gJ K fd ps []/\W.FnAt f base
section
variable {X:Cx}
def FT (X:Cx)(kr:Nat)(tf:TE)(t:TA):TE:=λZ H Q=>tf Z H λx H1=>∃ f k ps sp,x=.ref f/\FV X.prog X.w X.K X.mg X.base k f ps sp/\k<=kr/\t Z H1 λvs H2=>sp vs H2 Q E0
def uv {x:Str}{e:Expr}{es:List Expr}{t:TA}{p pos:Pos}(hr:Room kr X.A)(hf:PE X (.Name x p) tf)(ha:PA X (e::es) t)
  (he:starEach (e::es) X.env=(false,eval e X.env)::starEach es X.env:=by rfl) (hpl:(backTo pos (starEach es X.env)).any (·.1)=false:=by rfl):PE X (.Call (.Name x p) (e::es) [] pos) (FT X kr tf t):=by
 intro LB s Z H Q I h;refine wpAny_Call_Name_kw (thn (hf LB s Z H _ I h) λu s1 zq0=>?_);obtain ⟨x1,H1,I1,r1,q1⟩:=zq0;obtain ⟨f,k,ps,sp,rfl,hF,hk,q⟩:=q1;cases r1
 obtain ⟨fd,ok,bd,oc,od,fd2,sl,ho⟩:=hF.ex;refine W.callWith_F #[oc,od,fd2,sl,I1.bk _ _ ho] (thn (ha pos LB s1 Z H1 _ I1 q) λus s2 zq0=>?_) he hpl;obtain ⟨vs,H2,I2,r,q2⟩:=zq0;refine #[#[oc,od,fd2,sl,I2.bk _ _ ho],?_];exact yi ok (hr.mono hk) bd .nil yX I2 r (by rw[bY];exact q2)
structure lW (X:Cx)(params:Arguments)(body:Expr)(scope:Scope)(ps caps:List Str)(cap:List Nat):Prop where
 sc:uq scope ps caps
 frees:∀ x,(x,NameKind.free)∈scope.names->(X.env.kindOf x=some .cell\/X.env.kindOf x=some .free)
 capAt:∀(j:Nat) (x:Str),caps[j]?=some x->∃ i:Nat,cap[j]?=some i/\X.N[i]?=some x/\(X.env.kindOf x=some .cell\/X.env.kindOf x=some .free)
 dflt:defaultsOf params X.env=([],[])
 binds:∀(cl:List (Str×Addr)) (pm cdv ct:Value) (us:List Value),us.length=ps.length->bindArgs (W.kla_fn "<lambda>" (X.env.qual ++ "<lambda>") params body scope cl pm cdv ct) #[us,[]]=pure (ps.zip us)
 own:∀ x,X.fn x=true
end
def FU {K:Frag}{mg mb:Str->Option Value}{k:Nat}{a:Addr}{x:Str}{s₁:Shared}{vs:List Value}{ns:List Int}{tabs:List (Addr×Addr)}
  (KX:K.In s₁.heap) (hns:s₁.heap.Ns mainGlobals mg) (hb:s₁.heap.Ns builtinsNs mb) (hbb:∀ x:Str,x ≠ "__name__"->mb x=bootBuiltins x) (hlim:s₁.heap.NoLimit) (hg:s₁.gens=(List.toArray [])) (hBM:BMAt mg s₁.heap)
  (hT:W.TabsAt tabs s₁.heap) (hKT:∀ q∈tabs,K.lookup q.2=none)
  (ha:s₁.heap.get? a=some { cls:=.type "list",data:=.seq vs.toArray }) (hi:IntsAre vs ns) (hl:ns.length<=sizeLine) (hr:Room k callerA)
  (F:∀ base:Heap,K.In base->base.Ns mainGlobals mg->BMAt mg base->FnOk P w K mg base CX k fa fd [x] sp) (hbind:∀(s:Shared) (u:Value),BindsTo s fd #[[u],[]] [(x,u)])
  (hsp:∀ H:Hp,(∀ q∈tabs,H q.2=some (.tbl (List.toArray [])))->SqL K H a (ns.map V.int)->sp [.ref a] H (λv _=>v=.bl true) λ_ _ _=>False)
  (hCX:∀ H e s',CX [] H s₁ (λ_ _ _=>False) e s'->False) :
  codeAny (model P w) callerA (.call (.ref fa) #[[.ref a],[]]) (λr s'=>r=.ok (.ret (.bool true))/\OldK s₁.heap s'.heap/\s'.os=s₁.os/\AllBare s'.gens) s₁:=by
 have rv:=yW hi;have lenV:=hi.length;have tabO:∀ b,b∈tabs.map (·.2)->s₁.heap.get? b=some (W.tabObj (List.toArray []))/\isCodeTable s₁.heap b/\K.lookup b=none:=λb hm=>by
  obtain ⟨q,hq,rfl⟩:=bA.mp hm;exact #[(hT q hq).2,((hT q hq).1.tab (hT q hq).2).isCodeTable,hKT q hq]
 have nat:a∉tabs.map (·.2):=λz=>by
  have:=(tabO a z).1;rw[ha]at this;cases this
 have core:∀ Hs:Hp,(∀ b,Hs b=none\/(b=a/\Hs b=some (.frz { cls:=.type "list",data:=.seq vs.toArray } (.lst (ns.map V.int)))))->(∀ H:Hp,(∀ b,b∉tabs.map (·.2)->H b=Hs b)->SqL K H a (ns.map V.int))->(Hs a≠none->K.lookup a=none)->
   codeAny (model P w) callerA (.call (.ref fa) #[[.ref a],[]]) (λr s'=>r=.ok (.ret (.bool true))/\OldK s₁.heap s'.heap/\s'.os=s₁.os/\AllBare s'.gens) s₁:=by
  intro Hs hO hS hK;obtain ⟨H,hH⟩:∃ H:Hp,H=λb=>if b∈tabs.map (·.2) then some (.tbl (List.toArray [])) else Hs b:=#[_,rfl]
  have H1:∀ b,b∈tabs.map (·.2)->H b=some (.tbl (List.toArray [])):=λb z=>by rw[hH];exact ae z
  have H2:∀ b,b∉tabs.map (·.2)->H b=Hs b:=λb z=>by rw[hH];exact af z
  have cases3:∀ b,H b=none\/(b=a/\H b=some (.frz { cls:=.type "list",data:=.seq vs.toArray } (.lst (ns.map V.int))))\/(b∈tabs.map (·.2)/\H b=some (.tbl (List.toArray []))):=λb=>by
   by_cases z:b∈tabs.map (·.2)
   .exact .inr (.inr #[z,H1 b z])
   .rcases hO b with y|⟨y1,y2⟩
    .exact .inl ((H2 b z).trans y)
    .exact .inr (.inl #[y1,(H2 b z).trans y2])
  have hok:HOk P w H s₁.heap:=λb u e=>by
   rcases cases3 b with y|⟨y1,y2⟩|⟨y1,y2⟩
   .rw[y]at e;cases e
   .rw[y2]at e;cases e
    subst y1;exact #[ha,by rw[aq];exact hl,vs,_,rv,ha]
   .rw[y2]at e;cases e
    exact (tabO b y1).1
  have base_of:∀{b:Addr} {o:Obj},s₁.heap.get? b=some o->H b=none->(hidT s₁.heap H).get? b=some o:=λe n=>Da e n;have noD:∀{b:Addr} {o:Obj},s₁.heap.get? b=some o->(∀ xs n,o.data≠.seq xs n)->(∀ xs,o.data≠.fields xs)->H b=none:=λ{b o} e d1 d2=>by
   rcases cases3 b with y|⟨y1,y2⟩|⟨y1,y2⟩
   .exact y
   .subst y1;rw[ha]at e;cases e
    exact absurd rfl (d1 _ _)
   .rw[(tabO b y1).1]at e;cases e
    exact absurd rfl (d2 _)
  have nsK:∀{b:Addr} {m:Str->Option Value},s₁.heap.Ns b m->(hidT s₁.heap H).Ns b m:=λ{b m} ⟨o,es,ep,e,d,r⟩=>#[o,es,ep,base_of e (noD e (λ_ _ z=>by rw[d]at z;cases z) (λ_ z=>by rw[d]at z;cases z)),d,r]
  have hKb:K.In (hidT s₁.heap H):=λb o e=>base_of (KX b o e) (by
   rcases cases3 b with y|⟨y1,y2⟩|⟨y1,y2⟩
   .exact y
   .subst y1;rw[hK (by rw[<-H2 b nat,y2];exact λz=>nomatch z)]at e;cases e
   .rw[(tabO b y1).2.2]at e;cases e)
  have hM:Mod K mg (hidT s₁.heap H):=#[hKb,nsK hns,#[mb,nsK hb,hbb],let ⟨mc,h1,h2⟩:=hlim;#[mc,nsK h1,h2]];have hBMb:BMAt mg (hidT s₁.heap H):=by
   obtain ⟨bm,o,b1,b2,b3,b4,b5,b6,b7⟩:=hBM;exact #[bm,o,b1,b2,b3,base_of b4 (noD b4 (λ_ _ z=>by rw[b7]at z;cases z) (λ_ z=>by rw[b7]at z;cases z)),b5,b6,b7]
  have e0:Env0 P w K mg (hidT s₁.heap H) callerA [] s₁ H:=#[rfl,hM,λb o e=>Dc e,dn (C9 _ _),trivial,λb hb=>absurd (show b∈([]:List Addr) from hb) (by simp),hok,.of_eq hg];refine codeAny_mono ((F _ hKb (nsK hns) hBMb).run callerA [] s₁ H #[[.ref a],[]] [.ref a] [.ref a] _ _ hr e0 (hbind s₁ (.ref a)) (.cons rfl .nil) (hsp H (λq hq=>H1 _ (List.mem_map_of_mem hq)) (hS H H2))) λr s' h=>?_;cases r with
  | error e=>exact (hCX H e s' h).elim
  | ok fl=>
   cases fl with
   | next=>exact False.elim h
   | brk=>exact False.elim h
   | cont=>exact False.elim h
   | ret u=>
    obtain ⟨v,H',os,bare,un,hok',r',q⟩:=h;have q':v=.bl true:=q;subst q';obtain rfl:u=Value.bool true:=r';have keep:∀ b o,H b=none->s₁.heap.get? b=some o->s'.heap.get? b=some o:=λb o n e=>un.keep b o e n (by intro z;exact absurd (show b∈([]:List Addr) from z) (by simp)) (by simp);have frz:∀ b o,b=a->H b=some (.frz { cls:=.type "list",data:=.seq vs.toArray } (.lst (ns.map V.int)))->s₁.heap.get? b=some o->s'.heap.get? b=some o:=λb o y1 y2 e=>by
     obtain ⟨e1,_⟩:=hok b _ y2;obtain ⟨e2,_⟩:=hok' b _ (un.frzs b _ _ y2);rw[e]at e1;cases e1
     exact e2
    have tbl:∀ b,H b=some (.tbl (List.toArray []))->∃ ps,s'.heap.get? b=some (W.tabObj ps):=λb y=>by
     obtain ⟨more,e⟩:=un.tbls b _ y;exact #[_,hok' b _ e]
    refine #[rfl,#[λb o e=>?_,λb o e=>?_],os,bare]
    .rcases cases3 b with y|⟨y1,y2⟩|⟨y1,y2⟩
     .exact .inl (keep b o y e)
     .exact .inl (frz b o y1 y2 e)
     .obtain ⟨ps,hp⟩:=tbl b y2;obtain ⟨t1,t2,_⟩:=tabO b y1;rw[e]at t1;cases t1
      exact .inr (.inl #[t2,rfl,(List.toArray []),ps,rfl,by rw[Array.empty_append];exact hp])
    .rcases cases3 b with y|⟨y1,y2⟩|⟨y1,y2⟩
     .exact #[o,keep b o y e]
     .exact #[o,frz b o y1 y2 e]
     .obtain ⟨ps,hp⟩:=tbl b y2;exact #[_,hp]
 cases hk:K.lookup a with
 | some o=>
  have e:=KX a o hk;rw[ha]at e;cases e
  exact core (λ_=>none) (λ_=>.inl rfl) (λH _=>.inr #[_,vs.toArray,_,hk,rfl,rfl,rfl,by rw[bL,lenV];exact hl,by simpa using rv]) λz=>absurd rfl z
 | none=>
  refine core (λb=>if b=a then some (.frz { cls:=.type "list",data:=.seq vs.toArray } (.lst (ns.map V.int))) else none) (λb=>?_) (λH h=>.inl (.inr #[{ cls:=.type "list",data:=.seq vs.toArray },by rw[h a nat];exact ae rfl])) λ_=>hk
  by_cases z:b=a
  .exact .inr #[z,ae z]
  .exact .inl (af z)
def FW {l:OpenLaw}{n k:Nat}{q:Program}{loose:List Str}{XP:(Str->Option Value)->Heap->Prop}{YP:World->Heap->Prop}{d:DefRec}{K:Params->Frag}{sp:World->Sp}{x:Str}{tabs:List (Addr×Addr)}
  (hn:l.most=some n) (hn2:n<=sizeLine) (hdf:d.params.defaults=[]) (hr:Room k callerA)
  (hY:∀(w:World) (h:Heap),YP w h->(K w.params).In h) (hYT:∀(w:World) (h:Heap),YP w h->∀ q∈tabs,h.get? q.2=some (W.tabObj (List.toArray [])))
  (hC:∀(w:World),∀ q∈tabs,codeHdIn (K w.params) q.1 q.2=true/\(K w.params).lookup q.2=none)
  (F:∀(w:World) (mg:Str->Option Value) (fa:Addr) (h:Heap),(K w.params).In h->h.Ns mainGlobals mg->mg d.name=some (.ref fa)->
   ∃ fd:FuncData,(∀(s:Shared) (u:Value),BindsTo s fd #[[u],[]] [(x,u)])/\
    ∀ base:Heap,(K w.params).In base->base.Ns mainGlobals mg->BMAt mg base->FnOk l.prog w (K w.params) mg base CX0 k fa fd [x] (sp w))
  (hsp:∀(w:World) (H:Hp) (a:Addr) (ns:List Int),ns.length<=n->(∀ q∈tabs,H q.2=some (.tbl (List.toArray [])))->SqL (K w.params) H a (ns.map V.int)->sp w [.ref a] H (λv _=>v=.bl true) λ_ _ _=>False) :
  W.WalkO q loose XP YP l.row.toRowW d [] (λf vs=>PySem.call f vs):=by
 refine Att.attach_call hn hdf λw s₀ s₁ mg mb fa o pm cd doc a vs ns G Y ho hd hcd hmg hobj hints hlen hg=>?_;have KX:=hY w _ Y;obtain ⟨fd,hb,hF⟩:=F w mg fa _ KX G.T.g hmg;have hBM:BMAt mg s₁.heap:=by
  obtain ⟨bm,ob,b1,b2,b3,b4,b5,b6⟩:=G.T.bmain;refine #[bm,ob,b1,b2,λz=>?_,b3,b4,b5,b6];obtain ⟨o,es,ep,e,hd,_⟩:=G.T.g;rw[z,e]at b3;cases b3
  rw[hd]at b6;cases b6
 exact FU (tabs:=tabs) KX G.T.g G.T.b G.T.builtins G.T.nolimit hg hBM (λq hq=>#[W.codeHd_of_K KX (hC w q hq).1,hYT w _ Y q hq]) (λq hq=>(hC w q hq).2) hobj hints (ax hlen hn2) hr hF hb (λH hO hS=>hsp w H a ns hlen hO hS) λH e s' z=>z
structure DFT (K:Frag)(mg:Str->Option Value)(x:Str)(st:Stmt)(ps:List Str)(c Pt:Addr):Prop where
 ex:∃(f:Addr) (oc:Value) (od:Option Addr) (kV dc pm:Value) (an:Option Addr) (ct:Value) (osl:Array (Option Value)),K.lookup f=some #[oc,od,.func (fnOf x x (gc st) (fj st) (aI st) .none kV dc pm an (.ref c) ct),osl]/\
  codeIn K (.ref c) x=true/\keepIn K (.ref f)=true/\mg x=some (.ref f)/\gJ K (fnOf x x (gc st) (fj st) (aI st) .none kV dc pm an (.ref c) ct) ps []
 hd:codeHdIn K c Pt=true
def DFT.ok {w:World}{K:Frag}{mg:Str->Option Value}{base:Heap}{st:Stmt}{N:List Str}{k:Nat}{sp:Sp}{c:Addr}(D:DFT K mg x st ps c Pt)(S:aU N ps (aI st))(len:∀ vs H Q E,sp vs H Q E->vs.length=ps.length)
  (hbody:∀(f:Addr) (A:Around) (outer:List Env) (s:Shared) (H:Hp) (vs:List V) (Q:VK) (E:XK),Room k (A.deeper (envOfC x (aI st) s.heap.objs.size f (.ref c)))->sp vs H Q E->
   ∃ t,PSs (cxOf CX0 P w K mg base N x (aI st) f (.ref c) A outer s H E).nox (fj st) t/\t { nx:=λ_ H'=>Q .non H',rt:=Q } (di N vs) H):FC P w K mg base (k+1) x ps sp:=by
 obtain ⟨f,oc,od,kV,dc,pm,an,ct,osl,lk,hcd,kp,m,bd⟩:=D.ex;refine #[f,_,yr lk hcd S len λA outer s H vs Q E hr hsp=>?_,bd,kp,m,oc,od,osl,lk];obtain ⟨t,h,q⟩:=hbody f A outer s H vs Q E hr hsp;exact #[t,h.nox,q]
def FX {K:Frag}{x:Str}{c Pt f:Addr}{oc:Value}{od:Option Addr}{fd:FuncData}{sl:Array (Option Value)}(a:nsIn K mainGlobals x=some (some (.ref f)))(l:K.lookup f=some #[oc,od,.func fd,sl])(t:tabIn K x=some (c,Pt)):fd.code=.ref c:=by
 unfold tabIn at t;rw[a]at t;dsimp only at t;rw[l]at t;dsimp only at t;split at t
 .rename_i c2 hc;split at t
  .split at t
   .cases t
    exact hc
   .cases t
  .cases t
 .cases t
def Ad {X:Cx}{params:Arguments}{body:Expr}{osc:Scope}{N:List Str}{cap:List Nat}(sc:uq scope ps caps)
  (h1:∀ p∈scope.names,p.2=NameKind.free->osc.names.lookup p.1=some NameKind.cell) (h2:∀ p∈caps.zip cap,N[p.2]?=some p.1/\osc.names.lookup p.1=some NameKind.cell) (hl:caps.length=cap.length)
  (ho:X.env.scope=osc) (hN:X.N=N) (d:defaultsOf params X.env=([],[]))
  (b:∀(cl:List (Str×Addr)) (pm cdv ct:Value) (us:List Value),us.length=ps.length->bindArgs (W.kla_fn "<lambda>" (X.env.qual ++ "<lambda>") params body scope cl pm cdv ct) #[us,[]]=pure (ps.zip us))
  (o:∀ x,X.fn x=true):lW X params body scope ps caps cap:=by
 have hk:∀ x,X.env.kindOf x=osc.names.lookup x:=λx=>by
  unfold Env.kindOf;rw[ho]
 refine #[sc,λx hx=>.inl ?_,λj x hj=>?_,d,b,o]
 .rw[hk];exact h1 (x,.free) hx rfl
 .have hj':=(aM.mp hj).1;have hc:cap[j]?=some (cap[j]'(by lia)):=az _;have hz:(caps.zip cap)[j]?=some (x,cap[j]'(by lia)):=by
   rw[List.getElem?_zip_eq_some];exact #[hj,hc]
  obtain ⟨a1,a2⟩:=h2 _ (cy hz);refine #[_,hc,?_,.inl ?_]
  .rw[hN];exact a1
  .rw[hk];exact a2
structure Sub (K:Frag)(mg:Str->Option Value)(b1 b2:Heap):Prop where
 mod:Mod K mg b1
 get:∀ b o,b1.get? b=some o->b2.get? b=some o
 size:b1.objs.size<=b2.objs.size
section
variable {P:Program}{w:World}{K:Frag}{mg:Str->Option Value}{b1 b2:Heap}{k:Nat}{f:Addr}{ps:List Str}{sp:Sp}
def FnOk.lift {fd:FuncData}(F:FnOk P w K mg b1 CX k f fd ps sp)(S:Sub K mg b1 b2):FnOk P w K mg b2 CX k f fd ps sp:=
 #[F.len,λA outer s H args us vs Q E hr e0=>F.run A outer s H args us vs Q E hr #[e0.frames,S.mod,λb o e=>e0.bs b o (S.get b o e),ax S.size e0.bsz,ur e0.funs (λb hb=>by
  cases q:b1.get? b with
  | none=>rfl
  | some o=>
   have z:=(e0.funs.mem hb).1;rw[S.get b o q]at z;exact nomatch z),e0.frf,e0.hok,e0.bare]]
def FV.lift (F:FV P w K mg b1 k f ps sp)(S:Sub K mg b1 b2):FV P w K mg b2 k f ps sp:=by
 obtain ⟨fd,ok,bd,oc,od,fd2,sl,ho⟩:=F.ex;exact #[fd,FnOk.lift ok S,bd,oc,od,fd2,sl,S.get _ _ ho]
def FC.lift (F:FC P w K mg b1 k x ps sp)(S:Sub K mg b1 b2):FC P w K mg b2 k x ps sp:=by
 obtain ⟨f,fd,ok,r⟩:=F.ex;exact #[f,fd,FnOk.lift ok S,r]
def BMAt.lift (h:BMAt mg b1)(S:Sub K mg b1 b2):BMAt mg b2:=by
 obtain ⟨bm,o,h1,h2,h3,h4,h5⟩:=h;exact #[bm,o,h1,h2,h3,S.get _ _ h4,h5]
end
def FY (P:Program)(w:World)(K:Frag)(mg:Str->Option Value)(base:Heap)(kr:Nat)(tf:TE)(t:TA):TE:=λZ H Q=>tf Z H λx H1=>∃ f k ps sp,x=.ref f/\FV P w K mg base k f ps sp/\k<=kr/\t Z H1 λvs H2=>sp vs H2 Q E0
def FZ (P:Program)(w:World)(K:Frag)(mg:Str->Option Value)(base:Heap){X:Cx}{x:Str}{e:Expr}{es:List Expr}{t:TA}{p pos:Pos}(hr:Room kr X.A)(hf:PE X (.Name x p) tf)(ha:PA X (e::es) t)
  (h1:X.prog=P:=by rfl) (h2:X.w=w:=by rfl) (h3:X.K=K:=by rfl) (h4:X.mg=mg:=by rfl) (h5:X.base=base:=by rfl)
  (he:starEach (e::es) X.env=(false,eval e X.env)::starEach es X.env:=by rfl) (hpl:(backTo pos (starEach es X.env)).any (·.1)=false:=by rfl):PE X (.Call (.Name x p) (e::es) [] pos) (FY P w K mg base kr tf t):=by
 subst h1 h2 h3 h4 h5;exact uv hr hf ha he hpl
section
variable {X:Cx}{LB:List (Addr×Obj)}{Z:St}{H:Hp}{s:Shared}
def uw (I:Inv X LB Z H s):Sub X.K X.mg X.base (fJ X s H):=#[I.ok.mod,Ac I,ax I.env0.bsz (dn (W.hideAll_size _ _).symm)]
def ux (X:Cx)(n kf:Nat)(ps:List Str)(cap:List Nat)(Pt:Addr)(lpos:Pos)(tb:Heap->TE)(Z:St)(H1:Hp)(q:Heap->Addr->Hp->Prop):Prop:=cW H1 Pt lpos (X.env.qual ++ "<lambda>")/\∃ vcs:List V,vcs.length=n/\(∀(j i:Nat) (v:V),cap[j]?=some i->vcs[j]?=some v->Z[i]?=some (some v))/\
 ∀(base:Heap) (f c':Addr) (H2:Hp),Gro Pt H1 H2->cW H2 Pt lpos (X.env.qual ++ "<lambda>")->i0 H2 c' (X.env.qual ++ "<lambda>")->Sub X.K X.mg X.base base->FV X.prog X.w X.K X.mg base kf f ps (lV ps.length (tb base) vcs c' (X.env.qual ++ "<lambda>"))->q base f H2
def F1 {f c':Addr}{pm ctv:Value}{vcs:List V}{k n:Nat}(I:Inv X LB Z H s)(L:lW X params body scope ps caps cap)(hcl:iZ scope X.env cl)
  (ho:s.heap.get? f=some (W.kla_obj "<lambda>" (X.env.qual ++ "<lambda>") params body scope cl pm c' ctv)) (hn:H f=none) (hfr:∀ b∈frs X.stack,b<n) (hge:n<=f)
  (hv:vcs.length=caps.length) (hvs:∀(j i:Nat) (v:V),cap[j]?=some i->vcs[j]?=some v->Z[i]?=some (some v))
  (hb:∀(f:Addr) (cd:Value) (cl:List (Str×Addr)) (A:Around) (outer:List Env) (s1:Shared) (H1:Hp),Room k (A.deeper (W.envX (X.env.qual ++ "<lambda>") scope s1.heap.objs.size f cd cl))->PE (jR X.prog X.w X.K X.mg (fJ X s H) (ps++caps) (X.env.qual ++ "<lambda>") scope f cd cl A outer s1 H1) body tb) :
  FV X.prog X.w X.K X.mg (fJ X s H) (k+1) f ps (lV ps.length tb vcs c' (X.env.qual ++ "<lambda>")):=by
 have nf:f∉frs X.stack:=λz=>absurd (aP (hfr f z) hge) (dQ _);have hbf:=uu (X:=X) ho hn nf;have cellB:∀ x a v,X.env.cells.lookup x=some a->s.heap.IsCell a v->(fJ X s H).IsCell a v:=λx a v e ⟨o,h1,h2⟩=>by
  refine #[o,uu h1 (I.freeC x a e) λz=>?_,h2];rcases aW.mp (I.stkSub a z) with y|y
  .exact I.cne x a e y
  .obtain ⟨_,o2,h3,_⟩:=I.ok.funs.mem y;exact absurd (aP (aK h3) (I.ok.cab x a (L.own x) e)) (dQ _)
 refine #[_,FP L.sc hbf hv (λj x v h1 h2=>?_) (λx a e=>?_) (λx y a h1 h2=>I.ok.inj x y a (hcl.sub x a h1) (hcl.sub y a h2)) (λx e=>?_) (λA outer s H hr=>hb f _ cl A outer s H hr),.all (L.binds cl pm (.ref c') ctv),#[_,_,_,_,hbf]]
 ·obtain ⟨i,e1,e2,e3⟩:=L.capAt j x h1;obtain ⟨m,hm,hl⟩:=I.loc;obtain ⟨u,ru,lk⟩:=hl i x v e2 (hvs j i v e1 h2) (by
   rcases e3 with z|z
   .exact .inr (.inl z)
   .exact .inr (.inr z))
  rcases lk with ⟨z,_⟩|⟨_,a,e4,e5⟩
  .rcases e3 with y|y
   .rw[y]at z;cases z
   .rw[y]at z;cases z
  .obtain ⟨a',e6⟩:=hcl.has x (PySem.mem_of_lookup (L.sc.cap x (cy h1)));have e7:=hcl.sub x a' e6;rw[e4]at e7;cases e7
   exact #[a,u,e6,cellB x a _ e4 e5,ru]
 .obtain ⟨v,z⟩:=I.cell x a (hcl.sub x a e);exact #[v,cellB x a v (hcl.sub x a e) z]
 .exact hcl.has x (PySem.mem_of_lookup e)
def Ae {tb:Heap->TE}{c Pt:Addr}{Qv:List Value->Shared->Prop}(I:Inv X LB Z H s)
  (L:lW X params body scope ps caps cap) (hcode:X.env.code=.ref c) (hC:codeHdIn X.K c Pt=true) (hBM:BMAt X.mg X.base)
  (hb:∀(base:Heap) (f:Addr) (cd:Value) (cl:List (Str×Addr)) (A:Around) (outer:List Env) (s:Shared) (H:Hp),Sub X.K X.mg X.base base->Room kf (A.deeper (W.envX (X.env.qual ++ "<lambda>") scope s.heap.objs.size f cd cl))->PE (jR X.prog X.w X.K X.mg base (ps++caps) (X.env.qual ++ "<lambda>") scope f cd cl A outer s H) body (tb base))
  (hg:ux X caps.length (kf+1) ps cap Pt lpos tb Z H q) (h:∀ f H2 s2,Inv X LB Z H2 s2->q (fJ X s2 H2) f H2->Qv [.ref f] s2):wpAny (model X.prog X.w) X.A (spliced [(false,eval (.Lambda params body scope lpos) X.env)]) Qv X.xe s:=by
 obtain ⟨hT,vcs,hv,hvs,q⟩:=hg;refine Calls.spliced_cons (FR I L.dflt L.frees hcode hC hBM hT λf c' cl pm ctv H2 s2 hcl I2 ho hn hge hgr hT2 hca=>?_);have S:=uw I2;have hF:=F1 (k:=kf) (n:=s.heap.objs.size) (tb:=tb (fJ X s2 H2)) I2 L hcl ho hn (λb hb=>by
  obtain ⟨_,o,e,_⟩:=I.stack.mem hb;exact aK e) hge hv hvs (λf cd cl A outer s H hr=>hb _ f cd cl A outer s H S hr)
 exact Calls.spliced_nil (h f H2 s2 I2 (q _ f c' H2 hgr hT2 hca S hF))
def Af {x:Str}{k:Nat}{g:Addr}{Q:VK}{us:List Value}{vs:List V}(I:Inv X LB Z H s)(m:X.mg x=some (.ref g))(F:FC X.prog X.w X.K X.mg (fJ X s H) j x qs sp)(hr:Room k X.A)(hjk:j<=k)(r:Vals vs us)(h:sp vs H Q E0) :
  wpAny (model X.prog X.w) X.A (call (.ref g) us) (EP X LB Z Q) X.xe s:=by
 obtain ⟨g2,fd2,ok,bd,_,m2,_⟩:=F.ex;rw[m]at m2;cases m2
 refine wpAny_call (codeAny_mono (ok.run X.A X.stack s H #[us,[]] us vs Q E0 (hr.mono hjk) (FS I) (by simpa using bd s us I.kIn (by rw[bY,<-r.length];exact ok.len _ _ _ _ h)) r h) λr s' hq=>?_);cases r with
 | error e=>exact False.elim hq
 | ok fl=>
  cases fl with
  | ret u=>exact I.after hq
  | next=>exact False.elim hq
  | brk=>exact False.elim hq
  | cont=>exact False.elim hq
end
section
variable {X:Cx}
def Ga (X:Cx)(n kf:Nat)(ps:List Str)(cap:List Nat)(Pt:Addr)(lpos:Pos)(tb:Heap->TE)(te:TE)(spH:Heap->Sp):TE:=λZ H Q=>te Z H λx1 H1=>ux X n kf ps cap Pt lpos tb Z H1 λbase f H2=>spH base [x1,.ref f] H2 Q E0
def Gb {lpos p pos:Pos}{tb:Heap->TE}{spH:Heap->Sp}{k:Nat}{c Pt:Addr}
  (F:∀ base,Sub X.K X.mg X.base base->FC X.prog X.w X.K X.mg base j x qs (spH base)) (hr:Room k X.A) (h1:PE X e1 te) (L:lW X params body scope ps caps cap) (hcode:X.env.code=.ref c) (hC:codeHdIn X.K c Pt=true) (hBM:BMAt X.mg X.base)
  (hb:∀(base:Heap) (f:Addr) (cd:Value) (cl:List (Str×Addr)) (A:Around) (outer:List Env) (s:Shared) (H:Hp),Sub X.K X.mg X.base base->Room kf (A.deeper (W.envX (X.env.qual ++ "<lambda>") scope s.heap.objs.size f cd cl))->PE (jR X.prog X.w X.K X.mg base (ps++caps) (X.env.qual ++ "<lambda>") scope f cd cl A outer s H) body (tb base))
  (hjk:j<=k:=by decide) (hg:Gl X x:=by rfl) (hdb:(x==("__debug__" : Str))=false:=by decide) (he:starEach [e1,.Lambda params body scope lpos] X.env=(false,eval e1 X.env)::starEach [.Lambda params body scope lpos] X.env:=by rfl)
  (he2:starEach [.Lambda params body scope lpos] X.env=[(false,eval (.Lambda params body scope lpos) X.env)]:=by rfl) (hpl:(backTo pos (starEach [.Lambda params body scope lpos] X.env)).any (·.1)=false:=by rfl) :
  PE X (.Call (.Name x p) [e1,.Lambda params body scope lpos] [] pos) (Ga X caps.length (kf+1) ps cap Pt lpos tb te spH):=by
 intro LB s Z H Q I h;obtain ⟨g,fd,_,_,kp,m,oc,od,osl,lk⟩:=(F X.base #[I.ok.mod,λ_ _ e=>e,ai _]).ex;refine wpAny_Call_Name_kw (nQ I hg m ?_ hdb);refine W.callWith_K (h₀:=X.base) I.ok.mod.kin kp ?_ he hpl;rw[he];show wpAny _ _ (spliced ((false,eval e1 X.env)::backTo pos (starEach [.Lambda params body scope lpos] X.env))) _ _ s;refine Calls.spliced_cons (thn (h1 LB s Z H _ I h) λu s1 zq0=>?_);obtain ⟨x1,H1,I1,r1,q1⟩:=zq0;rw[he2];show wpAny _ _ (spliced [(false,eval (.Lambda params body scope lpos) X.env)]) _ _ s1;exact Ae I1 L hcode hC hBM hb q1 λf H2 s2 I2 hsp=>#[I2.kIn,Af I2 m (F _ (uw I2)) hr hjk (vs:=[x1,.ref f]) (.cons r1 (.cons rfl .nil)) hsp]
def Gc (X:Cx)(n kf:Nat)(ps:List Str)(cap:List Nat)(Pt:Addr)(lpos:Pos)(tb:Heap->TE)(te te2:TE)(spH:Heap->Sp):TE:=λZ H Q=>te Z H λx1 H1=>te2 Z H1 λx2 H2=>ux X n kf ps cap Pt lpos tb Z H2 λbase f H3=>spH base [x1,x2,.ref f] H3 Q E0
def Gd {lpos p pos:Pos}{tb:Heap->TE}{spH:Heap->Sp}{k:Nat}{c Pt:Addr}
  (F:∀ base,Sub X.K X.mg X.base base->FC X.prog X.w X.K X.mg base j x qs (spH base)) (hr:Room k X.A) (h1:PE X e1 te) (h2:PE X e2 te2) (L:lW X params body scope ps caps cap) (hcode:X.env.code=.ref c) (hC:codeHdIn X.K c Pt=true) (hBM:BMAt X.mg X.base)
  (hb:∀(base:Heap) (f:Addr) (cd:Value) (cl:List (Str×Addr)) (A:Around) (outer:List Env) (s:Shared) (H:Hp),Sub X.K X.mg X.base base->Room kf (A.deeper (W.envX (X.env.qual ++ "<lambda>") scope s.heap.objs.size f cd cl))->PE (jR X.prog X.w X.K X.mg base (ps++caps) (X.env.qual ++ "<lambda>") scope f cd cl A outer s H) body (tb base))
  (hjk:j<=k:=by decide) (hg:Gl X x:=by rfl) (hdb:(x==("__debug__" : Str))=false:=by decide) (he:starEach [e1,e2,.Lambda params body scope lpos] X.env=(false,eval e1 X.env)::starEach [e2,.Lambda params body scope lpos] X.env:=by rfl)
  (he2:starEach [e2,.Lambda params body scope lpos] X.env=[(false,eval e2 X.env),(false,eval (.Lambda params body scope lpos) X.env)]:=by rfl) (hpl:(backTo pos (starEach [e2,.Lambda params body scope lpos] X.env)).any (·.1)=false:=by rfl) :
  PE X (.Call (.Name x p) [e1,e2,.Lambda params body scope lpos] [] pos) (Gc X caps.length (kf+1) ps cap Pt lpos tb te te2 spH):=by
 intro LB s Z H Q I h;obtain ⟨g,fd,_,_,kp,m,oc,od,osl,lk⟩:=(F X.base #[I.ok.mod,λ_ _ e=>e,ai _]).ex;refine wpAny_Call_Name_kw (nQ I hg m ?_ hdb);refine W.callWith_K (h₀:=X.base) I.ok.mod.kin kp ?_ he hpl;rw[he];show wpAny _ _ (spliced ((false,eval e1 X.env)::backTo pos (starEach [e2,.Lambda params body scope lpos] X.env))) _ _ s;refine Calls.spliced_cons (thn (h1 LB s Z H _ I h) λu s1 zq0=>?_);obtain ⟨x1,H1,I1,r1,q1⟩:=zq0;rw[he2];show wpAny _ _ (spliced ((false,eval e2 X.env)::[(false,eval (.Lambda params body scope lpos) X.env)])) _ _ s1;refine Calls.spliced_cons (thn (h2 LB s1 Z H1 _ I1 q1) λu2 s2 zq0=>?_);obtain ⟨x2,H2,I2,r2,q2⟩:=zq0;exact Ae I2 L hcode hC hBM hb q2 λf H3 s3 I3 hsp=>#[I3.kIn,Af I3 m (F _ (uw I3)) hr hjk (vs:=[x1,x2,.ref f]) (.cons r1 (.cons r2 (.cons rfl .nil))) hsp]
end
end L2
namespace SetW
open PySem PySem.Spec PyProof.Rows
abbrev Up1 (l:List Nat):Prop:=l.Pairwise (· < ·)
structure Good (t:SetTable):Prop where
 up:Up1 t.place.toList
 no:t.dummies=(List.toArray [])
def uy {xs:Array Nat}(h:Up1 xs.toList){i k:Nat}(hi:i<k)(hk:k<xs.size):xs[i]'(by lia)<xs[k]:=by
 have:=cT.mp h i k (by simpa using (by lia:i<xs.size)) (by simpa using hk) hi;simpa using this
def uA (xs:Array Nat)(j:Nat)(hs:Up1 xs.toList):∀(f lo hi:Nat),hi-lo<=f->lo<=hi->hi<=xs.size->(∀ i (h:i<xs.size),i<lo->xs[i]<j)->(∀ i (h:i<xs.size),hi<=i->j<=xs[i])->
  SetTable.below.go xs j f lo hi<=xs.size/\(∀ i (h:i<xs.size),i<SetTable.below.go xs j f lo hi->xs[i]<j)/\(∀ i (h:i<xs.size),SetTable.below.go xs j f lo hi<=i->j<=xs[i])
 | 0,lo,hi,h1,h2,h3,h4,h5=>by
  unfold SetTable.below.go;exact #[by lia,h4,λi h k=>h5 i h (by lia)]
 | f+1,lo,hi,h1,h2,h3,h4,h5=>by
  unfold SetTable.below.go;by_cases c:lo<hi
  .have hm:(lo+hi)/2<xs.size:=by lia
   have hg:xs.getD ((lo+hi)/2) j=xs[(lo+hi)/2]:=by simp[Array.getD,hm]
   simp only[c,if_true,hg];by_cases d:xs[(lo+hi)/2]<j
   .simp only[d,if_true];refine uA xs j hs f _ _ (by lia) (by lia) h3 (λi h k=>?_) h5;rcases Nat.lt_or_ge i ((lo+hi)/2) with z|z
    .exact jm (uy hs z hm) d
    .have:i=(lo+hi)/2:=by lia
     subst this;exact d
   .simp only[d,if_false];refine uA xs j hs f _ _ (by lia) (by lia) (by lia) h4 (λi h k=>?_);rcases Nat.lt_or_ge ((lo+hi)/2) i with z|z
    .exact ax (cp d) (aZ (uy hs z h))
    .have:i=(lo+hi)/2:=by lia
     subst this;exact cp d
  .simp only[c,if_false];exact #[by lia,h4,λi h k=>h5 i h (by lia)]
def Ge (xs:Array Nat)(j:Nat)(hs:Up1 xs.toList):SetTable.below xs j<=xs.size/\(∀ i (h:i<xs.size),i<SetTable.below xs j->xs[i]<j)/\(∀ i (h:i<xs.size),SetTable.below xs j<=i->j<=xs[i]):=
 uA xs j hs xs.size 0 xs.size (by lia) (by lia) (ai _) (λi h k=>by lia) (λi h k=>by lia)
def Gf {xs:Array Nat}{j:Nat}(hs:Up1 xs.toList)(hn:xs[SetTable.below xs j]?≠some j):Up1 (SetTable.insertAt xs (SetTable.below xs j) j).toList:=by
 obtain ⟨r1,r2,r3⟩:=Ge xs j hs;generalize SetTable.below xs j=r at r1 r2 r3 hn ⊢;rw[SetTable.toList_insertAt];have hs':=hs;rw[<-fb r xs.toList]at hs';obtain ⟨p1,p2,p3⟩:=c4.mp hs';have gt:∀ i (h:i<xs.size),r<=i->j<xs[i]:=λi h k=>by
  have q:=r3 i h k;rcases Nat.lt_or_eq_of_le q with z|z
  .exact z
  .rcases Nat.lt_or_eq_of_le k with y|y
   .have h1:=r3 r (by lia) (ai _);have:=uy hs y h;lia
   .subst y;exact absurd (by rw[eK h,<-z]) hn
 have lo:∀ a∈xs.toList.take r,a<j:=λa ha=>by
  obtain ⟨i,hi,e⟩:=sS.mp ha;have:i<xs.size:=by simpa using (by lia:i<xs.toList.length)
  rw[<-e];simpa using r2 i this (by lia)
 have hi:∀ a∈xs.toList.drop r,j<a:=λa ha=>by
  obtain ⟨i,hi,e⟩:=List.mem_drop_iff_getElem.mp ha;have:r+i<xs.size:=by simpa [gW] using hi
  rw[<-e];simpa [gW] using gt (r+i) this (by lia)
 refine c4.mpr #[p1,sJ.mpr #[hi,p2],λa ha b hb=>?_];rcases aW.mp hb with e|hb
 .rw[e];exact lo a ha
 .exact p3 a ha b hb
def has_none (j:Nat):SetTable.has (List.toArray []) j=false:=by
 simp[SetTable.has]
def Ag {t:SetTable}(g:Good t)(j:Nat):t.slot j≠.dummy/\(t.slot j=.empty->t.place[SetTable.below t.place j]?≠some j):=by
 unfold SetTable.slot;rw[g.no,has_none];by_cases c:(t.place[SetTable.below t.place j]?==some j)=true
 .simp only[c,if_true];refine #[?_,?_]<;>intro z<;>cases z
 .rw[af c];refine #[by simp,λ_ z=>c ?_];rw[z];simp
def Ah (t:SetTable)(p:SetTable.Probe):(t.advance p).dummy=p.dummy:=by
 unfold SetTable.advance;split<;>rfl
end SetW
namespace SetW
open PySem PySem.Spec PyProof.Rows
set_option maxRecDepth 100000
section
variable {prog:Program}{w:World}{A:Around}{E:Value->Shared->Prop}{s:Shared}{it d:Addr}{es:Array (Int×Value)}{ep:Nat}{t:SetTable}
def wk (es:Array (Int×Value))(vs:List Value):Prop:=vs.Perm (es.toList.map (·.2))
end
end SetW
namespace SetW
open PySem PySem.Spec PyProof.Rows
section
variable {prog:Program}{w:World}{A:Around}{E:Value->Shared->Prop}{s:Shared}
abbrev nu (w:World):Obj:={ cls:=.type "set",dict:=none,data:=.set (List.toArray []) 0 (.fresh 0 0 (!w.params.followText "set-order")) }
set_option maxRecDepth 100000 in
def Gg (a:Value){Q₁:Value->Shared->Prop}(q:Q₁ (.ref s.heap.objs.size) { s with heap:=s.heap.push (nu w) }) :
  codeAny (model prog w) A (.call (.builtin "set.__new__") #[[.type "set",a],[]]) (wants Q₁ E) s:=by
 refine codeAny_of_tree ?_;show wpAny _ A.in1 (do checkBuiltinCall "set.__new__" #[[.type "set",a],[]];again (.builtin "set.__new__" #[[.type "set",a],[]])) _ _ s
 refine ao (wpAny_of_eq (F.newCall_set_1 a) (aA #[plainId_quiet F.plain_set_new _,codeAny_builtin F.entry_set_new ?_]));rw[Around.under_plainId F.plain_set_new _];unfold Builtin.«set.__new__» Builtin.Frozenset.newClass;have hsub:=sub_set_self;obtain ⟨hp,g,d,tk,os⟩:=s;dsimp only
 wp_walk
 refine wpAny_askSetting (aA ?_);dsimp only;simp only[newObj];exact ao (wpAny_alloc (aA (aA q)))
end
end SetW
namespace DictP
open PySem PySem.Spec PyProof.Rows
set_option maxRecDepth 100000
def Gh:typeLookup (.type "list") "keys" = pure none:=by rw[typeLookup_type,builtinLookup_eq_fast];kernel_rfl
section
variable {prog:Program}{w:World}{A:Around}{E:Value->Shared->Prop}{a:Addr}{o:Obj}{h:Heap}{g:Array GenState}{d:Drawn}{t:Nat}{os:OsState}{xs:Array Value}{n:Nat}{sl:Array (Option Value)}
def Gi {tk:Tok}{Q:Fin->Shared->Prop}(hh:A.handled=none)(hx:h.get? a=some { cls:=.type "list",dict:=none,data:=.seq xs n,slots:=sl })
  (q:∀ h' t' e,(∀ b u,h.get? b=some u->h'.get? b=some u)->(#[h',g,d,t',os]:Shared).TypeIs (.ref e) "AttributeError"->E (.ref e) #[h',g,d,t',os]) :
  wpAny (model prog w) A (Builtin.«object.__getattribute__» #[[.ref a,.str "keys" tk],[]]) Q E #[h,g,d,t,os]:=by
 have hT:(#[h,g,d,t,os]:Shared).TypeIs (.ref a) "list":=#[_,hx,rfl];have f4:=Gh
 repeat (any_goals (first|assumption|wp_step))
 have hm:(Str.ofString (toString "'" ++ toString ((Manifest.find? "list").elim "list" λx=>x.tpName)++toString "' object has no attribute '")++Str.ofString "keys" ++ Str.ofString "'").length<=sizeLine:=by decide +kernel
 generalize (Str.ofString (toString "'" ++ toString ((Manifest.find? "list").elim "list" λx=>x.tpName)++toString "' object has no attribute '")++Str.ofString "keys" ++ Str.ofString "'")=msg at hm ⊢;unfold raiseAttrError;refine ao (wpAny_mkStr (ao ?_) hm);unfold newExc newTuple;refine ao (wpAny_newObj_type ?_);refine ao (m:=firstArgMember _ _) (wpAny_of_eq (a:=Value.none) (by rfl) ?_);refine wpAny_newObj_type ?_;refine ao (wpAny_mkText ?_);have hX:=cQ (h.push { cls:=.type "tuple",data:=.seq (List.toArray [Value.str msg t]) }) (o:={ cls:=.type "AttributeError",data:=.fields ((List.toArray [.ref h.objs.size,.none,.none,.none,.bool false,.none])++(List.toArray [unsetMember,unsetMember])) }) rfl;have hk:∀ b u,h.get? b=some u->((h.push { cls:=.type "tuple",data:=.seq (List.toArray [Value.str msg t]) }).push { cls:=.type "AttributeError",data:=.fields ((List.toArray [.ref h.objs.size,.none,.none,.none,.bool false,.none])++(List.toArray [unsetMember,unsetMember])) }).get? b=some u:=λb u e=>aR _ (aR _ e);have hne:h.get? (h.push { cls:=.type "tuple",data:=.seq (List.toArray [Value.str msg t]) }).objs.size=none:=Heap.get?_none_of_le (by simp);show wpAny (model prog w) A (noteAttr (.ref (h.push { cls:=.type "tuple",data:=.seq (List.toArray [Value.str msg t]) }).objs.size) (.ref a) (.str "keys" (t+1)) >>= λ_=>raiseNew (.ref (h.push { cls:=.type "tuple",data:=.seq (List.toArray [Value.str msg t]) }).objs.size)) Q E #[(h.push { cls:=.type "tuple",data:=.seq (List.toArray [Value.str msg t]) }).push { cls:=.type "AttributeError",data:=.fields ((List.toArray [.ref h.objs.size,.none,.none,.none,.bool false,.none])++(List.toArray [unsetMember,unsetMember])) },g,d,t+2,os];generalize (h.push { cls:=.type "tuple",data:=.seq (List.toArray [Value.str msg t]) }).push { cls:=.type "AttributeError",data:=.fields ((List.toArray [.ref h.objs.size,.none,.none,.none,.bool false,.none])++(List.toArray [unsetMember,unsetMember])) }=h2 at hX hk ⊢;generalize (h.push { cls:=.type "tuple",data:=.seq (List.toArray [Value.str msg t]) }).objs.size=e at hX hne ⊢;generalize (Value.ref h.objs.size)=r0 at hX;unfold noteAttr;dsimp only;have hTe:(#[h2,g,d,t+2,os]:Shared).TypeIs (.ref e) "AttributeError":=#[_,hX,rfl];refine ao (ao ?_);unfold lacksNameAndObj;dsimp only;refine ao (wpAny_isInstance (T := "AttributeError") (b:=true) hTe (by rw[isSubtype_type];kernel_rfl) ?_);simp only[gZ,cS,if_false];refine ao (wpAny_load hX ?_);dsimp only;have i6:((List.toArray [r0,Value.none,Value.none,Value.none,Value.bool false,Value.none])++(List.toArray [unsetMember,unsetMember]))[6]?=some unsetMember:=by simp
 have i7:((List.toArray [r0,Value.none,Value.none,Value.none,Value.bool false,Value.none])++(List.toArray [unsetMember,unsetMember]))[7]?=some unsetMember:=by simp
 refine wpAny_ite_split (λz=>absurd z (by rw[i6,i7];decide)) (λ_=>?_);refine wpAny_ite_split (λz=>absurd z (by rw[i6,i7];decide)) (λ_=>?_);refine aA ?_;rw[ae rfl];refine ao (wpAny_rule (ao (wpAny_typeOf hTe ?_)));dsimp only;unfold layMembers;refine ao (wpAny_load hX ?_);dsimp only;refine wpAny_update (s:=#[h2,g,d,t+2,os]) hX ?_;unfold raiseNew;refine ao (wpAny_handled ?_);rw[hh]
 first
  | refine wpAny_throw ?_
  | refine ao (aA (wpAny_throw ?_))
 refine q _ _ e (λb u eb=>?_) #[_,sH _ hX (Obj.isFreed_of_fields (Obj.data_mapFields rfl _)),rfl];have nb:b≠e:=λz=>by
  rw[z,hne]at eb;cases eb
 exact (iF _ _ (aS nb)).trans (hk b u eb)
def Gj {tk:Tok}{R:Result->Shared->Prop}(hh:A.handled=none)(hx:h.get? a=some { cls:=.type "list",dict:=none,data:=.seq xs n,slots:=sl })
  (q:∀ h' t' e,(∀ b u,h.get? b=some u->h'.get? b=some u)->(#[h',g,d,t',os]:Shared).TypeIs (.ref e) "AttributeError"->R (.error (.ref e)) #[h',g,d,t',os]) :
  codeAny (model prog w) A (.call (.builtin "list.__getattribute__") #[[.ref a,.str "keys" tk],[]]) R #[h,g,d,t,os]:=
 codeAny_call_builtin F.slot_list_getattribute.plain F.entry_list_ga (F.slot_list_getattribute.check _ _ _ _ _ _ _ _ (show (#[h,g,d,t,os]:Shared).TypeIs (.ref a) "list" from #[_,hx,rfl]) (F.args_list_getattribute_2 _ _) (Gi (A:=A.in1) hh hx q))
def Gk {Q:Option Value->Shared->Prop}(hh:A.handled=none)(hx:h.get? a=some { cls:=.type "list",dict:=none,data:=.seq xs n,slots:=sl })
  (q:∀ h' t',(∀ b u,h.get? b=some u->h'.get? b=some u)->Q none #[h',g,d,t',os]):wpAny (model prog w) A (getAttr? (.ref a) "keys") Q E #[h,g,d,t,os]:=by
 have hT:(#[h,g,d,t,os]:Shared).TypeIs (.ref a) "list":=#[_,hx,rfl];have f2:=F.slot_list_getattribute.lookup;have f3:=F.slot_list_getattribute.bind (.ref a);have f5:typeLookup (.type "list") "__getattr__" = pure none:=by rw[typeLookup_type,builtinLookup_eq_fast];kernel_rfl
 unfold getAttr? getAttrBy?
 repeat (any_goals (first|assumption|wp_step))
 refine Gj hh hx λh' t' e k ty=>?_;have su:isSubtype (.type "AttributeError") (.type "AttributeError")=pure true:=by rw[isSubtype_type];kernel_rfl
 show wpAny (model prog w) A (getattributeRaised (.ref a) (.str "keys" t) (.type "list") (.ref e) none false false) _ _ _;unfold getattributeRaised;refine ao (wpAny_isInstance ty su ?_);rw[ae rfl];refine ao (?_:wpAny _ _ (typeLookup (.type "list") "__getattr__") _ _ _);rw[f5];refine aA ?_;show wpAny _ _ (throw (Value.ref e)) _ _ _;refine wpAny_throw ?_;show wpAny _ _ (do let b <-isInstance (.ref e) (.type "AttributeError");if b=true then pure none else throw (Value.ref e)) _ _ _
 refine ao (wpAny_isInstance ty su ?_);exact aA (q h' t' k)
end
end DictP
namespace DictP
open PySem PySem.Spec PyProof.Rows L2
set_option maxRecDepth 100000
def Ai:entryFor table "dict.update.loop" = some Builtin.«dict.update.loop»:=entryFor_of_tree (by kernel_rfl)
def oI:plainId "dict.update.loop" = true:=by decide +kernel
def Gm {K:Type}[DecidableEq K]{kvs:List (K×Value)}{k:K}{v:Value}(h:k∉kvs.map (·.1)):stored kvs k v=kvs++[(k,v)]:=by
 unfold stored;rw[af λz=>?_];obtain ⟨kv,h1,h2⟩:=List.any_eq_true.mp z;exact h (bA.mpr #[kv,h1,bM h2])
section
variable {prog:Program}{w:World}{A:Around}{R:Result->Shared->Prop}{I:Addr}{fp wr:List Addr}{G:Array GenState->Array GenState->Prop}{n:Nat}{P:Nat->Value->Prop}{St:Nat->Shared->Prop}
def Gn {h0:Heap}(W:WalksS prog w A.in1 I fp wr G n P St)(d:Addr)(hdf:d∉fp)(res:Value)(kvs:List (Key×Value))(hn:n=kvs.length)(hnd:(kvs.map (·.1)).Nodup)
  (hP:∀ i v,P i v->∃ tp key k val,v=.ref tp/\tp≠d/\tp∉wr/\h0.IsTuple tp (List.toArray [key,val])/\(bB prog w).is k key=true/\kvs[i]?=some (k,val)) (hz:kvs.length<=sizeLine) :
  ∀(j i:Nat) (s:Shared) (tk:Tok),n-i=j->i<=n->St i s->(∀ b o,b≠d->b∉wr->h0.get? b=some o->s.heap.get? b=some o)->s.heap.DictOf (bB prog w) d (kvs.take i)->
   (∀ s',Moved (d::wr) G s s'->s'.heap.DictOf (bB prog w) d kvs->R (.ok (.ret res)) s')->codeAny (model prog w) A (.builtin "dict.update.loop" #[[.ref d,.ref I,.int i tk,res],[]]) R s:=by
 have hdw:d∉wr:=λh=>hdf (W.sub _ h);have up:∀ b∈wr,b∈d::wr:=λb hb=>bG _ hb;intro j
 induction j with
 | zero=>
  intro i s tk hj hi st hk hd q;have e:i=n:=by lia
  subst e;refine codeAny_builtin Ai ?_;rw[Around.under_plainId oI _];show wpAny _ A.in1 (pyNext (.ref I) >>= _) _ _ s;refine ao (W.done s _ _ st λs' hm=>?_);refine ao (?_:wpAny _ A.in1 (Builtin.Dict.addKeywords d []) _ _ s');refine aA (aA (q s' (hm.mono up) ?_));obtain ⟨o,es,ep,ho,r⟩:=hd;rw[hn,List.take_length]at r;exact #[o,es,ep,hm.heap d o hdw ho,r]
 | succ j ih=>
  intro i s tk hj hi st hk hd q;have hlt:i<n:=by lia
  refine codeAny_builtin Ai ?_;rw[Around.under_plainId oI _];show wpAny _ A.in1 (pyNext (.ref I) >>= _) _ _ s;refine ao (W.item i s _ _ hlt st λv s' hPi st' hm=>?_);obtain ⟨tp,key,k,val,rfl,ntd,ntw,ht,hkey,hkv⟩:=hP i v hPi;obtain ⟨ot,o1,o2,nt,o3⟩:=ht;have g1:=hm.heap tp ot ntw (hk tp ot ntd ntw o1);have hd':s'.heap.DictOf (bB prog w) d (kvs.take i):=by
   obtain ⟨o,es,ep,ho,r⟩:=hd;exact #[o,es,ep,hm.heap d o hdw ho,r]
  obtain ⟨hik,hek⟩:=aM.mp hkv;have hnew:k∉(kvs.take i).map (·.1):=λz=>by
   rw[g9]at z;obtain ⟨m,hm1,hm2⟩:=sS.mp z;have h2:m<(kvs.map (·.1)).length:=by lia
   have h3:i<(kvs.map (·.1)).length:=by rw[aq];exact hik
   have:=cT.mp hnd m i h2 h3 (by lia);apply this;rw[hm2,List.getElem_map,hek]
  refine ao (wpAny_holding (ao (wpAny_tryCatch ?_)));unfold Builtin.Dict.pairItems;refine ao (wpAny_typeOf (T := "tuple") #[_,g1,o2] ?_);rw[ae (by decide)];unfold seqItems?;refine ao (ao (wpAny_load g1 ?_));rw[o3];refine aA (aA ?_);show wpAny _ A.in1 (holding [key,val] (dictSet d key val)) _ _ s';refine wpAny_holding (wpAny_dictSet_pairs hkey hd' (λh' hd2 sb=>?_) (by rw[aT];lia));rw[Gm hnew]at hd2;have tk1:kvs.take (i+1)=kvs.take i++[(k,val)]:=by
   rw[cF hik,hek]
  rw[<-tk1]at hd2;refine aA #[plainId_quiet oI _,ih (i+1) _ 0 (by lia) hlt (W.frame _ s' _ _ st' (dm _) λb hb o e=>?_) (λb o n1 n2 e=>?_) hd2 λs'' hm'' x3=>?_]
  .rw[sb.2 b (λh:b=d=>hdf (by rw[<-h];exact hb))];exact e
  .rw[sb.2 b n1];exact hm.heap b o n2 (hk b o n1 n2 e)
  .refine q s'' (Moved.trans W.gtrans ((hm.mono up).then_heap (dm _) λb o hb e=>?_) hm'') x3;rw[sb.2 b (λh:b=d=>hb (by rw[h];exact bx))];exact e
end
end DictP
namespace DictP
open PySem PySem.Spec PyProof.Rows L2
set_option maxRecDepth 100000
section
variable {prog:Program}{w:World}{A:Around}{E:Value->Shared->Prop}{s:Shared}
def of_pairs {l:Addr}{items:Array Value}{nl:Nat}{sl:Array (Option Value)}{kvs:List (Key×Value)}{Q:Value->Shared->Prop}(hh:A.handled=none)(hl:s.heap.get? l=some { cls:=.type "list",dict:=none,data:=.seq items nl,slots:=sl })
  (hnd:(kvs.map (·.1)).Nodup) (hlen:items.size=kvs.length) (hz:kvs.length<=sizeLine)
  (hit:∀(i:Nat) v,items[i]?=some v->∃ tp key k val,v=.ref tp/\s.heap.IsTuple tp (List.toArray [key,val])/\(bB prog w).is k key=true/\kvs[i]?=some (k,val))
  (q:∀ h' tk,h'.DictOf (bB prog w) s.heap.objs.size kvs->(∀ b o,s.heap.get? b=some o->h'.get? b=some o)->Q (.ref s.heap.objs.size) { s with heap:=h',toks:=tk }) :
  wpAny (model prog w) A (call (.type "dict") [.ref l]) Q E s:=by
 refine callType_codes (Q₁:=λobj s₁=>obj=.ref s.heap.objs.size/\s₁={ s with heap:=s.heap.push { cls:=.type "dict",data:=.dict (List.toArray []) } }) F.kt_called_dict (F.kt_typeCall_dict_1 _) F.entry_dict_init (kt_code_dict_new _ #[rfl,rfl]) ?_;rintro obj s₁ ⟨rfl,rfl⟩;have hnew:(s.heap.push { cls:=.type "dict",data:=.dict (List.toArray []) }).DictOf (bB prog w) s.heap.objs.size []:=Heap.DictOf.new s.heap;have hl1:=aR { cls:=.type "dict",data:=.dict (List.toArray []) } hl;have hkp:∀ b o,s.heap.get? b=some o->(s.heap.push { cls:=.type "dict",data:=.dict (List.toArray []) }).get? b=some o:=λb o e=>aR _ e;have hds:s.heap.objs.size<(s.heap.push { cls:=.type "dict",data:=.dict (List.toArray []) }).objs.size:=by
  rw[jw];exact jx _
 have hlS:l<s.heap.objs.size:=aK hl;refine #[hnew.typeIs,F.args_dict_init_2 _ _,?_];generalize s.heap.push { cls:=.type "dict",data:=.dict (List.toArray []) }=h1 at hnew hl1 hkp hds ⊢;unfold Builtin.«dict.__init__»;refine ao ?_;unfold Builtin.Dict.selfAndRest;refine ao (wpAny_notOrdered_dict hnew.typeIs ?_);show wpAny _ _ (pure (s.heap.objs.size,[Value.ref l])) _ _ _;refine aA ?_;show wpAny _ _ (Builtin.Dict.updateFrom "dict.__init__" s.heap.objs.size (.ref l) [] .none) _ _ _;unfold Builtin.Dict.updateFrom;refine ao (wpAny_typeOf (T := "list") #[_,hl1,rfl] ?_);rw[ae (by decide)];refine ao (Gk (A:=_) hh hl1 λh2 t2 k2=>?_);rw[ae (show (none:Option Value).isNone=true from rfl)];refine ao (wpAny_rule (ao ?_));have hl2:=k2 _ _ hl1;have hL2:h2.IsList l items:=#[_,hl2,rfl,nl,rfl];refine wpAny_pyIter_list (s:=#[h2,s.gens,s.drawn,t2,s.os]) hL2 ?_;refine aA #[plainId_quiet oI _,?_];have hd2:h2.DictOf (bB prog w) s.heap.objs.size []:=by
  obtain ⟨o,es,ep,ho,r⟩:=hnew;exact #[o,es,ep,k2 _ _ ho,r]
 have hdlt:s.heap.objs.size<h2.objs.size:=by
  obtain ⟨o,es,ep,ho,r⟩:=hd2;exact aK ho
 have hne:l≠h2.objs.size:=bo (jm hlS hdlt);have h3:A.in1.in1.handled=none:=by simp[hh]
 refine Gn (h0:=s.heap) ((Walks.list h3 _ l hne items).toS) s.heap.objs.size (λz=>?_) .none kvs hlen hnd (λi v hv=>?_) hz items.size 0 _ 0 (by lia) (bK _) #[#[_,cQ _ rfl,rfl,rfl],hL2.push _] (λb o n1 n2 e=>aR _ (k2 _ _ (hkp _ _ e))) ?_ λs' hm hd'=>?_
 .simp only[aW,dU,or_false]at z;rcases z with z|z
  .exact absurd hdlt (by rw[<-z];exact dQ _)
  .exact absurd hlS (by rw[<-z];exact dQ _)
 .obtain ⟨tp,key,k,val,e1,e2,e3,e4⟩:=hit i v hv;have htp:tp<s.heap.objs.size:=by
   obtain ⟨ot,o1,_⟩:=e2;exact aK o1
  refine #[tp,key,k,val,e1,bo htp,λz=>?_,e2,e3,e4];rw[aQ.mp z]at htp;exact absurd (jm htp hdlt) (dQ _)
 .rw[gY];exact hd2.push _
 .refine #[rfl,?_];rw[Moved.eq_with hm];refine q s'.heap s'.toks hd' λb o e=>hm.heap b o (λz=>?_) (aR _ (k2 _ _ (hkp _ _ e)));have hb:=aK e;simp only[aW,dU,or_false]at z;rcases z with z|z
  .rw[z]at hb;exact absurd hb (dQ _)
  .rw[z]at hb;exact absurd (jm hb hdlt) (dQ _)
end
end DictP
namespace L2
open PySem PySem.Spec PyProof.Rows
inductive Aj (K:Frag)(xs:List V)(H:Hp)(Q:VK):Prop
 | c:∀(p:Addr) (zs:List V) (kvs:List (Key×V)),xs=[.ref p]->SqL K H p zs->Paired (λ(z:V) (kv:Key×V)=>∃ b,z=.ref b/\H b=some (.tup [kV kv.1,kv.2])) zs kvs->(kvs.map (·.1)).Nodup->(∀ d,H d=none->Q (.ref d) (upd H d (.dK kvs)))->Aj K xs H Q
section
variable {X:Cx}
def Ak (I:Inv X LB Z H s):∀{zs:List V} {kvs:List (Key×V)} {us:List Value},Paired (λ(z:V) (kv:Key×V)=>∃ b,z=.ref b/\H b=some (.tup [kV kv.1,kv.2])) zs kvs->Vals zs us->
  ∃ ks:List (Key×Value),KV kvs ks/\∀(i:Nat) v,us[i]?=some v->∃ tp key k val,v=.ref tp/\s.heap.IsTuple tp (List.toArray [key,val])/\(bB X.prog X.w).is k key=true/\ks[i]?=some (k,val)
 | _,_,_,.nil,.nil=>#[[],.nil,λi v h=>by simp at h]
 | _::_,kv::_,_::_,.cons ⟨b,e1,e2⟩ t,.cons r q=>by
  subst e1;obtain ⟨ks,h1,h2⟩:=Ak I t q;cases r
  obtain ⟨its,rv,p,_⟩:=I.tuple (SqT.of e2);cases rv with
  | cons r1 rv=>
   cases rv with
   | cons r2 rv=>
    cases rv
    refine #[(kv.1,_)::ks,.cons #[rfl,r2] h1,λi v hv=>?_];cases i with
    | zero=>
     simp only[List.getElem?_cons_zero,Option.some.injEq]at hv;subst hv;exact #[b,_,kv.1,_,rfl,p,ie r1,rfl]
    | succ i=>
     rw[kR]at hv ⊢;exact h2 i v hv
def Al:∀{kvs:List (Key×V)} {ks:List (Key×Value)},KV kvs ks->ks.map (·.1)=kvs.map (·.1)
 | _,_,.nil=>rfl
 | _,_,.cons r t=>by
  rw[bI,bI,Al t,r.1]
def Am (hc:X.calm=true):cV X (.type "dict") (Aj X.K):=by
 intro LB s Z H xs us Q I r h;obtain ⟨p,zs,kvs,rfl,hq,hp,hn,q⟩:=h;obtain ⟨u,rfl,rx⟩:=fh r;cases rx
 obtain ⟨its,rv,pl,hz⟩:=I.list hq;obtain ⟨ks,hk,hit⟩:=Ak I hp rv;have l1:=Paired.length hp;have l2:=rv.length;have l3:=Paired.length hk;obtain ⟨⟨oc,od,oda,osl⟩,n,e,e1,e2,e3⟩:=pl;simp only at e1 e2 e3;subst e1 e2 e3;refine DictP.of_pairs (kvs:=ks) (I.ok.hd hc) e (by rw[Al hk];exact hn) (by rw[bL];lia) (by lia) (λi v hv=>hit i v (by simpa using hv)) λh' tk hd k=>?_;exact #[.ref s.heap.objs.size,_,I.laid (a:=s.heap.objs.size) (o:=.dK kvs) (t':=tk) k (ai _) #[by lia,beq_eq_false_iff_ne.mpr (aS (bo I.big)),ks,hk,hd],rfl,q _ (I.hok.fresh (ai _))]
end
section
variable {X:Cx}
def Gp (hu:X.A.units+1<cLine):OpR X (compareOp .In) (λx y H Q=>∃ a o,y=.ref a/\DGet H a x o/\Q (.bl o.isSome) H):=by
 intro LB s Z H x y v u Q I rx ry h;obtain ⟨a,o,rfl,g,q⟩:=h;cases ry
 exact d_in hu I g rx λs' I'=>#[.bl _,H,I',rfl,q]
end
section
variable {X:Cx}
def Gq (hu:X.A.units+1<cLine):OpR X (compareOp .NotIn) (λx y H Q=>∃ a o,y=.ref a/\DGet H a x o/\Q (.bl (!o.isSome)) H):=by
 intro LB s Z H x y v u Q I rx ry h;obtain ⟨a,o,rfl,g,q⟩:=h;cases ry
 exact Ea hu I g rx λs' I'=>#[.bl _,H,I',rfl,q]
end
end L2
namespace SetV
open PySem PySem.Spec PyProof.Rows SetW
def cX (m:Nat):Nat->Nat×Nat->Nat×Nat
 | 0,x=>x
 | k+1,x=>cX m k (SetTable.leap m x.1 x.2)
def i4 (m:Nat):∀(a b:Nat) (x:Nat×Nat),cX m (a+b) x=cX m b (cX m a x)
 | 0,b,x=>by rw[fD];rfl
 | a+1,b,x=>by
  rw[sM];exact i4 m a b _
def uB (m:Nat):∀(k:Nat) (x:Nat×Nat),(cX m k x).2=x.2/32^k
 | 0,x=>by simp[cX]
 | k+1,x=>by
  have:=uB m k (SetTable.leap m x.1 x.2);show (cX m k (SetTable.leap m x.1 x.2)).2=_;rw[this];show x.2/32/32^k=_;rw[Nat.div_div_eq_div_mul,hE,Nat.mul_comm]
def An (m:Nat):∀(k:Nat) (x:Nat×Nat),x.1<=m->(cX m k x).1<=m
 | 0,x,h=>h
 | k+1,x,h=>An m k _ (by
  show (x.1*5+1+x.2/32)%(m+1)<=m;exact dA (fe _ (dR m)))
def Gr:∀ i,i<8->∀ y,y<8->∃ k,k<8/\(cX 7 k (i,0)).1=y:=by decide +kernel
def Gs:∀ i,i<32->∀ y,y<32->∃ k,k<32/\(cX 31 k (i,0)).1=y:=by decide +kernel
def orb (m:Nat):Nat->Nat->List Nat
 | 0,_=>[]
 | k+1,i=>i::orb m k ((i*5+1)%(m+1))
def Ao (m:Nat):∀(k i y:Nat),y∈orb m k i->∃ j,j<k/\(cX m j (i,0)).1=y
 | 0,_,_,h=>nomatch h
 | k+1,i,y,h=>by
  rcases aW.mp h with rfl|h
  .exact #[0,dR _,rfl]
  .obtain ⟨j,hj,e⟩:=Ao m k _ y h;refine #[j+1,Nat.succ_lt_succ hj,?_];show (cX m j (SetTable.leap m i 0)).1=y;rw[show SetTable.leap m i 0=((i*5+1)%(m+1),0) from by unfold SetTable.leap;simp];exact e
def orb0:∀ y,y<128->y∈orb 127 128 0:=by decide +kernel
def Gu:cX 127 128 (0,0)=(0,0):=by decide +kernel
def Ap {i:Nat}(hi:i<128):∃ a,a<128/\cX 127 a (0,0)=(i,0):=by
 obtain ⟨a,ha,e⟩:=Ao 127 128 0 i (orb0 i hi);refine #[a,ha,Prod.ext e ?_];rw[uB];exact Nat.zero_div _
def Gv:∀ i,i<128->∀ y,y<128->∃ k,k<128/\(cX 127 k (i,0)).1=y:=λi hi y hy=>by
 obtain ⟨a,ha,ea⟩:=Ap hi;obtain ⟨b,hb,eb⟩:=Ap hy;by_cases c:a<=b
 .refine #[b-a,by lia,?_];rw[<-ea,<-i4,show a+(b-a)=b by lia,eb]
 .refine #[128-a+b,by lia,?_];rw[<-ea,<-i4,show a+(128-a+b)=128+b by lia,i4,Gu,eb]
abbrev Mask (m:Nat):Prop:=m=7\/m=31\/m=127
def Aq (hm:Mask m){x:Nat×Nat}(hi:x.1<=m)(hp:x.2<2^64){y:Nat}(hy:y<=m):∃ k,k<=13+m/\(cX m k x).1=y:=by
 have h2:(cX m 13 x).2=0:=by
  rw[uB];exact Nat.div_eq_of_lt (aP hp (by decide))
 have h1:=An m 13 x hi;have e:cX m 13 x=((cX m 13 x).1,0):=by rw[<-h2]
 rcases hm with rfl|rfl|rfl
 .obtain ⟨k,hk,z⟩:=Gr _ (jr h1) y (by lia);exact #[13+k,by lia,by rw[i4,e];exact z]
 .obtain ⟨k,hk,z⟩:=Gs _ (jr h1) y (by lia);exact #[13+k,by lia,by rw[i4,e];exact z]
 .obtain ⟨k,hk,z⟩:=Gv _ (jr h1) y (by lia);exact #[13+k,by lia,by rw[i4,e];exact z]
def advN (t:SetTable):Nat->SetTable.Probe->SetTable.Probe
 | 0,p=>p
 | n+1,p=>advN t n (t.advance p)
def uC (t:SetTable):∀(a b:Nat) (p:SetTable.Probe),advN t (a+b) p=advN t b (advN t a p)
 | 0,b,p=>by rw[fD];rfl
 | a+1,b,p=>by
  rw[sM];exact uC t a b _
def jS (t:SetTable)(x:Nat×Nat)(d:Option Nat):SetTable.Probe:={ j:=x.1,more:=SetTable.runEnd t.mask x.1-x.1,i:=x.1,perturb:=x.2,dummy:=d }
def Ar (t:SetTable):∀(q:Nat) (p:SetTable.Probe),p.more=q->advN t (q+1) p=jS t (SetTable.leap t.mask p.i p.perturb) p.dummy
 | 0,p,h=>by
  show t.advance p=_;unfold SetTable.advance;rw[af (by lia)];rfl
 | q+1,p,h=>by
  show advN t (q+1) (t.advance p)=_;have e:t.advance p={ p with j:=p.j+1,more:=p.more-1 }:=by
   unfold SetTable.advance;rw[ae (by lia)]
  rw[Ar t q _ (by rw[e];show p.more-1=q;lia),e]
def run9 (m i:Nat):SetTable.runEnd m i-i<=9:=by
 unfold SetTable.runEnd;split<;>lia
def As (t:SetTable):∀(k:Nat) (x:Nat×Nat) (d:Option Nat),∃ n,n<=10*k/\advN t n (jS t x d)=jS t (cX t.mask k x) d
 | 0,x,d=>#[0,ai _,rfl]
 | k+1,x,d=>by
  obtain ⟨n,hn,e⟩:=As t k (SetTable.leap t.mask x.1 x.2) d;have h9:=run9 t.mask x.1;refine #[(SetTable.runEnd t.mask x.1-x.1+1)+n,by lia,?_];have r:=Ar t (SetTable.runEnd t.mask x.1-x.1) (jS t x d) rfl;rw[uC,r];exact e
def dist {t:SetTable}(hm:Mask t.mask){x:Nat×Nat}(hi:x.1<=t.mask)(hp:x.2<2^64){y:Nat}(hy:y<=t.mask):∃ n,n<=10*(13+t.mask)/\(advN t n (jS t x d)).j=y:=by
 obtain ⟨k,hk,e⟩:=Aq hm hi hp hy;obtain ⟨n,hn,e2⟩:=As t k x d;exact #[n,by lia,by rw[e2];exact e]
def Au:∀(s l:List Nat),s.Nodup->(∀ x∈s,x∈l)->s.length<=l.length
 | [],l,_,_=>bK _
 | x::s,l,hn,h=>by
  rw[dz]at hn;have hx:=h x bx;have:=Au s (l.erase x) hn.2 λy hy=>(List.mem_erase_of_ne (λz=>hn.1 (by rw[<-z];exact hy))).mpr (h y (bG _ hy));rw[List.length_erase_of_mem hx]at this;have:=List.length_pos_of_mem hx;rw[cE];lia
def Gw {l:List Nat}{m:Nat}(h:l.length<m):∃ y,y<m/\y∉l:=by
 refine Classical.byContradiction λz=>?_;have:=Au (List.range m) l kZ λx hx=>Classical.byContradiction λy=>z #[x,cZ.mp hx,y];rw[cq]at this;lia
def Gx {t:SetTable}(g:Good t){y:Nat}(h:y∉t.place.toList):t.slot y=.empty:=by
 unfold SetTable.slot;rw[g.no];dsimp only;rw[SetW.has_none,af λz=>h ?_]
 .rfl
 .have:=beq_iff_eq.mp z;rw[<-eP]at this;exact cy this
def Aw {t:SetTable}(g:Good t){f:Nat->Int}{h:Int}:∀(n F:Nat) (p:SetTable.Probe),n<F->p.dummy=none->t.slot (advN t n p).j=.empty->
  ∃ met,SetTable.probe.go t f h F p=some met/\((∃ m,m<=n/\met=.empty (advN t m p).j none/\t.slot (advN t m p).j=.empty)\/∃ i m,m<n/\met=.candidate (advN t m p).j i (advN t (m+1) p)/\t.slot (advN t m p).j=.live i)
 | n,0,p,hn,_,_=>by lia
 | n,F+1,p,hn,hd,he=>by
  unfold SetTable.probe.go;cases z:t.slot p.j with
  | dummy=>exact absurd z (Ag g _).1
  | empty=>exact #[_,rfl,.inl #[0,bK _,by rw[hd];rfl,z]]
  | live i=>
   dsimp only;by_cases c:(f i==h)=true
   .rw[ae c];cases n with
    | zero=>
     have he:t.slot p.j=.empty:=he;rw[z]at he;cases he
    | succ n=>exact #[_,rfl,.inr #[i,0,dR _,rfl,z]]
   .rw[af c];cases n with
    | zero=>
     have he:t.slot p.j=.empty:=he;rw[z]at he;cases he
    | succ n=>
     obtain ⟨met,e,r⟩:=Aw g n F (t.advance p) (by lia) (by rw[Ah];exact hd) he;refine #[met,e,?_];rcases r with ⟨m,h1,h2,h3⟩|⟨i',m,h1,h2,h3⟩
     .exact .inl #[m+1,by lia,h2,h3]
     .exact .inr #[i',m+1,by lia,h2,h3]
def InR (t:SetTable)(p:SetTable.Probe):Prop:=p.j+p.more<=t.mask/\p.i<=t.mask
def Ax {m i:Nat}(h:i<=m):i+(SetTable.runEnd m i-i)<=m:=by
 unfold SetTable.runEnd;split<;>lia
def InR.adv {t:SetTable}(h:InR t p):InR t (t.advance p):=by
 unfold SetTable.advance;split
 .exact #[by have:=h.1;show p.j+1+(p.more-1)<=t.mask;lia,h.2]
 .have hi:(p.i*5+1+p.perturb/32)%(t.mask+1)<=t.mask:=dA (fe _ (dR t.mask));exact #[Ax hi,hi]
def InR.advN {t:SetTable}:∀(n:Nat) {p:SetTable.Probe},InR t p->InR t (SetV.advN t n p)
 | 0,_,h=>h
 | n+1,_,h=>InR.advN n h.adv
end SetV
namespace SetV
open PySem PySem.Spec PyProof.Rows SetW
def uD:∀(l:List (Option Nat)) (j k:Nat),l[j]?=some none->((l.set j (some k)).filterMap id).Perm (k::l.filterMap id)
 | [],j,k,h=>by simp at h
 | x::l,0,k,h=>by
  simp only[List.getElem?_cons_zero,Option.some.injEq]at h;subst h;exact List.Perm.refl _
 | x::l,j+1,k,h=>by
  rw[kR]at h;rw[List.set_cons_succ];cases x with
  | none=>exact uD l j k h
  | some a=>exact ((uD l j k h).cons a).trans (List.Perm.swap _ _ _)
def Ay:∀(l:List (Option Nat)),(∀ x∈l,x≠none)->(l.filterMap id).length=l.length
 | [],_=>rfl
 | none::l,h=>absurd rfl (h _ bx)
 | some a::l,h=>by
  show (a::l.filterMap id).length=_;rw[cE,cE,Ay l λx hx=>h x (bG _ hx)]
def Az {o:Array (Option Nat)}:∀(k F i p y:Nat),k<F->i<=m->(cX m k (i,p)).1=y->(o.getD y (some 0)).isNone=true->∃ j,SetTable.layClean.free m o F i p=some j/\(o.getD j (some 0)).isNone=true
 | k,0,i,p,y,hk,_,_,_=>by lia
 | k,F+1,i,p,y,hk,hi,hy,hn=>by
  unfold SetTable.layClean.free;cases z:(List.range (SetTable.runEnd m i+1-i)).find? λk=>(o.getD (i+k) (some 0)).isNone with
  | some q=>exact #[i+q,rfl,List.find?_some (p:=λk=>(o.getD (i+k) (some 0)).isNone) z]
  | none=>
   have h0:¬ (o.getD (i+0) (some 0)).isNone=true:=by
    refine List.find?_eq_none.mp z 0 (cZ.mpr ?_);unfold SetTable.runEnd;split<;>lia
   cases k with
   | zero=>exact absurd (by rw[show i=y from hy];exact hn) h0
   | succ k=>
    refine Az k F _ _ y (by lia) ?_ hy hn;show (i*5+1+p/32)%(m+1)<=m;exact dA (fe _ (dR m))
def AA (h:Int):SetTable.bits h<2^64:=by
 unfold SetTable.bits;have h1:=kT h (show (0:Int)<2^64 by decide);have h2:=kS h (show (2^64:Int)≠0 by decide);lia
def uE (M:Nat)(acc:Option (Array (Option Nat)×Nat))(h:Int):Option (Array (Option Nat)×Nat):=do
 let (owner,k) <-acc
 let j <-SetTable.layClean.free M owner (SetTable.turns M) (SetTable.bits h%(M+1)) (SetTable.bits h)
 pure (owner.setIfInBounds j (some k),k+1)
def AB (hM:Mask M):∀(hs:List Int) (o:Array (Option Nat)) (k:Nat),o.size=M+1->(o.toList.filterMap id).Perm (List.range k)->k+hs.length<M+1->
  ∃ o',hs.foldl (uE M) (some (o,k))=some (o',k+hs.length)/\o'.size=M+1/\(o'.toList.filterMap id).Perm (List.range (k+hs.length))
 | [],o,k,h1,h2,_=>#[o,rfl,h1,h2]
 | h::hs,o,k,h1,h2,h3=>by
  rw[cE]at h3;obtain ⟨y,hy,hy2⟩:∃ y,y<M+1/\(o.getD y (some 0)).isNone=true:=by
   refine Classical.byContradiction λz=>?_;have:=Ay o.toList λx hx e=>z (by
    obtain ⟨y,hy,e2⟩:=dC hx;have hy':y<o.size:=by simpa using hy
    refine #[y,by lia,?_];have:o[y]=none:=by
     rw[<-e,<-e2];simp
    simp[Array.getD,hy',this])
   rw[h2.length_eq,cq,bH]at this;lia
  obtain ⟨kk,hk,e⟩:=Aq hM (x:=(SetTable.bits h%(M+1),SetTable.bits h)) (dA (fe _ (dR _))) (AA h) (y:=y) (by lia);obtain ⟨j,hj,hj2⟩:=Az (o:=o) kk (SetTable.turns M) (SetTable.bits h%(M+1)) (SetTable.bits h) y (by show kk<M+15;lia) (dA (fe _ (dR _))) e hy2;have hjs:j<o.size:=by
   refine e8 λz=>?_;simp[Array.getD,g8.mpr z]at hj2
  have hoj:o.toList[j]?=some none:=by
   simp only[Array.getD,hjs,dif_pos]at hj2;rw[eP,eK hjs];exact congrArg some (Option.isNone_iff_eq_none.mp hj2)
  have st:uE M (some (o,k)) h=some (o.setIfInBounds j (some k),k+1):=by
   unfold uE;simp only[Option.bind_eq_bind,Option.bind_some];rw[hj];rfl
  rw[nA,st];obtain ⟨o',r1,r2,r3⟩:=AB hM hs (o.setIfInBounds j (some k)) (k+1) (by simp[h1]) (by
   rw[Array.toList_setIfInBounds];refine (uD _ _ _ hoj).trans ((h2.cons k).trans ?_);rw[fQ];exact (List.perm_append_singleton k (List.range k)).symm) (by lia)
  have e2:k+1+hs.length=k+(h::hs).length:=by
   rw[cE];lia
  rw[e2]at r1 r3;exact #[o',r1,r2,r3]
def AC:∀ n:Nat,(List.replicate n (none:Option Nat)).filterMap id=List.range 0
 | 0=>rfl
 | n+1=>AC n
def Gy (hM:Mask M)(hs:Array Int)(h:hs.size<M+1):∃ owner,SetTable.layClean M hs=some owner/\owner.size=M+1/\(owner.toList.filterMap id).Perm (List.range hs.size):=by
 obtain ⟨o',r1,r2,r3⟩:=AB hM hs.toList (Array.replicate (M+1) none) 0 (by simp) (by rw[Array.toList_replicate];exact .of_eq (AC _)) (by simpa using h);rw[fD,bH]at r1 r3;refine #[o',?_,r2,r3];unfold SetTable.layClean;rw[<-Array.foldl_toList];have e:hs.toList.foldl (λacc h=>do
  let (owner,k) <-acc
  let j <-SetTable.layClean.free M owner (SetTable.turns M) (SetTable.bits h%(M+1)) (SetTable.bits h)
  pure (owner.setIfInBounds j (some k),k+1)) (some (Array.replicate (M+1) none,0))=some (o',hs.size):=r1
 rw[e];rfl
end SetV
namespace SetV
open PySem PySem.Spec PyProof.Rows SetW L2
set_option maxRecDepth 100000
section
variable {prog:Program}{w:World}{A:Around}{E:Value->Shared->Prop}{s:Shared}
def Pr (h:Heap)(a:Addr)(x:Int×Int):Prop:=∃ o n t1 t2,h.get? a=some o/\o.cls=.type "tuple"/\o.data=.seq (List.toArray [.int x.1 t1,.int x.2 t2]) n
def Pr.key {a:Addr}(p:Pr h a x):IsTupleKey (bB prog w) h [.inl x.1,.inl x.2] a:=by
 obtain ⟨o,n,t1,t2,h1,h2,h3⟩:=p;exact #[o,_,n,h1,h2,h3,.cons (sZ _ _ _ _) (.cons (sZ _ _ _ _) .nil)]
def Pr.keep {h':Heap}{a:Addr}(p:Pr h a x)(k:∀ o,h.get? a=some o->h'.get? a=some o):Pr h' a x:=by
 obtain ⟨o,n,t1,t2,h1,r⟩:=p;exact #[o,n,t1,t2,k o h1,r]
def Pr.ty {a:Addr}(p:Pr s.heap a x):s.TypeIs (.ref a) "tuple":=by
 obtain ⟨o,n,t1,t2,h1,h2,h3⟩:=p;exact #[o,h1,h2]
def AE {a:Addr}{Q:Bool->Shared->Prop}(p:Pr s.heap a x)(q:Q false s):wpAny (model prog w) A (ofAClassStatement 8 (.ref a)) Q E s:=by
 have ty:=p.ty;obtain ⟨o,n,t1,t2,h1,h2,h3⟩:=p;unfold ofAClassStatement;refine ao (wpAny_typeOf ty ?_);dsimp only;rw[ae (show ("tuple" == "tuple")=true from rfl)];refine ao (aA ?_);simp only[gZ,cS,if_false];refine ao (wpAny_seqItems h1 h3 ?_);dsimp only;refine ao ?_;show wpAny _ _ (forIn ((List.toArray [Value.int x.1 t1,Value.int x.2 t2]):Array Value) _ _) _ _ s;rw[<-Array.forIn_toList];refine wpAny_forIn_list _ (λrest r s'=>r.1=none/\s'=s/\∀ v∈rest,∃ i t,v=Value.int i t) _ ?_ ?_ _ _ #[rfl,rfl,λv hv=>by
  simp only[aW,dU,or_false]at hv;rcases hv with z|z
  .exact #[_,_,z]
  .exact #[_,_,z]]
 .rintro v rest r s' ⟨hr,rfl,hall⟩;obtain ⟨i,t,rfl⟩:=hall v bx;rw[show ofAClassStatement 7 (Value.int i t)=pure false by unfold ofAClassStatement;rfl];refine ao (aA ?_);simp only[cS,if_false];exact aA #[rfl,rfl,λu hu'=>hall u (bG _ hu')]
 .rintro ⟨r1,r2⟩ s' ⟨hr,rfl,_⟩;simp only at hr;subst hr;exact aA q
def hbv {a:Addr}{Q:Bool->Shared->Prop}(p:Pr s.heap a x)(q:Q true s):wpAny (model prog w) A (hashByValue 8 (.ref a)) Q E s:=by
 have ty:=p.ty;obtain ⟨o,n,t1,t2,h1,h2,h3⟩:=p;unfold hashByValue;refine ao (wpAny_specialOf ty F.slot_tuple_hash.lookup ?_);dsimp only;refine ao (wpAny_seqItems h1 h3 ?_);refine ao ?_;show wpAny _ _ (forIn ((List.toArray [Value.int x.1 t1,Value.int x.2 t2]):Array Value) _ _) _ _ s;rw[<-Array.forIn_toList];refine wpAny_forIn_list _ (λrest r s'=>r.1=none/\s'=s/\∀ v∈rest,∃ i t,v=Value.int i t) _ ?_ ?_ _ _ #[rfl,rfl,λv hv=>by
  simp only[aW,dU,or_false]at hv;rcases hv with z|z
  .exact #[_,_,z]
  .exact #[_,_,z]]
 .rintro v rest r s' ⟨hr,rfl,hall⟩;obtain ⟨i,t,rfl⟩:=hall v bx;rw[show hashByValue 7 (Value.int i t)=pure true by unfold hashByValue;rfl];refine ao (aA ?_);simp only[gZ,cS,if_false];exact aA #[rfl,rfl,λu hu'=>hall u (bG _ hu')]
 .rintro ⟨r1,r2⟩ s' ⟨hr,rfl,_⟩;simp only at hr;subst hr;exact aA q
def Gz {a:Addr}{l:List Value}{Q:Bool->Shared->Prop}(p:Pr s.heap a x)(hl:∀ v∈l,∃ b y,v=.ref b/\Pr s.heap b y)(q:Q false s):wpAny (model prog w) A (searchCouldBeSeen (.ref a) l) Q E s:=by
 unfold searchCouldBeSeen;refine ao ?_;refine wpAny_forIn_list _ (λrest r s'=>r.1=none/\s'=s/\∀ v∈rest,∃ b y,v=Value.ref b/\Pr s.heap b y) _ ?_ ?_ _ _ #[rfl,rfl,hl]
 .rintro v rest r s' ⟨hr,rfl,hall⟩;obtain ⟨b,y,rfl,pb⟩:=hall v bx;dsimp only;have go:∀ u∈rest,∃ b y,u=Value.ref b/\Pr s'.heap b y:=λu hu'=>hall u (bG _ hu');refine wpAny_ite_split (λ_=>aA #[rfl,rfl,go]) (λ_=>?_);refine ao ((tupleKind (bB prog w)).quiet p.key ?_);simp only[gZ,cS,if_false];refine ao ((tupleKind (bB prog w)).quiet pb.key ?_);simp only[gZ,cS,if_false];refine ao (AE p ?_);simp only[cS,if_false];refine ao (AE pb ?_);simp only[cS,if_false];exact aA #[rfl,rfl,go]
 .rintro ⟨r1,r2⟩ s' ⟨hr,rfl,_⟩;simp only at hr;subst hr;exact aA q
end
end SetV
namespace SetV
open PySem PySem.Spec PyProof.Rows SetW L2
set_option maxRecDepth 100000
structure GT (t:SetTable):Prop where
 g:Good t
 m:(t.mask=7/\t.place.size<5)\/(t.mask=31/\t.place.size<19)\/(t.mask=127/\t.place.size<77)
 b:∀ j∈t.place.toList,j<=t.mask
def GT.mask {t:SetTable}(x:GT t):Mask t.mask:=x.m.elim (λz=>.inl z.1) λz=>.inr (z.elim (λz=>.inl z.1) λz=>.inr z.1)
def GT.free {t:SetTable}(x:GT t):∃ y,y<=t.mask/\t.slot y=.empty:=by
 obtain ⟨y,h1,h2⟩:=Gw (l:=t.place.toList) (m:=t.mask+1) (by
  rw[bH];rcases x.m with ⟨a,b⟩|⟨a,b⟩|⟨a,b⟩<;>lia)
 exact #[y,by lia,Gx x.g h2]
def GA {t:SetTable}(g:Good t){f:Nat->Int}{h:Int}{p:SetTable.Probe}{M:Option SetTable.Met}(e:t.probe f h p=M){n:Nat}(hn:n<10*SetTable.turns t.mask)(hd:p.dummy=none)(he:t.slot (advN t n p).j=.empty) :
  ∃ met,M=some met/\((∃ m,m<=n/\met=.empty (advN t m p).j none/\t.slot (advN t m p).j=.empty)\/∃ i m,m<n/\met=.candidate (advN t m p).j i (advN t (m+1) p)/\t.slot (advN t m p).j=.live i):=by
 obtain ⟨met,z,r⟩:=Aw g (f:=f) (h:=h) n _ p hn hd he;exact #[met,e.symm.trans z,r]
def AG (t:SetTable):∀(n:Nat) (p:SetTable.Probe),(advN t n p).dummy=p.dummy
 | 0,p=>rfl
 | n+1,p=>by
  show (advN t n (t.advance p)).dummy=_;rw[AG t n,Ah]
section
variable {prog:Program}{w:World}{A:Around}{E:Value->Shared->Prop}{s:Shared}
structure TB (h:Heap)(es:Array (Int×Value))(τ:List Addr)(t:SetTable)(L:Bool):Prop where
 perm:(es.toList.map (·.2)).Perm (τ.map Value.ref)
 pr:∀ b∈τ,∃ y,Pr h b y
 fits:t.fits es.size=true
 gt:GT t
 led:t.led=L
def TB.at {h:Heap}{es:Array (Int×Value)}{τ:List Addr}{t:SetTable}{L:Bool}(B:TB h es τ t L){e:Int×Value}(he:e∈es.toList):∃ b y,e.2=.ref b/\Pr h b y/\b∈τ:=by
 have:=B.perm.mem_iff.mp (bA.mpr #[e,he,rfl]);obtain ⟨b,hb,z⟩:=bA.mp this;obtain ⟨y,hy⟩:=B.pr b hb;exact #[b,y,z.symm,hy,hb]
def AH {y v:Int×Int}(e:([.inl y.1,.inl y.2]:List Key)=[.inl v.1,.inl v.2])(p:Pr h b y):Pr h b v:=by
 have h1:=List.cons.inj e;have h2:=List.cons.inj h1.2;have e1:y.1=v.1:=Sum.inl.inj h1.1;have e2:y.2=v.2:=Sum.inl.inj h2.1;rwa[show y=v from Prod.ext e1 e2]at p
def AI {d:Addr}{o:Obj}{es:Array (Int×Value)}{ep:Nat}{t:SetTable}{τ:List Addr}{L:Bool}(ho:s.heap.get? d=some o)(hd:o.data=.set es ep t)(B:TB s.heap es τ t L)(px:Pr s.heap x v)(hu:A.units<cLine){h:Int}
  {Q:SetFound->Shared->Prop} (q1:(∃ b∈τ,Pr s.heap b v)->Q (.there none) s) (q2:∀ j,t.slot j=.empty->j<=t.mask->Q (.free j false) s) :
  ∀(F n:Nat) (p:SetTable.Probe) (st:Option SetTable.Probe),st.getD (t.probeStart h)=p->n<F->n<=10*(13+t.mask)->p.dummy=none->InR t p->t.slot (advN t n p).j=.empty->wpAny (model prog w) A (setSearchFrom d (.ref x) h true F st) Q E s
 | 0,n,p,_,_,hn,_,_,_,_=>by lia
 | F+1,n,p,st,hst,hn,hb,hpd,hin,he=>by
  unfold setSearchFrom;refine ao (wpAny_setState_of ho hd B.fits ?_);dsimp only;refine wpAny_ite_split (λz=>absurd z ?_) (λ_=>?_)
  .unfold SetTable.gaveWay;rcases B.gt.mask with e|e|e<;>rw[e]<;>decide
  rw[hst];generalize hM:t.probe _ h p=M;obtain ⟨met,rfl,r⟩:=GA B.gt.g hM (n:=n) (by show n<10*(t.mask+15);lia) hpd he;dsimp only;rcases r with ⟨m,h1,rfl,h3⟩|⟨i,m,h1,rfl,h3⟩
  .exact aA (q2 _ h3 (by have:=(hin.advN m).1;lia))
  .dsimp only;have hi:t.place[i]?=some (advN t m p).j/\i<es.size:=by
    unfold SetTable.slot at h3;dsimp only at h3;split at h3
    .rename_i z;cases h3
     have z:=beq_iff_eq.mp z;have z2:=(Array.getElem?_eq_some_iff.mp z).1;have:=B.fits;simp only[SetTable.fits,d9,beq_iff_eq]at this;exact #[z,by lia]
    .split at h3<;>cases h3
   have hes:es[i]?=some es[i]:=eK hi.2;obtain ⟨b,y,hy,py,hbt⟩:=B.at (e:=es[i]'hi.2) (Array.getElem_mem_toList hi.2);have sm:t.sameMemory t.moves t.mask=some true:=by
    unfold SetTable.sameMemory;rw[ae (by simp)]
   have ne:t.slot (advN t (n-(m+1)) (advN t (m+1) p)).j=.empty:=by
    rw[<-uC,show m+1+(n-(m+1))=n by lia];exact he
   have again:=AI ho hd B px hu (h:=h) q1 q2 F (n-(m+1)) (advN t (m+1) p) (some _) rfl (by lia) (by lia) (by rw[AG];exact hpd) (hin.advN (m+1)) ne;refine wpAny_ite_split (λ_=>ao (Gz px (λu hu'=>?_) ?_)) (λ_=>?_)
   .obtain ⟨e,he',rfl⟩:=bA.mp hu';rw[Array.toList_filter]at he';obtain ⟨b',y',z1,z2,_⟩:=B.at (eJ.mp he').1;exact #[b',y',z1,z2]
   .rw[af cm];rw[hes];generalize es[i]=e0 at hes hy;obtain ⟨hh,vv⟩:=e0;have hy:vv=.ref b:=hy;subst hy;dsimp only;refine ao (wpAny_holding ((tupleKind (bB prog w)).eqBool hu py.key px.key ?_));refine ao (wpAny_setState_of ho hd B.fits ?_);dsimp only;cases hq:decide (([.inl y.1,.inl y.2]:List Key)=[.inl v.1,.inl v.2]) with
    | true=>exact aA (q1 #[b,hbt,AH (bM hq) py])
    | false=>
     rw[af (by decide),sm];dsimp only;rw[ae rfl,h3];dsimp only;rw[hes];dsimp only;refine ao (wpAny_isSame_ref_self ?_);exact ao (aA again)
   .rw[hes];generalize es[i]=e0 at hes hy;obtain ⟨hh,vv⟩:=e0;have hy:vv=.ref b:=hy;subst hy;dsimp only;refine ao (wpAny_holding ((tupleKind (bB prog w)).eqBool hu py.key px.key ?_));refine ao (wpAny_setState_of ho hd B.fits ?_);dsimp only;cases hq:decide (([.inl y.1,.inl y.2]:List Key)=[.inl v.1,.inl v.2]) with
    | true=>exact aA (q1 #[b,hbt,AH (bM hq) py])
    | false=>
     rw[af (by decide),sm];dsimp only;rw[ae rfl,h3];dsimp only;rw[hes];dsimp only;refine ao (wpAny_isSame_ref_self ?_);exact ao (aA again)
end
end SetV
namespace SetV
open PySem PySem.Spec PyProof.Rows SetW L2
set_option maxRecDepth 100000
def AJ {α:Type}(xs:Array α)(p:Nat)(x:α):(SetTable.insertAt xs p x).size=xs.size+1:=by
 have:=(SetTable.insertAt_perm xs p x).length_eq;simpa using this
def GB {xs:Array Nat}{p x j:Nat}(h:j∈(SetTable.insertAt xs p x).toList):j∈xs.toList\/j=x:=by
 have:=(SetTable.insertAt_perm xs p x).mem_iff.mp h;simpa using this
def GC {t:SetTable}(x:GT t){j:Nat}(hj:t.slot j=.empty)(hm:j<=t.mask):Good (t.put j).1/\(t.put j).1.mask=t.mask/\(t.put j).1.place.size=t.place.size+1/\(t.put j).1.led=t.led/\(∀ i∈(t.put j).1.place.toList,i<=t.mask)/\(t.put j).1.fits (t.place.size+1)=true:=by
 have hn:=(Ag x.g j).2 hj;have hdm:(t.put j).1.dummies=(List.toArray []):=by
  show (if SetTable.has t.dummies j then _ else t.dummies)=(List.toArray [])
  rw[x.g.no,SetW.has_none];rfl
 have hsz:(t.put j).1.place.size=t.place.size+1:=AJ ..;refine #[#[Gf x.g.up hn,hdm],rfl,hsz,rfl,λi hi=>?_,?_]
 .rcases GB hi with z|z
  .exact x.b i z
  .omega
 .have hf:(t.put j).1.fill=t.place.size+1:=by
   unfold SetTable.fill;rw[hdm,hsz];rfl
  simp only[SetTable.fits,d9,beq_iff_eq,decide_eq_true_eq];refine #[hsz,?_];rw[hf];show t.place.size+1<=t.mask;rcases x.m with ⟨a,b⟩|⟨a,b⟩|⟨a,b⟩<;>lia
def live (M:Nat)(o:Array (Option Nat)):List (Nat×Nat):=(List.range (M+1)).filterMap λj=>(o.getD j none).map (j,·)
def AK {M:Nat}{o:Array (Option Nat)}(h:o.size=M+1):(live M o).map (·.2)=o.toList.filterMap id:=by
 have e:o.toList=(List.range (M+1)).map λj=>o.getD j none:=by
  apply List.ext_getElem
  .simp[h]
  .intro i h1 h2;have:i<o.size:=by simpa using h1
   simp[this]
 rw[e,List.filterMap_map];unfold live;rw[List.map_filterMap];congr 1
 funext j
 show Option.map _ (Option.map _ (o.getD j none))=o.getD j none;cases o.getD j none<;>rfl
def GD (M:Nat)(o:Array (Option Nat)):Up1 ((live M o).map (·.1))/\∀ j∈(live M o).map (·.1),j<=M:=by
 constructor
 .refine iM.mpr (List.pairwise_filterMap.mpr (List.pairwise_lt_range.imp λ{a b} hab x hx y hy=>?_));obtain ⟨_,_,rfl⟩:=eZ.mp hx;obtain ⟨_,_,rfl⟩:=eZ.mp hy;exact hab
 .intro j hj;obtain ⟨x,hx,rfl⟩:=bA.mp hj;obtain ⟨i,hi,e⟩:=sx.mp hx;obtain ⟨_,_,rfl⟩:=eZ.mp e;have:=cZ.mp hi;show i<=M;lia
def GE {g:Nat}(hM:Mask M){t:SetTable}{es:Array (Int×Value)}(hg:SetTable.sizeAbove g-1=M)(h:(M=7/\es.size<5)\/(M=31/\es.size<19)\/(M=127/\es.size<77)):∃ t' order,t.relaid (es.map (·.1)) g=some (t',order)/\GT t'/\t'.led=t.led/\t'.fits es.size=true/\(order.filterMap (es[·]?)).toList.Perm es.toList:=by
 have hlt:es.size<M+1:=by rcases h with ⟨a,b⟩|⟨a,b⟩|⟨a,b⟩<;>lia
 obtain ⟨owner,h1,h2,h3⟩:=Gy hM (es.map (·.1)) (by rw[Array.size_map];exact hlt);rw[Array.size_map]at h3;have hl:(live M owner).length=es.size:=by
  rw[<-aq (f:=(·.2)),AK h2,h3.length_eq,cq]
 obtain ⟨u1,u2⟩:=GD M owner;have hsz:((live M owner).map (·.1)).toArray.size=es.size:=by simp[hl]
 refine #[{ mask:=M,place:=((live M owner).map (·.1)).toArray,dummies:=(List.toArray []),finger:=t.finger,led:=t.led,moves:=t.movedTo M,plain:=t.plain },((live M owner).map (·.2)).toArray,?_,#[#[u1,rfl],?_,u2],rfl,?_,?_]
 .unfold SetTable.relaid SetTable.laid;rw[hg,h1];rfl
 .show (M=7/\((live M owner).map (·.1)).toArray.size<5)\/(M=31/\((live M owner).map (·.1)).toArray.size<19)\/(M=127/\((live M owner).map (·.1)).toArray.size<77);rw[hsz];exact h
 .simp only[SetTable.fits,SetTable.fill,d9,beq_iff_eq,decide_eq_true_eq];simp[hl];lia
 .rw[Array.toList_filterMap];show (((live M owner).map (·.2)).filterMap λi=>es[i]?).Perm es.toList;rw[AK h2];refine (h3.filterMap _).trans ?_;rw[filterMap_getElem?_range]
end SetV
namespace SetV
open PySem PySem.Spec PyProof.Rows SetW L2
set_option maxRecDepth 100000
section
variable {prog:Program}{w:World}{A:Around}{E:Value->Shared->Prop}{s:Shared}{a:Addr}{L:Bool}
def gn (h:Heap)(a:Addr)(τ:List Addr)(L:Bool):Prop:=∃ o es ep t,h.get? a=some o/\o.ExactSet/\o.data=.set es ep t/\TB h es τ t L
def uF {h:Heap}{a:Addr}{o:Obj}(ho:h.get? a=some o)(hx:o.ExactSet)(p:Pr h b y):b≠a:=λz=>by
 obtain ⟨ob,n,t1,t2,h1,h2,_⟩:=p;rw[z,ho]at h1;cases h1
 rw[hx.1]at h2;exact absurd h2 (by decide)
def gn.keep {h':Heap}{τ:List Addr}(x:gn h a τ L)(k:∀ b o,b=a\/b∈τ->h.get? b=some o->h'.get? b=some o):gn h' a τ L:=by
 obtain ⟨o,es,ep,t,ho,hx,hd,B⟩:=x;exact #[o,es,ep,t,k a o (.inl rfl) ho,hx,hd,B.perm,λb hb=>by
  obtain ⟨y,hy⟩:=B.pr b hb;exact #[y,hy.keep λo e=>k b o (.inr hb) e],B.fits,B.gt,B.led]
def AL {h:Heap}{o:Obj}{es es':Array (Int×Value)}{ep:Nat}{t t':SetTable}(ho:h.get? a=some o)(hd:o.data=.set es ep t) :
  (h.update a (Obj.putSet es' t')).get? a=some { o with data:=.set es' (ep+1) t' }:=by
 have g:=sH (Obj.putSet es' t') ho (by rw[putSet_of es' t' hd];rfl);rw[putSet_of es' t' hd]at g;exact g
def addT {τ:List Addr}{h:Int}{Q:Bool->Shared->Prop}(hS:gn s.heap a τ L)(px:Pr s.heap x v)(hu:A.units<cLine)(hlen:τ.length<76)
  (q:∀ h' b τ',Heap.SameBut a s.heap h'->gn h' a τ' L->((τ'=τ/\∃ b∈τ,Pr s.heap b v)\/τ'=τ++[x])->Q b { s with heap:=h' }) :
  wpAny (model prog w) A (setAddHashed a (.ref x) h) Q E s:=by
 obtain ⟨o,es,ep,t,ho,hx,hd,B⟩:=hS;have hsz:es.size=τ.length:=by
  have:=B.perm.length_eq;simpa using this
 have hpl:t.place.size=es.size:=by
  have:=B.fits;simp only[SetTable.fits,d9,beq_iff_eq]at this;exact this.1
 unfold setAddHashed setAddHashedIn;refine wpAny_holding (ao (wpAny_setState_of ho hd B.fits ?_));dsimp only;rw[af (show ¬ byScan (.ref x) es=true by simp[byScan,Value.scannable])];obtain ⟨y,hy1,hy2⟩:=B.gt.free;obtain ⟨n,hn1,hn2⟩:=dist B.gt.mask (x:=(SetTable.bits h%(t.mask+1),SetTable.bits h)) (d:=none) (dA (fe _ (dR _))) (AA h) hy1;have hin:InR t (t.probeStart h):=#[Ax (dA (fe _ (dR _))),dA (fe _ (dR _))];have hmk:t.mask<=127:=by
  rcases B.gt.mask with e|e|e<;>lia
 refine ao ?_;unfold setSearch;refine AI ho hd B px hu (λh0=>?_) (λj hj1 hj2=>?_) 100000 n (t.probeStart h) none rfl (by lia) hn1 rfl hin (by
  show t.slot (advN t n (jS t (SetTable.bits h%(t.mask+1),SetTable.bits h) none)).j=.empty;rw[hn2];exact hy2)
 .exact aA (q s.heap false τ (Heap.SameBut.refl a s.heap) #[o,es,ep,t,ho,hx,hd,B] (.inl #[rfl,h0]))
 .dsimp only;refine ao (wpAny_setState_of ho hd B.fits ?_);dsimp only;obtain ⟨p1,p2,p3,p4,p5,p6⟩:=GC B.gt hj1 hj2;have pp:(SetTable.insertAt es (t.put j).2 (h,Value.ref x)).toList.Perm (es.push (h,Value.ref x)).toList:=SetTable.insertAt_perm ..;have ps:(SetTable.insertAt es (t.put j).2 (h,Value.ref x)).size=es.size+1:=AJ ..;have pv:((SetTable.insertAt es (t.put j).2 (h,Value.ref x)).toList.map (·.2)).Perm ((τ++[x]).map Value.ref):=by
   refine (pp.map _).trans ?_;rw[jt,bq,bq];exact B.perm.append (List.Perm.refl _)
  rw[hpl]at p3 p6;generalize hT1:(t.put j).1=t1 at p1 p2 p3 p4 p5 p6;generalize hE1:SetTable.insertAt es (t.put j).2 (h,Value.ref x)=es1 at pp ps pv;have hf1:t1.fill=es.size+1:=by
   unfold SetTable.fill;rw[p1.no,p3];rfl
  have step:wpAny (model prog w) A (storeSet a es1 t1 >>= λ_=>if (!false&&t1.tooFull)=true then (setRelay a (SetTable.grown (es.size+1)) >>= λ_=>pure true) else pure true) Q E s:=by
   refine ao (wpAny_storeSet_of ho hd ?_ (fits_of_scanBound (by unfold scanBound;lia)));have g1:=AL (es':=es1) (t':=t1) ho hd;have sb:=Heap.SameBut.update s.heap a (Obj.putSet es1 t1);have pr1:∀ b∈τ++[x],∃ y,Pr (s.heap.update a (Obj.putSet es1 t1)) b y:=λb hb=>by
    rcases bp.mp hb with z|z
    .obtain ⟨y,hy⟩:=B.pr b z;exact #[y,hy.keep λob e=>by rw[sb.2 b (uF ho hx hy)];exact e]
    .rw[aQ.mp z];exact #[v,px.keep λob e=>by rw[sb.2 x (uF ho hx px)];exact e]
   have hx1:({ o with data:=.set es1 (ep+1) t1 }:Obj).ExactSet:=hx;generalize s.heap.update a (Obj.putSet es1 t1)=h1 at g1 sb pr1 ⊢;rw[<-ps]at p6;refine wpAny_ite_split (λz=>?_) (λz=>?_)
   .have z:t1.tooFull=true:=z;unfold SetTable.tooFull at z;have z:=bM z;rw[hf1,p2]at z;have e5:∃ g M,SetTable.grown (es.size+1)=g/\Mask M/\SetTable.sizeAbove g-1=M/\¬ SetTable.sizeAbove g>sizeLine/\((M=7/\es1.size<5)\/(M=31/\es1.size<19)\/(M=127/\es1.size<77)):=by
     rcases B.gt.m with ⟨m1,m2⟩|⟨m1,m2⟩|⟨m1,m2⟩
     .rw[m1]at z;refine #[20,31,by rw[show es.size+1=5 by lia];decide,.inr (.inl rfl),by decide,by rw[sizeLine_eq];decide,.inr (.inl #[rfl,by lia])]
     .rw[m1]at z;refine #[76,127,by rw[show es.size+1=19 by lia];decide,.inr (.inr rfl),by decide,by rw[sizeLine_eq];decide,.inr (.inr #[rfl,by lia])]
     .rw[m1]at z;lia
    obtain ⟨g,M,eg,hM,hg,hgl,hc⟩:=e5;obtain ⟨t2,order,r1,r2,r3,r4,r5⟩:=GE (t:=t1) (es:=es1) hM hg hc;rw[eg];refine ao ?_;unfold setRelay;refine ao (wpAny_setState_of (s:={ s with heap:=h1 }) g1 rfl p6 ?_);dsimp only;rw[af hgl,r1];have sz2:(order.filterMap (es1[·]?)).size=es1.size:=by
     rw[<-bH,r5.length_eq,bH]
    refine ao (?_:wpAny _ _ (if ((order.filterMap (es1[·]?)).size != es1.size)=true then _ else pure (order.filterMap (es1[·]?),t2)) _ _ _)
    rw[af (by rw[sz2];simp)];refine aA ?_;dsimp only;refine wpAny_storeSet_of (s:={ s with heap:=h1 }) g1 rfl ?_ (fits_of_scanBound (by unfold scanBound;lia));have g2:=AL (h:=h1) (es':=order.filterMap (es1[·]?)) (t':=t2) g1 rfl;have sb2:=Heap.SameBut.update h1 a (Obj.putSet (order.filterMap (es1[·]?)) t2);refine aA (q _ true (τ++[x]) (sb.trans sb2) #[_,_,_,_,g2,hx,rfl,(r5.map _).trans pv,λb hb=>?_,by rw[sz2];exact r4,r2,r3.trans (p4.trans B.led)] (.inr rfl));obtain ⟨y,hy⟩:=pr1 b hb;exact #[y,hy.keep λob e=>by rw[sb2.2 b (uF g1 hx1 hy)];exact e]
   .have z:¬ t1.tooFull=true:=z;unfold SetTable.tooFull at z;have z:¬ t1.fill*5 >= t1.mask*3:=λy=>z (aX y);rw[hf1,p2]at z;refine aA (q h1 true (τ++[x]) sb #[_,es1,_,t1,g1,hx,rfl,pv,pr1,p6,#[p1,?_,λi hi=>by rw[p2];exact p5 i hi],p4.trans B.led] (.inr rfl));rw[p2,p3];rcases B.gt.m with ⟨m1,m2⟩|⟨m1,m2⟩|⟨m1,m2⟩
    .rw[m1]at z;exact .inl #[m1,by lia]
    .rw[m1]at z;exact .inr (.inl #[m1,by lia])
    .exact .inr (.inr #[m1,by lia])
  refine wpAny_ite_split (λ_=>ao (hbv px ?_)) (λ_=>ao (aA ?_))
  .exact step
  .exact step
end
end SetV
namespace SetV
open PySem PySem.Spec PyProof.Rows SetW L2
set_option maxRecDepth 100000
section
variable {prog:Program}{w:World}{A:Around}{R:Result->Shared->Prop}{I:Addr}{fp wr:List Addr}{G:Array GenState->Array GenState->Prop}{n:Nat}{P:Nat->Value->Prop}{St:Nat->Shared->Prop}{L:Bool}
def GF (p:Pr h b x)(q:Pr h b y):x=y:=by
 obtain ⟨o,n,t1,t2,h1,_,h3⟩:=p;obtain ⟨o',n',t1',t2',h1',_,h3'⟩:=q;rw[h1]at h1';cases h1'
 rw[h3]at h3';obtain ⟨x1,x2⟩:=x;obtain ⟨y1,y2⟩:=y;injection h3' with h4 _;have h5:=congrArg Array.toList h4;injection h5 with a1 a2;injection a2 with a3 _;injection a1 with a4 _;injection a3 with a5 _;exact Prod.ext a4 a5
def GG (W:WalksS prog w A.in1 I fp wr G n P St)(S:Addr)(hSf:S∉fp)(hu:A.in1.units<cLine){f:Nat->Int×Int}(hP:∀ i v,P i v->∃ tp,v=.ref tp/\tp≠S/\tp∉wr/\Pr h0 tp (f i))(hf:∀ i j,i<n->j<n->f i=f j->i=j)(hb:n<=76) :
  ∀(k i:Nat) (s:Shared) (τ:List Addr),n-i=k->i<=n->St i s->(∀ b o,b≠S->b∉wr->h0.get? b=some o->s.heap.get? b=some o)->gn s.heap S τ L->τ.length=i->(∀ b∈τ,b∉wr/\b≠S/\∃ j,j<i/\P j (.ref b))->
   (∀ s' τ',Moved (S::wr) G s s'->gn s'.heap S τ' L->τ'.length=n->R (.ok (.ret .none)) s')->codeAny (model prog w) A (.builtin "set.update.loop" #[[.ref S,.ref I],[]]) R s:=by
 have hSw:S∉wr:=λh=>hSf (W.sub _ h);have up:∀ b∈wr,b∈S::wr:=λb hb=>bG _ hb;intro k
 induction k with
 | zero=>
  intro i s τ hk hi st kp x hl hm q;have e:i=n:=by lia
  subst e;refine codeAny_builtin F.entry_set_update_loop ?_;rw[Around.under_plainId F.plain_set_update_loop _];show wpAny _ A.in1 (pyNext (.ref I) >>= _) _ _ s;refine ao (W.done s _ _ st λs' mv=>?_);show wpAny _ A.in1 (ret Value.none) _ _ s';refine aA (q s' τ (mv.mono up) (x.keep λb o hb e=>mv.heap b o ?_ e) hl);rcases hb with rfl|hb
  .exact hSw
  .exact (hm b hb).1
 | succ k ih=>
  intro i s τ hk hi st kp x hl hm q;have hlt:i<n:=by lia
  refine codeAny_builtin F.entry_set_update_loop ?_;rw[Around.under_plainId F.plain_set_update_loop _];show wpAny _ A.in1 (pyNext (.ref I) >>= _) _ _ s;refine ao (W.item i s _ _ hlt st λv s' hPi st' mv=>?_);obtain ⟨tp,rfl,n1,n2,py⟩:=hP i v hPi;have py':Pr s'.heap tp (f i):=py.keep λo e=>mv.heap tp o n2 (kp tp o n1 n2 e);have x':gn s'.heap S τ L:=x.keep λb o hb e=>mv.heap b o (by
   rcases hb with rfl|hb
   .exact hSw
   .exact (hm b hb).1) e
  show wpAny _ A.in1 (holding [Value.ref tp] (setAdd S (.ref tp)) >>= _) _ _ s';refine ao (wpAny_holding ?_);unfold setAdd;refine wpAny_holding (ao ((tupleKind (bB prog w)).pyHash hu py'.key ?_));generalize hk9:s'.toks+(tupleKind (bB prog w)).draws [Sum.inl (f i).1,Sum.inl (f i).2]=tk9;have htk:s'.toks<=tk9:=by
   rw[<-hk9];exact cA _ _
  refine addT (s:={ s' with toks:=tk9 }) x' py' hu (by lia) λh' _ τ2 sb x2 c=>?_;have c:τ2=τ++[tp]:=by
   rcases c with ⟨_,b,hb1,hb2⟩|c
   .exfalso;obtain ⟨m1,m2,j,hj,hPj⟩:=hm b hb1;obtain ⟨tp',e,_,_,pj⟩:=hP j _ hPj;cases e
    have pj':Pr s'.heap b (f j):=pj.keep λo e=>mv.heap b o m1 (kp b o m2 m1 e);have:=hf j i (by lia) hlt (GF pj' hb2);lia
   .exact c
  subst c;refine aA #[plainId_quiet F.plain_set_update_loop _,ih (i+1) _ (τ++[tp]) (by lia) hlt (W.frame _ s' _ _ st' htk λb hb o e=>?_) (λb o m1 m2 e=>?_) x2 (by rw[bc,hl];rfl) (λb hb=>?_) λs'' τ3 mv'' x3=>?_]
  .rw[sb.2 b (λh:b=S=>hSf (by rw[<-h];exact hb))];exact e
  .rw[sb.2 b m1];exact mv.heap b o m2 (kp b o m1 m2 e)
  .rcases bp.mp hb with z|z
   .obtain ⟨a1,a2,j,a3,a4⟩:=hm b z;exact #[a1,a2,j,by lia,a4]
   .rw[aQ.mp z];exact #[n2,n1,i,jx _,hPi]
  .refine q s'' τ3 (Moved.trans W.gtrans ((mv.mono up).then_heap htk λb o hb e=>?_) mv'') x3;rw[sb.2 b (λh:b=S=>hb (by rw[h];exact bx))];exact e
end
end SetV
namespace SetV
open PySem PySem.Spec PyProof.Rows SetW L2
section
variable {prog:Program}{w:World}{A:Around}{E:Value->Shared->Prop}{s:Shared}
set_option maxRecDepth 100000 in
set_option maxHeartbeats 3200000 in
def of_listT {l:Addr}{items:Array Value}{Q:Value->Shared->Prop}(hh:A.handled=none)(hu:A.units+8<cLine)(hl:s.heap.IsList l items){f:Nat->Int×Int}(hi:∀(i:Nat) v,items[i]?=some v->∃ tp,v=.ref tp/\Pr s.heap tp (f i))(hf:∀ i j,i<items.size->j<items.size->f i=f j->i=j)(hb:items.size<=76)
  (h:∀(h':Heap) (tk:Nat) (τ:List Addr),gn h' s.heap.objs.size τ (!w.params.followText "set-order")->τ.length=items.size->
   (∀ b o,b<s.heap.objs.size->s.heap.get? b=some o->h'.get? b=some o)->Q (.ref s.heap.objs.size) { s with heap:=h',toks:=tk }) :
  wpAny (model prog w) A (call (.type "set") [.ref l]) Q E s:=by
 obtain ⟨c,tl,hmro⟩:=F.called_set.mro;have hmade:=F.called_set.made;have hsub:=F.called_set.sub;refine wpAny_call (codeAny_of_tree ?_);show wpAny _ _ (callAny (.type "set") _) _ _ _;refine aA #[Code.quiet_builtin _ (by decide +kernel),codeAny_builtin F.entry_type_call ?_];rw[Around.under_plain (weight_type_call_type "set" [.ref l] []) rfl];have h1:=F.called_set.notType;have h2:=F.called_set.canCreate;have hct:=F.typeCall_set_1 (.ref l)
 repeat (any_goals (first|assumption|wp_step))
 refine codeAny_mono (Gg (.ref l) (E:=E) (Q₁:=λobj s₁=>obj=.ref s.heap.objs.size/\s₁={ s with heap:=s.heap.push (nu w) }) #[rfl,rfl]) λr s₁ hr=>?_;cases r with
 | error e=>exact hr
 | ok fl=>
  cases fl with
  | ret obj=>
   obtain ⟨rfl,rfl⟩:=hr;have hS:(s.heap.push (nu w)).get? s.heap.objs.size=some (nu w):=cQ _ rfl;have hT:Shared.TypeIs { s with heap:=s.heap.push (nu w) } (.ref s.heap.objs.size) "set":=#[_,hS,rfl];have hli:=F.called_set.init.lookup;have hbi:=F.called_set.init.bind (.ref s.heap.objs.size)
   repeat (any_goals (first|assumption|wp_step))
   refine codeAny_mono (codeAny_call_builtin (R:=wants (λr s₂=>r=.none/\∃ h' tk τ,s₂={ s with heap:=h',toks:=tk }/\
     gn h' s.heap.objs.size τ (!w.params.followText "set-order")/\τ.length=items.size/\
     (∀ b o,b<s.heap.objs.size->s.heap.get? b=some o->h'.get? b=some o)) E) F.called_set.init.plain F.entry_set_init (check_set_init_1 hT ?_)) λr₂ s₂ hr₂=>?_
   .obtain ⟨ol,hol,hcl,nl,hdl⟩:=hl;obtain ⟨ocls,odict,odata,oslots⟩:=ol;simp only at hcl hdl;subst hcl;subst hdl;have there:(s.heap.push (nu w)).get? l=some { cls:=.type "list",dict:=odict,data:=.seq items nl,slots:=oslots }:=aR _ hol;have hsls:=F.sub_list_set;have hslf:=F.sub_list_frozenset;have hne:(Value.type "list" == Value.type "dict")=false:=by decide
    have hl1:(s.heap.push (nu w)).IsList l items:=#[_,there,rfl,nl,rfl];unfold Builtin.«set.__init__» noKeywords Builtin.Frozenset.updateFrom;generalize hPI:pyIter=PI
    wp_walk
    subst hPI;refine wpAny_pyIter_list hl1 ?_;refine ao (wpAny_runValue ?_);have hlS:l<s.heap.objs.size:=aK hol;have h3:A.in1.in1.in1.handled=none:=by simp[hh]
    have hsz:(s.heap.push (nu w)).objs.size=s.heap.objs.size+1:=jw ..;have hneI:l≠(s.heap.push (nu w)).objs.size:=by
     rw[hsz];exact bo (nB hlS)
    have hSf:s.heap.objs.size∉[(s.heap.push (nu w)).objs.size,l]:=by
     rw[hsz];simp only[aW,dU,or_false,not_or];exact #[bo (jx _),iD hlS]
    have hPt:∀(i:Nat) (v:Value),items[i]?=some v->∃ tp,v=.ref tp/\tp≠s.heap.objs.size/\tp∉[(s.heap.push (nu w)).objs.size]/\Pr s.heap tp (f i):=λi v hv=>by
     obtain ⟨tp,e1,e2⟩:=hi i v hv;have htp:tp<s.heap.objs.size:=by
      obtain ⟨o,n,t1,t2,h1,_⟩:=e2;exact aK h1
     refine #[tp,e1,bo htp,λz=>?_,e2];rw[aQ.mp z,hsz]at htp;exact absurd htp (g8.mpr (dm _))
    refine GG (L:=!w.params.followText "set-order") (h0:=s.heap) ((Walks.list h3 _ l hneI items).toS) s.heap.objs.size
     hSf (by show A.units+1+1+1<cLine;lia) hPt hf hb (items.size-0) 0 _ [] (by lia) (bK _)
     #[#[_,cQ _ rfl,rfl,rfl],(hl1.push _)] (λb o _ _ e=>aR _ (aR _ e)) ?hS0 rfl (λb hb=>by cases hb) ?hR
    case hS0=>
     exact #[_,(List.toArray []),0,_,aR _ hS,#[rfl,rfl,rfl],rfl,#[List.Perm.refl _,(λb hb=>by cases hb),by rfl,#[#[List.Pairwise.nil,rfl],.inl #[rfl,by show 0<5;decide],(λj hj=>by cases hj)],rfl]]
    case hR=>
     intro s' τ hm hS' hle;obtain ⟨h',g',d',tk',os'⟩:=s';have eg:g'=s.gens:=hm.gens;have ed:d'=s.drawn:=hm.drawn;have eo:os'=s.os:=hm.os;subst eg;subst ed;subst eo;show wpAny _ _ _ _ _ _;refine aA ?_;show wpAny _ _ (ret Value.none) _ _ _;refine aA #[rfl,h',tk',τ,rfl,hS',hle,λb o hb e=>?_];refine hm.heap b o ?_ (aR _ (aR _ e));rw[hsz];simp only[aW,dU,or_false,not_or];exact #[bo hb,bo (nB hb)]
   .cases r₂ with
    | error e=>exact hr₂
    | ok fl₂=>
     cases fl₂ with
     | ret r=>
      obtain ⟨rfl,h',tk,τ,rfl,hS',hle,hk'⟩:=hr₂
      repeat (any_goals (first|assumption|wp_step))
      exact h _ _ τ hS' hle hk'
     | _=>exact hr₂.elim
  | _=>exact hr.elim
end
end SetV
namespace L2
open PySem PySem.Spec PyProof.Rows
def AM (o:Obj)(n:Nat):Prop:=o.ExactSet/\∃ es ep t,o.data=.set es ep t/\es.size=n/\t.fits es.size=true
inductive AN (K:Frag)(xs:List V)(H:Hp)(Q:VK):Prop
 | c:∀(p:Addr) (ps:List (Int×Int)) (vs:List V),xs=[.ref p]->SqL K H p vs->aB K H ps vs->ps.length<=76->ps.Nodup->(∀ l o,H l=none->AM o ps.length->Q (.ref l) (upd H l (.ext λh=>h.get? l=some o)))->AN K xs H Q
section
variable {X:Cx}
def GH (I:Inv X LB Z H s){e:Int×Int}{u:Value}(h:hasP X.K H e v)(r:RelV v u):∃ tp,u=.ref tp/\SetV.Pr s.heap tp e:=by
 obtain ⟨b,x1,x2,rfl,q,e1,e2⟩:=h;have e1:x1=.int e.1:=e1;have e2:x2=.int e.2:=e2;subst e1 e2;cases r
 obtain ⟨its,rv,p,_⟩:=I.tuple (SqT.of q);obtain ⟨u1,u2,rfl,⟨t1,rfl⟩,⟨t2,rfl⟩⟩:=gI rv;obtain ⟨o,h1,h2,n,h3⟩:=(show s.heap.IsTuple b _ from p);exact #[b,rfl,o,n,t1,t2,h1,h2,h3]
def AO:∀{vs:List V} {us:List Value} {i:Nat} {u:Value},Vals vs us->us[i]?=some u->∃ v,vs[i]?=some v/\RelV v u
 | _,_,_,_,.nil,h=>by simp at h
 | _,_,0,_,.cons r _,h=>#[_,rfl,by rw[<-aJ h];exact r]
 | _,_,i+1,_,.cons _ t,h=>AO (i:=i) t h
def GI (hc:X.calm=true)(hu:X.A.units+8<cLine):cV X (.type "set") (AN X.K):=by
 intro LB s Z H xs us Q I r h;obtain ⟨p,ps,vs,rfl,hq,ha,hz,hn,q⟩:=h;obtain ⟨u,rfl,rx⟩:=fh r;cases rx
 obtain ⟨its,rv,pl,_⟩:=I.list hq;have hl1:=rv.length;have hl2:=ha.length;have hsz:its.toArray.size=ps.length:=by rw[bL];lia
 refine SetV.of_listT (f:=λi=>ps.getD i (0,0)) (I.ok.hd hc) hu pl.isList (λi v hv=>?_) (λi j hi hj e=>?_) (by lia) λh' tk τ hS hle hk=>?_
 .have hv:its[i]?=some v:=by simpa using hv
  obtain ⟨x,hx,rr⟩:=AO rv hv;obtain ⟨e,he,hh⟩:=ha.get hx;obtain ⟨tp,e1,e2⟩:=GH I hh rr;refine #[tp,e1,?_];rw[aE,he];exact e2
 .rw[hsz]at hi hj;have e:ps.getD i (0,0)=ps.getD j (0,0):=e;rw[aE,aE,az hi,az hj]at e;have e:ps[i]=ps[j]:=e;rcases Nat.lt_trichotomy i j with c|c|c
  .exact absurd e (cT.mp hn i j hi hj c)
  .exact c
  .exact absurd e.symm (cT.mp hn j i hj hi c)
 obtain ⟨o,es,ep,t,ho,hx,hd,B⟩:=hS;have hes:es.size=ps.length:=by
  have:=B.perm.length_eq;simp only[aq,bH]at this;lia
 exact #[.ref s.heap.objs.size,_,I.laid (a:=s.heap.objs.size) (o:=.ext λh=>h.get? s.heap.objs.size=some o) (t':=tk) (λb o eb=>hk b o (aK eb) eb) (ai _) #[ho,#[o,ho],λh1 h2 z k=>k o z],rfl,
  q _ o (I.hok.fresh (ai _)) #[hx,es,ep,t,hd,hes,B.fits]]
def GJ:cV X (.builtin "len") (λxs H Q=>∃(p:Addr) (o:Obj) (n:Nat),xs=[.ref p]/\H p=some (.ext λh=>h.get? p=some o)/\AM o n/\n<=1000/\Q (.int n) H):=by
 intro LB s Z H xs us Q I r h;obtain ⟨p,o,n,rfl,hp,⟨hx,es,ep,t,hd,rfl,hf⟩,hn,q⟩:=h;obtain ⟨u,rfl,rx⟩:=fh r;cases rx
 have ho:s.heap.get? p=some o:=(show bD X.prog X.w H s.heap p (.ext λh=>h.get? p=some o) from I.hok p _ hp).1;exact call_len_set ho hx hd hf (by lia) #[.int _,H,I.tok _,#[_,rfl],q]
end
set_option maxRecDepth 100000
def GK:fillsNumberSlot (.type "tuple") "mul" = pure false:=
 PySem.fillsNumberSlot_seq (id := "tuple.__mul__") (r:=some (.builtin "tuple.__rmul__")) PySem.F.slot_tuple_mul.lookup (by decide +kernel) PySem.F.slot_tuple_rmul.lookup (by decide +kernel)
def GL:seqRepeat? (.type "tuple")=pure (some (.builtin "tuple.__mul__")):=by
 unfold seqRepeat?;rw[PySem.seqSlot_of (T := "tuple") (name := "__mul__") (id := "tuple.__mul__") PySem.F.slot_tuple_mul.lookup (by decide +kernel),PySem.seqSlot_of (T := "tuple") (name := "__rmul__") (id := "tuple.__rmul__") PySem.F.slot_tuple_rmul.lookup (by decide +kernel)];rfl
def GM (a:Int)(t:Tok)(l:Addr)(items:Array Value)(n:Nat)(dd:Option Addr)(sl:Array (Option Value)) :
  Meets (Builtin.«int.__rmul__» #[[.int a t,.ref l],[]]) (λ_ R s=>s.heap.get? l=some { cls:=.type "tuple",dict:=dd,data:=.seq items n,slots:=sl }/\R (.ok (.ret Value.notImplemented)) s):=
 .of_wp λprog w A R s h=>by obtain ⟨hp,g,d,tk,os⟩:=s;obtain ⟨hl,h⟩:=h;wp_walk using wpAny_loadPart' hl;exact #[_,rfl,h]
def AQ {x:Value}:∀ n:Nat,(List.replicate n (List.toArray [x])).foldl (· ++ ·) (List.toArray [])=(List.replicate n x).toArray:=by
 have key:∀(n:Nat) (a:List Value),(List.replicate n (List.toArray [x])).foldl (· ++ ·) a.toArray=(a++List.replicate n x).toArray:=by
  intro n
  induction n with
  | zero=>intro a;simp
  | succ n ih=>
   intro a;rw[List.replicate_succ,nA,show a.toArray++(List.toArray [x])=(a++[x]).toArray by simp,ih,List.replicate_succ,dq];rfl
 intro n;exact key n []
def GN (l:Addr)(x:Value)(n:Nat)(dd:Option Addr)(sl:Array (Option Value))(m:Int)(u:Tok)(h1:2<=m)(h2:m<=1000) :
  Meets (Builtin.«tuple.__mul__» #[[.ref l,.int m u],[]]) (λ_ R s=>s.heap.get? l=some { cls:=.type "tuple",dict:=dd,data:=.seq (List.toArray [x]) n,slots:=sl }/\R (.ok (.ret (Value.ref s.heap.objs.size))) { s with heap:=s.heap.push { cls:=Value.type "tuple",data:=Data.seq ((List.replicate m.toNat (List.toArray [x])).foldl (· ++ ·) (List.toArray [])) },toks:=s.toks }):=
 .of_wp λprog w A R s h=>by
  obtain ⟨hp,g,d,tk,os⟩:=s;obtain ⟨hl,h⟩:=h;have f1:=AutoSeq1.idx_int
  wp_walk using wpAny_loadPart' hl
  refine wpAny_ite_false (by simp;lia) ?_
  wp_walk using wpAny_loadPart' hl
  refine wpAny_ite_false (by simp;lia) ?_
  wp_walk using wpAny_loadPart' hl
  refine wpAny_ite_false (by simp;lia) ?_
  wp_walk using wpAny_loadPart' hl
  refine wpAny_ite_false (bj (by show ¬ ((1:Int)*m>_);lia)) ?_
  wp_walk using wpAny_loadPart' hl
  refine wpAny_ite_false (bj λz=>?_) ?_
  .have z:(1:Int)*m>((sizeLine:Nat):Int):=bM z;have e:sizeLine=2^24:=rfl;rw[e]at z;lia
  wp_walk using wpAny_loadPart' hl
  rw[AQ]at h ⊢;refine wpAny_ite_false (bj ?_) ?_
  .rw[bL,cR];have e:sizeLine=2^24:=rfl;lia
  wp_walk
  exact #[_,rfl,h]
section
variable {X:Cx}
inductive uG (K:Frag)(x:V)(y:V)(H:Hp)(Q:VK):Prop
 | c:∀ a v n,x=.ref a->y=.int n->SqT K H a [v]->2<=n->n<=1000->(∀ p,H p=none->Q (.ref p) (upd H p (.tup (List.replicate n.toNat v))))->uG K x y H Q
def GO:OpR X (binaryOp .Mult) (uG X.K):=by
 intro LB s Z H x y v u Q I rx ry h;obtain ⟨a,w,n,rfl,rfl,ha,h1,h2,q⟩:=h;cases rx
 obtain ⟨tk,rfl⟩:=ry;obtain ⟨its,r1,p1,_⟩:=I.tuple ha;obtain ⟨⟨cls,dd,data,sl⟩,ho,hc,m,hd⟩:=id p1;simp only at hc hd;subst hc hd;obtain ⟨u0,rfl,ru⟩:=fh r1;refine wpAny_binaryOp_repeat_ref (T := "tuple") (U := "int") (by decide) #[_,ho,rfl] (λs'=>typeIs_int s' n _) GK PySem.F.fills_int_mul PySem.F.slot_int_rmul GL PySem.F.slot_int_index.lookup
  (call_meets PySem.F.slot_int_rmul (typeIs_int s n _) PySem.F.entry_int_rmul (PySem.F.args_int_rmul_2 _ _) (GM n _ a _ m dd sl)
   #[ho,rfl,#[_,ho,rfl],call_meets PySem.F.slot_tuple_mul #[_,ho,rfl] PySem.F.entry_tuple_mul (PySem.F.args_tuple_mul_2 _ _) (GN a u0 m dd sl n _ h1 h2) #[ho,?_]])
 rw[AQ];refine #[.ref s.heap.objs.size,_,I.laid (t':=s.toks) (o:=.tup (List.replicate n.toNat w)) (λb ob q=>aR _ q) (ai _) ?_,rfl,q _ (I.hok.fresh (ai _))];refine #[?_,_,?_,IsTup.new _ _]
 .rw[cR];have e:sizeLine=2^24:=rfl;lia
 .generalize n.toNat=k
  induction k with
  | zero=>exact .nil
  | succ k ih=>exact .cons ru ih
def GP {K:Frag}(h:X.K=K:=by rfl):OpR X (binaryOp .Mult) (uG K):=by
 subst h;exact GO
end
end L2
set_option maxHeartbeats 4000000
namespace My
open PySem PySem.Spec PyProof.Rows L2
local macro_rules|`(tactic| walk_at "sc") => `(tactic| exact ⟨rfl,rfl,rfl,by decide +kernel,rfl,by decide +kernel,by decide +kernel⟩)
local macro_rules|`(tactic| walk_at "side")=>`(tactic| first|lia|(dsimp only;lia)|(simp only[CDiv,EY,CPow,CMul];lia)|decide)
local macro_rules|`(tactic| walk_at "rd")=>`(tactic| repeat (first|(refine ⟨_,_,rfl,rfl,(by walk_at "side"),?_⟩)|(refine ⟨_,rfl,?_⟩)|(refine ⟨_,_,rfl,rfl,?_⟩)|(refine ⟨rfl,?_⟩)|(refine ⟨(by walk_at "side"),?_⟩)))
def top (i:Nat):Stmt:=PySem.Challenge.pw_bridgefind_k29_searches_beneath_a_knot.main.body.getD i (.Pass #[0,0,0,0])
abbrev oJ:Stmt:=top 2
abbrev oK:Stmt:=top 3
abbrev oM:Stmt:=top 4
abbrev oN:Stmt:=top 7
abbrev oO:Stmt:=top 8
abbrev oP:Stmt:=top 9
abbrev oQ:Stmt:=top 11
abbrev oR:Stmt:=top 12
abbrev oS:Stmt:=top 13
abbrev oT:Stmt:=top 14
abbrev oU:Stmt:=top 15
abbrev oV:Stmt:=top 17
abbrev oW:Stmt:=top 18
abbrev oX:Stmt:=top 20
abbrev oY:Stmt:=top 21
abbrev oZ:Stmt:=top 22
abbrev o4:Stmt:=top 24
abbrev o5:Stmt:=top 25
abbrev o6:Stmt:=top 26
abbrev o7:Stmt:=top 27
abbrev jT:Stmt:=top 30
abbrev o8:Stmt:=top 31
abbrev o9:Stmt:=top 32
abbrev pe:Stmt:=top 34
abbrev ph:Stmt:=top 35
abbrev pk:Stmt:=top 36
abbrev pq:Stmt:=top 37
abbrev pw:Stmt:=top 38
abbrev pz:Stmt:=top 39
abbrev pA:Stmt:=top 40
abbrev pB:Stmt:=top 41
abbrev pC:Stmt:=top 42
abbrev pD:Stmt:=top 43
abbrev pE:Stmt:=top 44
abbrev pF:Stmt:=top 45
abbrev pG:Stmt:=top 46
abbrev pH:Stmt:=top 47
abbrev pI:Stmt:=top 48
abbrev pJ:Stmt:=top 49
abbrev pK:Stmt:=top 50
abbrev pL:Stmt:=top 51
abbrev pM:Stmt:=top 52
abbrev pN:Stmt:=top 53
abbrev pO:Stmt:=top 54
abbrev pP:Stmt:=top 55
abbrev jU:Stmt:=top 56
def uH:aU ["entry","key","z"] ["entry"] (aI oJ):=by walk_at "sc"
def jV:aU ["length","is_below","low","high","middle"] ["length","is_below"] (aI oK):=by walk_at "sc"
def uI:aU ["lists","together","entries"] ["lists"] (aI oM):=by walk_at "sc"
def AR:aU ["one","other","unlike"] ["one","other"] (aI oN):=by walk_at "sc"
def lX:aU ["numbers","told","at","number","figure"] ["numbers"] (aI oO):=by walk_at "sc"
def pQ:aU ["entries","numbers","turn"] ["entries"] (aI oP):=by walk_at "sc"
def GQ:aU ["things","at"] ["things","at"] (aI oQ):=by walk_at "sc"
def GR:aU ["taken"] ["taken"] (aI oR):=by walk_at "sc"
def pR:aU ["numbers","told","label","at"] ["numbers"] (aI oS):=by walk_at "sc"
def lY:aU ["entries","tints","told","colour","at"] ["entries"] (aI oT):=by walk_at "sc"
def GS:aU ["entries"] ["entries"] (aI oU):=by walk_at "sc"
def GU:aU ["tree","knot"] ["tree","knot"] (aI oV):=by walk_at "sc"
def uJ:aU ["tree","knot","told","other"] ["tree","knot"] (aI oW):=by walk_at "sc"
def GV:aU ["stand","knot"] ["stand","knot"] (aI oX):=by walk_at "sc"
def lZ:aU ["stand","knot","tree","told","at","parts"] ["stand","knot"] (aI oY):=by walk_at "sc"
def AS:aU ["stand","told"] ["stand"] (aI oZ):=by walk_at "sc"
def uK:aU ["full","knot","told","entry"] ["full","knot"] (aI o4):=by walk_at "sc"
def jW:aU ["full","child_full","behind","at","entry","told"] ["full","child_full"] (aI o5):=by walk_at "sc"
def l4:aU ["tree","fulls","told","knot","full","jumps"] ["tree","fulls"] (aI o6):=by walk_at "sc"
def GW:aU ["stand"] ["stand"] (aI o7):=by walk_at "sc"
def GX:aU ["bridges","knot","is_below"] ["bridges","knot","is_below"] (aI jT):=by walk_at "sc"
def pS:aU ["bridges","knot","start","is_below","beyond","at"] ["bridges","knot","start","is_below"] (aI o8):=by walk_at "sc"
def jX:aU ["bridges","knot","is_below","places","told","each","at","jump"] ["bridges","knot","is_below"] (aI o9):=by walk_at "sc"
def GY:aU ["_law_script"] ["_law_script"] (aI pe):=by walk_at "sc"
def uL:aU ["_law_cell","_law_k","_law_one","_law_two"] ["_law_cell","_law_k"] (aI ph):=by walk_at "sc"
def jY:aU ["_law_state","_law_most","_law_k","_law_script","_law_cell","_law_found"] ["_law_state","_law_most"] (aI pk):=by walk_at "sc"
def AU:aU ["_law_state","_law_way"] ["_law_state"] (aI pq):=by walk_at "sc"
def pT:aU ["_law_state","_law_most","_law_way","_law_parents","_law_k"] ["_law_state","_law_most"] (aI pw):=by walk_at "sc"
def uM:aU ["_law_state","_law_most","_law_found","_law_k"] ["_law_state","_law_most"] (aI pz):=by walk_at "sc"
def jZ:aU ["_law_state","_law_many","_law_most","_law_rows_here","_law_k","_law_row_here"] ["_law_state","_law_many","_law_most"] (aI pA):=by walk_at "sc"
def uN:aU ["_law_entry","_law_key_here","_law_knot"] ["_law_entry"] (aI pB):=by walk_at "sc"
def gL:aU ["_law_numbers","_law_found","_law_k","_law_one","_law_other","_law_b"] ["_law_numbers"] (aI pC):=by walk_at "sc"
def j4:aU ["_law_numbers","_law_found","_law_high","_law_at","_law_k","_law_beside"] ["_law_numbers"] (aI pD):=by walk_at "sc"
def ip:aU ["_law_entries","_law_numbers","_law_k","_law_shades","_law_found","_law_shade"] ["_law_entries"] (aI pE):=by walk_at "sc"
def j5:aU ["_law_tree_here","_law_rows_here","_law_found","_law_k","_law_up","_law_entry","_law_is_on"] ["_law_tree_here","_law_rows_here"] (aI pF):=by walk_at "sc"
def AV:aU ["_law_state","_law_most","_law_keys","_law_tree_here"] ["_law_state","_law_most","_law_keys"] (aI pG):=by walk_at "sc"
def j6:aU ["_law_state","_law_tree_here","_law_rows_here","_law_at","_law_first","_law_step","_law_wide_here"] ["_law_state","_law_tree_here","_law_rows_here"] (aI pH):=by walk_at "sc"
def GZ:aU ["_law_bridged"] ["_law_bridged"] (aI pI):=by walk_at "sc"
def G0:aU ["_law_asked_here","_law_fulls_here","_law_key_here","_law_knot","_law_number"] ["_law_asked_here","_law_fulls_here","_law_key_here","_law_knot","_law_number"] (aI pJ):=by walk_at "sc"
def pU:aU ["_law_number","_law_found"] ["_law_number"] (aI pK):=by walk_at "sc"
def AW:aU ["_law_fulls_here","_law_rows_here","_law_knot","_law_key_here","_law_wide_here"] ["_law_fulls_here","_law_rows_here","_law_knot","_law_key_here"] (aI pL):=by walk_at "sc"
def G1:aU ["_law_found","_law_due"] ["_law_found","_law_due"] (aI pM):=by walk_at "sc"
def G2:aU ["_law_bridged","_law_parent","_law_child","_law_spot"] ["_law_bridged","_law_parent","_law_child","_law_spot"] (aI pN):=by walk_at "sc"
def uO:aU ["_law_tree_here","_law_knot","_law_found","_law_other"] ["_law_tree_here","_law_knot"] (aI pO):=by walk_at "sc"
def pV:aU ["_law_bridged","_law_tree_here","_law_fulls_here","_law_top","_law_spots","_law_asked_here","_law_knot","_law_number","_law_start_here"] ["_law_bridged","_law_tree_here","_law_fulls_here","_law_top","_law_spots","_law_asked_here"] (aI pP):=by walk_at "sc"
def cY:aU ["_law_script","_law_state","_law_tree_here","_law_rows_here","_law_way","_law_fulls_here","_law_bridged","_law_kept","_law_turn","_law_top","_law_key_here","_law_some","_law_asked_here","_law_found","_law_due","_law_spots"] ["_law_script"] (aI jU):=by walk_at "sc"
abbrev pW:List Str:=["entry"]
abbrev pX:List Str:=["length","is_below"]
abbrev pY:List Str:=["lists"]
abbrev pZ:List Str:=["one","other"]
abbrev p7:List Str:=["numbers"]
abbrev p8:List Str:=["entries"]
abbrev l5:List Str:=["things","at"]
abbrev p9:List Str:=["taken"]
abbrev qa:List Str:=["numbers"]
abbrev qb:List Str:=["entries"]
abbrev qd:List Str:=["entries"]
abbrev l7:List Str:=["tree","knot"]
abbrev qe:List Str:=["tree","knot"]
abbrev qf:List Str:=["stand","knot"]
abbrev qg:List Str:=["stand","knot"]
abbrev qh:List Str:=["stand"]
abbrev qi:List Str:=["full","knot"]
abbrev qj:List Str:=["full","child_full"]
abbrev ql:List Str:=["tree","fulls"]
abbrev qm:List Str:=["stand"]
abbrev qo:List Str:=["bridges","knot","is_below"]
abbrev qp:List Str:=["bridges","knot","start","is_below"]
abbrev qr:List Str:=["bridges","knot","is_below"]
abbrev qt:List Str:=["_law_script"]
abbrev qv:List Str:=["_law_cell","_law_k"]
abbrev gM:List Str:=["_law_state","_law_most"]
abbrev l9:List Str:=["_law_state"]
abbrev qw:List Str:=["_law_state","_law_most"]
abbrev qx:List Str:=["_law_state","_law_most"]
abbrev ma:List Str:=["_law_state","_law_many","_law_most"]
abbrev qy:List Str:=["_law_entry"]
abbrev qz:List Str:=["_law_numbers"]
abbrev qA:List Str:=["_law_numbers"]
abbrev qB:List Str:=["_law_entries"]
abbrev qC:List Str:=["_law_tree_here","_law_rows_here"]
abbrev qD:List Str:=["_law_state","_law_most","_law_keys"]
abbrev qE:List Str:=["_law_state","_law_tree_here","_law_rows_here"]
abbrev qF:List Str:=["_law_bridged"]
abbrev qG:List Str:=["_law_asked_here","_law_fulls_here","_law_key_here","_law_knot","_law_number"]
abbrev qH:List Str:=["_law_number"]
abbrev qI:List Str:=["_law_fulls_here","_law_rows_here","_law_knot","_law_key_here"]
abbrev qJ:List Str:=["_law_found","_law_due"]
abbrev qK:List Str:=["_law_bridged","_law_parent","_law_child","_law_spot"]
abbrev qL:List Str:=["_law_tree_here","_law_knot"]
abbrev qM:List Str:=["_law_bridged","_law_tree_here","_law_fulls_here","_law_top","_law_spots","_law_asked_here"]
abbrev qN:List Str:=["_law_script"]
structure Txt (K:Frag)(mg:Str->Option Value):Prop where
 CO:mg "abs" = none
 CP:mg "all" = none
 Kn:mg "bool" = none
 CQ:mg "dict" = none
 wd:mg "enumerate" = none
 Ko:mg "int" = none
 rQ:mg "isinstance" = none
 bQ:mg "len" = none
 kG:mg "list" = none
 we:mg "max" = none
 CS:mg "min" = none
 de:mg "range" = none
 CT:mg "repr" = none
 Kp:mg "reversed" = none
 Kq:mg "set" = none
 rR:mg "sorted" = none
 mQ:mg "tuple" = none
 wg:mg "zip" = none
 Kr:∃ t,mg "KNOT_NUMBERS" = some (.int 64 t)
 Ks:∃ t,mg "TURNS" = some (.int 5 t)
 Kt:∃ t,mg "MOST_BEHIND_START" = some (.int 2 t)
def uP (m n i j:Nat)(hi:i<2)(hj:j<2):(2*m+i) &&& (2*n+j)=2*(m &&& n)+(i &&& j):=by
 apply Nat.eq_of_testBit_eq;intro k;cases k with
 | zero=>
  have h1:i=0\/i=1:=by lia
  have h2:j=0\/j=1:=by lia
  rcases h1 with rfl|rfl<;>rcases h2 with rfl|rfl<;>simp[Nat.testBit_zero]<;>lia
 | succ k=>
  have h1:i=0\/i=1:=by lia
  have h2:j=0\/j=1:=by lia
  have e1:(2*m+i)/2=m:=by lia
  have e2:(2*n+j)/2=n:=by lia
  have e3:(2*(m &&& n)+(i &&& j))/2=m &&& n:=by
   rcases h1 with rfl|rfl<;>rcases h2 with rfl|rfl<;>simp<;>lia
  rw[Nat.testBit_and,jy,jy,jy,e1,e2,e3,Nat.testBit_and]
def G3 (m n i j:Nat)(hi:i<2)(hj:j<2):(2*m+i) ||| (2*n+j)=2*(m ||| n)+(i ||| j):=by
 apply Nat.eq_of_testBit_eq;intro k;cases k with
 | zero=>
  have h1:i=0\/i=1:=by lia
  have h2:j=0\/j=1:=by lia
  rcases h1 with rfl|rfl<;>rcases h2 with rfl|rfl<;>simp[Nat.testBit_zero]<;>lia
 | succ k=>
  have h1:i=0\/i=1:=by lia
  have h2:j=0\/j=1:=by lia
  have e1:(2*m+i)/2=m:=by lia
  have e2:(2*n+j)/2=n:=by lia
  have e3:(2*(m ||| n)+(i ||| j))/2=m ||| n:=by
   rcases h1 with rfl|rfl<;>rcases h2 with rfl|rfl<;>simp<;>lia
  rw[Nat.testBit_or,jy,jy,jy,e1,e2,e3,Nat.testBit_or]
def lu (a b:Nat):Nat:=if a=b then 0 else if a%2=b%2 then lu (a/2) (b/2)+1 else 0
termination_by a+b
decreasing_by lia
def qO {a b:Nat}(hab:a≠b)(h:a%2=b%2):lu a b=lu (a/2) (b/2)+1:=by
 rw[lu,af hab,ae h]
def qP {a b:Nat}(h:a%2≠b%2):lu a b=0:=by
 rw[lu];split
 .rfl
 .rfl
def xr (a b:Nat):Nat:=(a ||| b)-(a &&& b)
def iq (n:Nat):Nat:=n-(n &&& (n-1))
def AX (a b:Nat):a &&& b<=a ||| b:=ax Nat.and_le_left Nat.left_le_or
def G4 (m n i j:Nat)(hi:i<2)(hj:j<2):xr (2*m+i) (2*n+j)=2*xr m n+(if i=j then 0 else 1):=by
 unfold xr;rw[G3 m n i j hi hj,uP m n i j hi hj];have q:=AX m n;have h1:i=0\/i=1:=by lia
 have h2:j=0\/j=1:=by lia
 rcases h1 with rfl|rfl<;>rcases h2 with rfl|rfl<;>simp<;>lia
def AY (a b:Nat):xr a b=2*xr (a/2) (b/2)+(if a%2=b%2 then 0 else 1):=by
 have e1:2*(a/2)+a%2=a:=by lia
 have e2:2*(b/2)+b%2=b:=by lia
 have q:=G4 (a/2) (b/2) (a%2) (b%2) (by lia) (by lia);rw[e1,e2]at q;exact q
def AZ:∀(n a b:Nat),a+b<=n->a≠b->0<xr a b:=by
 intro n
 induction n with
 | zero=>intro a b h1 h2;lia
 | succ n ih=>
  intro a b h1 h2;rw[AY];by_cases h:a%2=b%2
  .have:=ih (a/2) (b/2) (by lia) (by lia);lia
  .rw[af h];lia
def G5 (m:Nat):iq (2*m+1)=1:=by
 unfold iq;have q:=uP m m 1 0 (by lia) (by lia);have e:2*m+1-1=2*m+0:=by lia
 rw[e,q];simp
def G6 (m:Nat)(h:0<m):iq (2*m)=2*iq m:=by
 unfold iq;have q:=uP m (m-1) 0 1 (by lia) (by lia);have e:2*m-1=2*(m-1)+1:=by lia
 have e':2*m=2*m+0:=by lia
 rw[e];have:(2*m &&& 2*(m-1)+1)=2*(m &&& m-1)+(0 &&& 1):=q;rw[this];have z:m &&& (m-1)<=m:=Nat.and_le_left;simp;lia
def G7:∀(n a b:Nat),a+b<=n->a≠b->iq (xr a b)=2^lu a b:=by
 intro n
 induction n with
 | zero=>intro a b h1 h2;lia
 | succ n ih=>
  intro a b h1 h2;rw[AY];by_cases h:a%2=b%2
  .rw[ae h,qO h2 h,fc,G6 _ (AZ n _ _ (by lia) (by lia)),ih _ _ (by lia) (by lia),hE];lia
  .rw[af h,qP h,G5,Nat.pow_zero]
def G8:∀(n a b:Nat),a+b<=n->a≠b->a%2^lu a b=b%2^lu a b/\a%2^(lu a b+1)≠b%2^(lu a b+1):=by
 intro n
 induction n with
 | zero=>intro a b h1 h2;lia
 | succ n ih=>
  intro a b h1 h2;by_cases h:a%2=b%2
  .rw[qO h2 h];obtain ⟨q1,q2⟩:=ih (a/2) (b/2) (by lia) (by lia);have s:∀ x k:Nat,x%2^(k+1)=2*(x/2%2^k)+x%2:=by
    intro x k;rw[hE,Nat.mul_comm,Nat.mod_mul];lia
   rw[s a,s b,s a,s b];constructor
   .omega
   .omega
  .rw[qP h];simp[Nat.mod_one];lia
def G9:∀(k a b:Nat),a≠b->a<2^k->b<2^k->lu a b<k:=by
 intro k
 induction k with
 | zero=>intro a b h1 h2 h3;simp at h2 h3;lia
 | succ k ih=>
  intro a b h1 h2 h3;by_cases h:a%2=b%2
  .rw[qO h1 h];have:=ih (a/2) (b/2) (by lia) (by rw[hE]at h2;lia) (by rw[hE]at h3;lia);lia
  .rw[qP h];lia
def fig (a b:Nat):Nat:=2*lu a b+b/2^lu a b%2
def uQ (a b:Nat):fig a b/2=lu a b:=by
 unfold fig;have:=fe (b/2^lu a b) (by decide:0<2);lia
def uR (a b:Nat):fig a b%2=b/2^lu a b%2:=by
 unfold fig;have:=fe (b/2^lu a b) (by decide:0<2);lia
def A0 (x k:Nat):x%2^(k+1)=x%2^k+2^k*(x/2^k%2):=by
 rw[hE,Nat.mod_mul]
def A1 {a b:Nat}(h:a≠b):a/2^lu a b%2≠b/2^lu a b%2:=by
 obtain ⟨h1,h2⟩:=G8 _ a b (ai _) h;intro e;apply h2;rw[A0,A0,h1,e]
def Hc {a b c:Nat}(h2:b≠c):fig a b≠fig b c:=by
 intro e;have e1:lu a b=lu b c:=by rw[<-uQ,e,uQ]
 have e2:b/2^lu a b%2=c/2^lu b c%2:=by rw[<-uR,e,uR]
 rw[e1]at e2;exact A1 h2 e2
def Hd {a b:Nat}(h:a≠b):a%2≠fig a b:=by
 intro e;have l:a%2<2:=fe _ (by decide);have e1:lu a b=0:=by
  have:=uQ a b;lia
 have e2:=uR a b;have e3:=A1 h;rw[e1]at e2 e3;simp at e2 e3;lia
def He {a b k:Nat}(h:a≠b)(ha:a<2^k)(hb:b<2^k):fig a b<2*k:=by
 have:=G9 k a b h ha hb;have:=fe (b/2^lu a b) (by decide:0<2);unfold fig;lia
def fk (xs:List Nat)(i:Nat):Nat:=if i=0 then xs.getD 0 0%2 else fig (xs.getD (i-1) 0) (xs.getD i 0)
def cI (xs:List Nat):List Nat:=(List.range xs.length).map (fk xs)
def ir (xs:List Nat):(cI xs).length=xs.length:=by unfold cI;rw[aq,cq]
def A2 {xs:List Nat}{i:Nat}(h:i<xs.length):(cI xs)[i]?=some (fk xs i):=by
 unfold cI;rw[bf,gC h];rfl
def uS {xs:List Nat}{i:Nat}(h:i<xs.length):(cI xs).getD i 0=fk xs i:=by
 rw[aE,A2 h];rfl
def A3 {xs:List Nat}{i:Nat}(h:i<xs.length):(cI xs).take (i+1)=(cI xs).take i++[fk xs i]:=by
 have h':i<(cI xs).length:=by rw[ir];exact h
 rw[cF h'];have:=A2 h;rw[az h']at this;rw[aJ this]
def Unl (xs:List Nat):Prop:=∀ i,i+1<xs.length->xs.getD i 0≠xs.getD (i+1) 0
def Hf (h:Unl xs):Unl (cI xs):=by
 intro i hi;rw[ir]at hi;rw[uS (by lia),uS hi];unfold fk;rw[af (by lia:¬ i+1=0),kQ];by_cases h0:i=0
 .subst h0;rw[ae rfl];exact Hd (h 0 hi)
 .rw[af h0];exact Hc (h i hi)
def dy (m:Nat)(xs:List Nat):Prop:=∀ i,i<xs.length->xs.getD i 0<m
def md {k:Nat}(hk:1<=k)(h:Unl xs)(hb:dy (2^k) xs):dy (2*k) (cI xs):=by
 intro i hi;rw[ir]at hi;rw[uS hi];unfold fk;split
 .have:xs.getD 0 0%2<2:=fe _ (by decide);lia
 .have:=h (i-1) (by lia);rw[show i-1+1=i by lia]at this;exact He this (hb _ (by lia)) (hb _ hi)
def Hg (a b:Nat):Builtin.bitXor (a:Int) (b:Int)=((xr a b:Nat):Int):=by
 have h1:Builtin.bitAnd (a:Int) (b:Int)=((a &&& b:Nat):Int):=by
  unfold Builtin.bitAnd;rw[aX (iE a),aX (iE b)];rfl
 have n1:¬ (0:Int)<=Builtin.bitNot (a:Int):=by unfold Builtin.bitNot;lia
 have n2:¬ (0:Int)<=Builtin.bitNot (b:Int):=by unfold Builtin.bitNot;lia
 have h2:Builtin.bitOr (a:Int) (b:Int)=((a ||| b:Nat):Int):=by
  unfold Builtin.bitOr Builtin.bitAnd;rw[bj n1,bj n2];have e:∀ x:Int,Builtin.bitNot (Builtin.bitNot x)=x:=λx=>by unfold Builtin.bitNot;lia
  show Builtin.bitNot (Builtin.bitNot _)=_;rw[e,e,e];rfl
 unfold Builtin.bitXor xr;rw[h1,h2];have:=AX a b;lia
def Hh (n:Nat)(h:0<n):Builtin.bitAnd (n:Int) (-(n:Int))=((iq n:Nat):Int):=by
 have n2:¬ (0:Int)<=-(n:Int):=by lia
 have e:(Builtin.bitNot (-(n:Int))).toNat=n-1:=by unfold Builtin.bitNot;lia
 unfold Builtin.bitAnd iq;rw[aX (iE n),bj n2];show (n:Int)-(((n:Int).toNat &&& (Builtin.bitNot (-(n:Int))).toNat:Nat):Int)=_;rw[e,fN];have:n &&& (n-1)<=n:=Nat.and_le_left;lia
def Hi (a b:Nat)(h:a≠b):((Builtin.Int.intBits (Builtin.bitAnd (Builtin.bitXor (a:Int) (b:Int)) (-(Builtin.bitXor (a:Int) (b:Int)))):Nat):Int)-1=((lu a b:Nat):Int):=by
 rw[Hg,Hh _ (AZ _ a b (ai _) h),G7 _ a b (ai _) h];unfold Builtin.Int.intBits;have p:0 < 2 ^ lu a b:=Nat.two_pow_pos _;rw[af (by
  intro z;have z':=eq_of_beq z;lia),Int.natAbs_natCast,Nat.log2_two_pow]
 lia
def atZ {α:Type}(l:List α)(i:Int):Option α:=if 0<=i then l[i.toNat]? else none
def gN {α:Type}(l:List α)(i:Nat):atZ l (i:Int)=l[i]?:=by
 unfold atZ;rw[ae (iE i),fN]
def qQ {α:Type}{l:List α}{i:Int}(h:i<0):atZ l i=none:=by
 unfold atZ;rw[af (by lia)]
def uT {α:Type}{l:List α}{x:α}(h:atZ l i=some x):0<=i/\i<l.length:=by
 unfold atZ at h;split at h
 .have:=(aM.mp h).1;lia
 .cases h
def A4 {α:Type}{l:List α}{i:Int}(h0:0<=i)(h:i<l.length):∃ x,atZ l i=some x:=by
 unfold atZ;rw[ae h0];exact #[_,az (by lia)]
def j7 {α β:Type}(f:Option α->α->Option α->β):Option α->List α->List β
 | _,[]=>[]
 | p,x::l=>f p x l.head? :: j7 f (some x) l
def mapW {α β:Type}(f:Option α->α->Option α->β)(l:List α):List β:=j7 f none l
def me {α β:Type}(f:Option α->α->Option α->β):∀(l:List α) (p:Option α) (k:Nat),(j7 f p l)[k]?=l[k]?.map λx=>f (if k=0 then p else l[k-1]?) x l[k+1]?
 | [],_,_=>rfl
 | x::l,p,0=>by
  show some (f p x l.head?)=some (f p x l[0]?);rw[List.head?_eq_getElem?]
 | x::l,p,k+1=>by
  show (j7 f (some x) l)[k]?=l[k]?.map λy=>f (x::l)[k]? y l[k+1]?;rw[me f l (some x) k];cases k with
  | zero=>rfl
  | succ k=>rfl
def A5 {α β:Type}(f:Option α->α->Option α->β):∀(l:List α) (p:Option α),(j7 f p l).length=l.length
 | [],_=>rfl
 | x::l,p=>by
  show (j7 f (some x) l).length+1=l.length+1;rw[A5 f l]
def mf {α β:Type}(f:Option α->α->Option α->β)(l:List α):(mapW f l).length=l.length:=A5 f l none
def qR {α β:Type}(f:Option α->α->Option α->β)(l:List α)(i:Int):atZ (mapW f l) i=(atZ l i).map λx=>f (atZ l (i-1)) x (atZ l (i+1)):=by
 by_cases h:0<=i
 .obtain ⟨k,rfl⟩:∃ k:Nat,i=(k:Int):=#[i.toNat,by lia];rw[gN,gN,mapW,me,show ((k:Int)+1)=((k+1:Nat):Int) by lia,gN];have e:atZ l ((k:Int)-1)=if k=0 then none else l[k-1]?:=by
   split
   .rw[qQ (by lia)]
   .rw[show ((k:Int)-1)=((k-1:Nat):Int) by lia,gN]
  rw[e]
 .rw[qQ (l:=mapW f l) (by lia),qQ (l:=l) (i:=i) (by lia)];rfl
def UnlZ (xs:List Nat):Prop:=∀(i:Int) (x y:Nat),atZ xs i=some x->atZ xs (i+1)=some y->x≠y
def unlZ (h:Unl xs):UnlZ xs:=by
 intro i x y hx hy;obtain ⟨a,b⟩:=uT hx;obtain ⟨_,c⟩:=uT hy;obtain ⟨k,rfl⟩:∃ k:Nat,i=(k:Int):=#[i.toNat,by lia];rw[gN]at hx;rw[show ((k:Int)+1)=((k+1:Nat):Int) by lia,gN]at hy;have:=h k (by lia);rw[aE,aE,hx,hy]at this;exact this
def uU (h:UnlZ xs):Unl xs:=by
 intro k hk;have:=h k xs[k] xs[k+1] (by rw[gN];exact az (by lia)) (by rw[show ((k:Int)+1)=((k+1:Nat):Int) by lia,gN];exact az hk);rw[aE,aE,az (show k<xs.length by lia),az hk];exact this
def fK (p n:Option Nat):Nat:=if p≠some 0/\n≠some 0 then 0 else if p≠some 1/\n≠some 1 then 1 else 2
def A6 (p n:Option Nat):fK p n<=2:=by
 unfold fK;split
 .omega
 .split<;>lia
def uV {p:Option Nat}{x:Nat}(h:p=some x):fK p n≠x:=by
 subst h;unfold fK;split
 .rename_i c;intro z;exact c.1 (by rw[<-z])
 .split
  .rename_i c;intro z;exact c.1 (by rw[<-z])
  .rename_i c d;intro z;subst z;have c1:n=some 0:=jh λq=>c #[by decide,q];have d1:n=some 1:=jh λq=>d #[by decide,q];rw[c1]at d1;cases d1
def Hj (p n:Option Nat):fK p n=fK n p:=by
 unfold fK;simp only[And.comm]
def A7 {n:Option Nat}{x:Nat}(h:n=some x):fK p n≠x:=by
 rw[Hj];exact uV h
def recF (v:Nat)(p:Option Nat)(x:Nat)(n:Option Nat):Nat:=if x=v then fK p n else x
def recL (v:Nat)(xs:List Nat):List Nat:=mapW (recF v) xs
def gO (v:Nat)(xs:List Nat):(recL v xs).length=xs.length:=mf _ _
def qS (h:UnlZ xs):UnlZ (recL v xs):=by
 intro i x y hx hy;unfold recL at hx hy;rw[qR]at hx hy;cases ex:atZ xs i with
 | none=>rw[ex]at hx;cases hx
 | some x0=>
  cases ey:atZ xs (i+1) with
  | none=>rw[ey]at hy;cases hy
  | some y0=>
   rw[ex]at hx;rw[ey]at hy;have hx:x=recF v (atZ xs (i-1)) x0 (atZ xs (i+1)):=(aJ hx).symm;have hy:y=recF v (atZ xs (i+1-1)) y0 (atZ xs (i+1+1)):=(aJ hy).symm;have n0:=h i x0 y0 ex ey;have e1:i+1-1=i:=by lia
   unfold recF at hx hy;rw[e1,ex]at hy;rw[ey]at hx;split at hx
   .rename_i c;split at hy
    .rename_i c';lia
    .rw[hx,hy];exact A7 rfl
   .split at hy
    .rw[hx,hy];exact (uV rfl).symm
    .omega
def uW {v:Nat}{P:Nat->Prop}{xs:List Nat}(hP:∀ x,x<=2->P x)(h:∀ i x,atZ xs i=some x->x=v\/P x):∀ i x,atZ (recL v xs) i=some x->P x:=by
 intro i x hx;unfold recL at hx;rw[qR]at hx;cases ex:atZ xs i with
 | none=>rw[ex]at hx;cases hx
 | some x0=>
  rw[ex]at hx;have hx:x=recF v (atZ xs (i-1)) x0 (atZ xs (i+1)):=(aJ hx).symm;unfold recF at hx;split at hx
  .rw[hx];exact hP _ (A6 _ _)
  .rw[hx];rcases h i x0 ex with q|q
   .exact absurd q (by assumption)
   .exact q
def colL (xs:List Nat):List Nat:=recL 5 (recL 4 (recL 3 xs))
def uX (xs:List Nat):(colL xs).length=xs.length:=by
 unfold colL;rw[gO,gO,gO]
def uY (h:UnlZ xs):UnlZ (colL xs):=qS (qS (qS h))
def Hk {xs:List Nat}(h:∀ i x,atZ xs i=some x->x<=5):∀ i x,atZ (colL xs) i=some x->x<=2:=by
 refine uW (P:=λx=>x<=2) (λx h=>h) ?_;refine uW (P:=λx=>x=5\/x<=2) (λx h=>.inr h) ?_;refine uW (P:=λx=>x=4\/x=5\/x<=2) (λx h=>.inr (.inr h)) ?_;intro i x e;have:=h i x e;lia
def uZ (sh:Nat)(p:Option (Nat×Bool))(x:Nat×Bool)(n:Option (Nat×Bool)):Nat×Bool:=
 (x.1,x.2||(decide (x.1=sh)&&p.isSome && !(p.map (·.2)).getD false && !(n.map (·.2)).getD false))
def da (sh:Nat)(l:List (Nat×Bool)):List (Nat×Bool):=mapW (uZ sh) l
def di (c:List Nat):List (Nat×Bool):=c.map λx=>(x,false)
def marked (c:List Nat):List (Nat×Bool):=da 0 (da 1 (da 2 (di c)))
def gP (c:List Nat):List Bool:=(marked c).map (·.2)
def Hl (c:List Nat):(marked c).length=c.length:=by
 unfold marked da di;rw[mf,mf,mf,aq]
def A8 (c:List Nat):(gP c).length=c.length:=by
 unfold gP;rw[aq,Hl]
def A9 (c:List Nat)(i:Int):atZ (di c) i=(atZ c i).map λx=>(x,false):=by
 unfold di atZ;split
 .rw[bf]
 .rfl
def mkZ (l:List (Nat×Bool))(i:Int):Bool:=((atZ l i).map (·.2)).getD false
def clZ (l:List (Nat×Bool))(i:Int):Option Nat:=(atZ l i).map (·.1)
def Hm (sh:Nat)(l:List (Nat×Bool))(i:Int):clZ (da sh l) i=clZ l i:=by
 unfold clZ da;rw[qR];cases atZ l i<;>rfl
def qT (sh:Nat)(l:List (Nat×Bool))(i:Int):mkZ (da sh l) i=(mkZ l i||(decide (clZ l i=some sh)&&(clZ l (i-1)).isSome && !mkZ l (i-1) && !mkZ l (i+1))):=by
 unfold mkZ clZ da;rw[qR];cases atZ l i with
 | none=>simp
 | some x=>
  unfold uZ;cases atZ l (i-1)<;>cases atZ l (i+1)<;>simp
structure MkOk (c:List Nat)(l:List (Nat×Bool)):Prop where
 cl:∀ i,clZ l i=atZ c i
 ind:∀ i,mkZ l i=true->mkZ l (i+1)=true->False
 fst:∀ i,mkZ l i=true->(atZ c (i-1)).isSome=true/\(atZ c i).isSome=true
def qU (c:List Nat):MkOk c (di c):=by
 have e:∀ i,mkZ (di c) i=false:=λi=>by
  unfold mkZ;rw[A9];cases atZ c i<;>rfl
 refine #[λi=>?_,λi h=>?_,λi h=>?_]
 .unfold clZ;rw[A9];cases atZ c i<;>rfl
 .rw[e]at h;cases h
 .rw[e]at h;cases h
def j8 (hu:UnlZ c)(h:MkOk c l):MkOk c (da sh l):=by
 refine #[λi=>by rw[Hm,h.cl],λi h1 h2=>?_,λi h1=>?_]
 .rw[qT]at h1 h2;simp only[kU,d9,decide_eq_true_eq,gX]at h1 h2;rw[show i+1-1=i by lia]at h2;rcases h1 with h1|h1<;>rcases h2 with h2|h2
  .exact h.ind i h1 h2
  .rw[h1]at h2;exact absurd h2.1.2 (by decide)
  .rw[h2]at h1;exact absurd h1.2 (by decide)
  .have a:=h1.1.1.1;have b:=h2.1.1.1;rw[h.cl]at a b;exact hu i sh sh a b rfl
 .rw[qT]at h1;simp only[kU,d9,decide_eq_true_eq,gX]at h1;rcases h1 with h1|h1
  .exact h.fst i h1
  .refine #[?_,?_]
   .rw[<-h.cl];exact h1.1.1.2
   .rw[<-h.cl,h1.1.1.1];rfl
def fW (h:mkZ l i=true):mkZ (da sh l) i=true:=by
 rw[qT,h];rfl
def u7 {sh:Nat}(h:MkOk c l)(hc:atZ c i=some sh)(hp:(atZ c (i-1)).isSome=true):mkZ (da sh l) (i-1)=true\/mkZ (da sh l) i=true\/mkZ (da sh l) (i+1)=true:=by
 by_cases a:mkZ l (i-1)=true
 .exact .inl (fW a)
 .by_cases b:mkZ l (i+1)=true
  .exact .inr (.inr (fW b))
  .refine .inr (.inl ?_);rw[qT,h.cl,h.cl,hc,hp,iN.mpr a,iN.mpr b];simp
def Ba (hu:UnlZ c):MkOk c (marked c):=j8 hu (j8 hu (j8 hu (qU c)))
def Hn (hu:UnlZ c)(hc:∀ i x,atZ c i=some x->x<=2){i:Int}(h1:(atZ c (i-1)).isSome=true)(h2:(atZ c i).isSome=true):mkZ (marked c) (i-1)=true\/mkZ (marked c) i=true\/mkZ (marked c) (i+1)=true:=by
 obtain ⟨x,hx⟩:=sy.mp h2;have hle:=hc i x hx;have z:x=2\/x=1\/x=0:=by lia
 rcases z with rfl|rfl|rfl
 .rcases u7 (qU c) hx h1 with q|q|q
  .exact .inl (fW (fW q))
  .exact .inr (.inl (fW (fW q)))
  .exact .inr (.inr (fW (fW q)))
 .rcases u7 (j8 (sh:=2) hu (qU c)) hx h1 with q|q|q
  .exact .inl (fW q)
  .exact .inr (.inl (fW q))
  .exact .inr (.inr (fW q))
 .exact u7 (j8 (sh:=1) hu (j8 (sh:=2) hu (qU c))) hx h1
structure iu (ms:List Bool):Prop where
 fst:ms.getD 0 false=false
 ind:∀ i,ms.getD i false=true->ms.getD (i+1) false=true->False
 dom:∀ i,1<=i->i<ms.length->ms.getD (i-1) false=true\/ms.getD i false=true\/ms.getD (i+1) false=true
def mh (c:List Nat)(i:Nat):(gP c).getD i false=mkZ (marked c) (i:Int):=by
 unfold mkZ gP;rw[gN,aE,bf]
def Ho (hu:UnlZ c)(hc:∀ i x,atZ c i=some x->x<=2):iu (gP c):=by
 refine #[?_,λi h1 h2=>?_,λi h1 h2=>?_]
 .rw[mh];cases e:mkZ (marked c) ((0:Nat):Int) with
  | false=>rfl
  | true=>
   have:=((Ba hu).fst _ e).1;rw[qQ (by lia)]at this;cases this
 .rw[mh]at h1 h2;exact (Ba hu).ind i h1 h2
 .rw[A8]at h2;have a:(atZ c ((i:Int)-1)).isSome=true:=by
   obtain ⟨x,hx⟩:=A4 (l:=c) (i:=(i:Int)-1) (by lia) (by lia);rw[hx];rfl
  have b:(atZ c (i:Int)).isSome=true:=by
   obtain ⟨x,hx⟩:=A4 (l:=c) (i:=(i:Int)) (by lia) (by lia);rw[hx];rfl
  rcases Hn hu hc a b with q|q|q
  .refine .inl ?_;rw[mh,show ((i-1:Nat):Int)=(i:Int)-1 by lia];exact q
  .refine .inr (.inl ?_);rw[mh];exact q
  .refine .inr (.inr ?_);rw[mh];exact q
def Hq {y:Nat}(h:y<fK p n):p=some y\/n=some y:=by
 unfold fK at h;split at h
 .omega
 .rename_i c;have c0:p=some 0\/n=some 0:=jh λq=>c #[λz=>q (.inl z),λz=>q (.inr z)];split at h
  .have:y=0:=by lia
   subst this;exact c0
  .rename_i d;have d0:p=some 1\/n=some 1:=jh λq=>d #[λz=>q (.inl z),λz=>q (.inr z)];have:y=0\/y=1:=by lia
   rcases this with rfl|rfl
   .exact c0
   .exact d0
def bT (xs:List Nat)(k:Nat):List Nat:=(if k=0 then none else xs[k-1]?).toList++xs[k+1]?.toList
def Bb {k y:Nat}:y∈bT xs k↔(if k=0 then none else xs[k-1]?)=some y\/xs[k+1]?=some y:=by
 unfold bT;rw[bp,Option.mem_toList,Option.mem_toList]
def eE (xs:List Nat)(k:Nat):Nat:=fK (if k=0 then none else xs[k-1]?) xs[k+1]?
def Bc {k:Nat}:eE xs k∉bT xs k:=λh=>by
 rcases Bb.mp h with q|q
 .exact uV q rfl
 .exact A7 q rfl
def Bd {k y:Nat}(h:y<eE xs k):y∈bT xs k:=Bb.mpr (Hq h)
def Be (xs:List Nat)(k:Nat):eE xs k<=2:=A6 _ _
def Hr {k:Nat}:((List.range 3).filter λc=>!decide (c∈bT xs k)).head?=some (eE xs k):=by
 have h1:=Bc (xs:=xs) (k:=k);have h2:=λy=>Bd (xs:=xs) (k:=k) (y:=y);have h3:=Be xs k;rw[show List.range 3=[0,1,2] from rfl];generalize eE xs k=f at h1 h2 h3 ⊢;have z:f=0\/f=1\/f=2:=by lia
 rcases z with rfl|rfl|rfl
 .simp[List.filter,h1]
 .simp[List.filter,h1,h2 0 (by lia)]
 .simp[List.filter,h1,h2 0 (by lia),h2 1 (by lia)]
def u9 {xs:List Nat}{k:Nat}(h:k<xs.length):(recL v xs)[k]?=some (if xs.getD k 0=v then eE xs k else xs.getD k 0):=by
 unfold recL mapW;rw[me,aE,az h];rfl
def mixL (v:Nat)(xs:List Nat)(k:Nat):List Nat:=(recL v xs).take k++xs.drop k
def Bf {xs:List Nat}{k:Nat}(h:xs.length<=k):mixL v xs k=recL v xs:=by
 unfold mixL;rw[bu (by rw[gO];exact h),eN h,bY]
def va (v:Nat)(xs:List Nat)(k:Nat):(mixL v xs k).length=xs.length:=by
 unfold mixL;rw[bc,aT,eY,gO];lia
def j9 (v:Nat)(xs:List Nat)(k j:Nat):(mixL v xs k)[j]?=if j<k then (recL v xs)[j]? else xs[j]?:=by
 unfold mixL;by_cases hk:k<=xs.length
 .rw[List.getElem?_append,aT,gO,eh hk];split
  .rw[jv];rw[ae (by assumption)]
  .rw[nz];congr 1;lia
 .rw[eN (by lia),bY,bu (by rw[gO];lia)];split
  .rfl
  .rw[er (by rw[gO];lia),er (by lia)]
def Bg {k j:Nat}(h:k<=j):(mixL v xs k)[j]?=xs[j]?:=by
 rw[j9,af (by lia)]
def Bh {v:Nat}{xs:List Nat}{k:Nat}(h:k<xs.length)(hv:xs.getD k 0≠v):mixL v xs (k+1)=mixL v xs k:=by
 apply f6;intro j;rw[j9,j9];by_cases c:j<k
 .rw[ae c,ae (by lia)]
 .rw[af c];split
  .have:j=k:=by lia
   subst this;rw[u9 h,af hv,aE,az h];rfl
  .rfl
def Bi {v:Nat}{xs:List Nat}{k m:Nat}(hkm:k<=m)(hm:m<=xs.length)(hv:∀ j,k<=j->j<m->xs.getD j 0≠v):mixL v xs m=mixL v xs k:=by
 induction m with
 | zero=>
  have:k=0:=by lia
  rw[this]
 | succ m ih=>
  by_cases c:k=m+1
  .rw[c]
  .rw[Bh (by lia) (hv m (by lia) (by lia)),ih (by lia) (by lia) (λj a b=>hv j a (by lia))]
def Ht {v:Nat}{k:Nat}(hu:Unl xs)(h:k<xs.length)(hv:xs.getD k 0=v):(if k=0 then none else (mixL v xs k)[k-1]?)=if k=0 then none else xs[k-1]?:=by
 cases k with
 | zero=>rfl
 | succ k=>
  show (mixL v xs (k+1))[k]?=xs[k]?;rw[j9,ae (by lia),u9 (by lia)];have:=hu k h;rw[hv]at this;rw[af this,aE,az (show k<xs.length by lia)];rfl
def Bj {v:Nat}{k:Nat}(hu:Unl xs)(h:k<xs.length)(hv:xs.getD k 0=v):bT (mixL v xs k) k=bT xs k:=by
 unfold bT;rw[Ht hu h hv,Bg (j:=k+1) (by lia)]
def Bk {v:Nat}{xs:List Nat}{k:Nat}(h:k<xs.length)(hv:xs.getD k 0=v):mixL v xs (k+1)=(mixL v xs k).set k (eE xs k):=by
 apply f6;intro j;rw[lg,va,j9,j9];by_cases c:k=j
 .subst c;rw[ae rfl,ae h,ae (by lia),u9 h,ae hv]
 .rw[af c];by_cases c2:j<k
  .rw[ae c2,ae (by lia)]
  .rw[af c2,af (by lia)]
def d6 (sh:Nat)(cs:List Nat)(ms:List Bool):List Bool:=(da sh (cs.zip ms)).map (·.2)
def iw {cs:List Nat}{ms:List Bool}(h:cs.length=ms.length):(d6 sh cs ms).length=ms.length:=by
 unfold d6 da;rw[aq,mf,nF];lia
def Hu {cs:List Nat}:∀{ms:List Bool},cs.length=ms.length->(cs.zip ms).map (·.1)=cs:=by
 induction cs with
 | nil=>intro ms _;rfl
 | cons c cs ih=>
  intro ms h;cases ms with
  | nil=>cases h
  | cons m ms=>
   show c::(cs.zip ms).map (·.1)=c::cs;rw[ih (Nat.succ.inj h)]
def Bl:∀(l:List (Nat×Bool)),(l.map (·.1)).zip (l.map (·.2))=l
 | []=>rfl
 | x::l=>by
  show x::(l.map (·.1)).zip (l.map (·.2))=x::l;rw[Bl l]
def Hv (sh:Nat)(l:List (Nat×Bool)):(da sh l).map (·.1)=l.map (·.1):=by
 apply f6;intro k;unfold da mapW;rw[bf,bf,me];cases l[k]?<;>rfl
def Bm {cs:List Nat}{ms:List Bool}(h:cs.length=ms.length):da sh (cs.zip ms)=cs.zip (d6 sh cs ms):=by
 have e:=Bl (da sh (cs.zip ms));rw[Hv,Hu h]at e;exact e.symm
def Hw (cs:List Nat):di cs=cs.zip (cs.map λ_=>false):=by
 unfold di
 induction cs with
 | nil=>rfl
 | cons c cs ih=>
  show (c,false)::cs.map (λx=>(x,false))=(c,false)::cs.zip (cs.map λ_=>false);rw[ih]
def Hx (cs:List Nat):gP cs=d6 0 cs (d6 1 cs (d6 2 cs (cs.map λ_=>false))):=by
 have l1:cs.length=(cs.map λ_=>false).length:=by rw[aq]
 have l2:cs.length=(d6 2 cs (cs.map λ_=>false)).length:=by rw[iw l1,<-l1]
 unfold gP marked;rw[Hw,Bm l1,Bm l2];rfl
def ke {cs:List Nat}{ms:List Bool}(hl:cs.length=ms.length){k:Nat}(h:k<cs.length):(d6 sh cs ms)[k]?=some (ms.getD k false||(decide (cs.getD k 0=sh)&&decide (1<=k) && !ms.getD (k-1) false && !ms.getD (k+1) false)):=by
 unfold d6 da mapW;have gz:∀ j,(cs.zip ms)[j]?=if h:j<cs.length then some (cs[j],ms[j]'(by lia)) else none:=λj=>by
  split
  .rename_i q;rw[az (by rw[nF];lia),List.getElem_zip]
  .exact er (by rw[nF];lia)
 have gm:∀ j,ms.getD j false=(((cs.zip ms)[j]?).map (·.2)).getD false:=λj=>by
  rw[gz];split
  .rw[aE,az (by lia)];rfl
  .rw[aE,er (by lia)];rfl
 rw[bf,me,gm k,gm (k+1),gm (k-1),aE,az h];have e:=gz k;rw[dif_pos h]at e;rw[e];show some _=some _;unfold uZ;cases k with
 | zero=>simp
 | succ k=>
  have e2:=gz k;rw[dif_pos (by lia)]at e2;simp[e2]
def mixM (sh:Nat)(cs:List Nat)(ms:List Bool)(k:Nat):List Bool:=(d6 sh cs ms).take k++ms.drop k
def Bn {cs:List Nat}{ms:List Bool}(hl:cs.length=ms.length){k:Nat}(h:cs.length<=k):mixM sh cs ms k=d6 sh cs ms:=by
 unfold mixM;rw[bu (by rw[iw hl];lia),eN (by lia),bY]
def qV {cs:List Nat}{ms:List Bool}(hl:cs.length=ms.length)(k:Nat):(mixM sh cs ms k).length=cs.length:=by
 unfold mixM;rw[bc,aT,eY,iw hl];lia
def fL {cs:List Nat}{ms:List Bool}(hl:cs.length=ms.length)(k j:Nat):(mixM sh cs ms k)[j]?=if j<k then (d6 sh cs ms)[j]? else ms[j]?:=by
 unfold mixM;by_cases hk:k<=ms.length
 .rw[List.getElem?_append,aT,iw hl,eh hk];split
  .rw[jv];rw[ae (by assumption)]
  .rw[nz];congr 1;lia
 .rw[eN (by lia),bY,bu (by rw[iw hl];lia)];split
  .rfl
  .rw[er (by rw[iw hl];lia),er (by lia)]
def fX (ms:List Bool)(k:Nat):Bool:=!ms.getD (k-1) false && !ms.getD k false && !ms.getD (k+1) false
def Hy {sh:Nat}{ms:List Bool}(hu:Unl cs)(hl:cs.length=ms.length){k:Nat}(h:k<cs.length)(h1:1<=k)(hs:cs.getD k 0=sh):fX (mixM sh cs ms k) k=fX ms k:=by
 unfold fX;have e:∀ j,k<=j->(mixM sh cs ms k).getD j false=ms.getD j false:=λj hj=>by
  rw[aE,aE,fL hl,af (by lia)]
 rw[e k (by lia),e (k+1) (by lia)];have e2:(mixM sh cs ms k).getD (k-1) false=ms.getD (k-1) false:=by
  rw[aE,fL hl,ae (by lia),ke hl (by lia)];have:=hu (k-1) (by lia);rw[show k-1+1=k by lia,hs]at this;rw[bj this];simp
 rw[e2]
def vb {sh:Nat}{cs:List Nat}{ms:List Bool}(hl:cs.length=ms.length){k:Nat}(h:k<cs.length)(hn:¬ (1<=k/\cs.getD k 0=sh/\fX ms k=true)):mixM sh cs ms (k+1)=mixM sh cs ms k:=by
 apply f6;intro j;rw[fL hl,fL hl];by_cases c:j<k
 .rw[ae c,ae (by lia)]
 .rw[af c];split
  .have:j=k:=by lia
   subst this;rw[ke hl h];unfold fX at hn;rw[az (by lia)];have e:ms.getD j false=ms[j]'(by lia):=by
    rw[aE,az (by lia)];rfl
   rw[e]at hn ⊢;congr 1;generalize ms[j]=a at hn ⊢;generalize ms.getD (j-1) false=b at hn ⊢;generalize ms.getD (j+1) false=d at hn ⊢;cases a<;>cases b<;>cases d<;>simp at hn ⊢
   intro q;lia
  .rfl
def Hz {sh:Nat}{cs:List Nat}{ms:List Bool}(hl:cs.length=ms.length){k:Nat}(h:k<cs.length)(hp:1<=k/\cs.getD k 0=sh/\fX ms k=true):mixM sh cs ms (k+1)=(mixM sh cs ms k).set k true:=by
 apply f6;intro j;rw[lg,qV hl,fL hl,fL hl];by_cases c:k=j
 .subst c;rw[ae rfl,ae h,ae (by lia),ke hl h];obtain ⟨p1,p2,p3⟩:=hp;unfold fX at p3;simp only[d9,gX]at p3;rw[p2,p3.1.1,p3.1.2,p3.2,aX p1];simp
 .rw[af c];by_cases c2:j<k
  .rw[ae c2,ae (by lia)]
  .rw[af c2,af (by lia)]
structure dM (ms:List Bool)(sp:List Nat):Prop where
 up:sp.Pairwise (· < ·)
 iff:∀ j,j∈sp↔ms.getD j false=true
def HI (ms:List Bool):dM ms ((List.range ms.length).filter λk=>ms.getD k false):=by
 refine #[List.Pairwise.filter _ lh,λj=>?_];rw[eJ,cZ];constructor
 .exact λh=>h.2
 .intro h;refine #[?_,h];rw[aE]at h;cases e:ms[j]? with
  | none=>rw[e]at h;cases h
  | some x=>exact (aM.mp e).1
def dM.lt (S:dM ms sp){j:Nat}(h:j∈sp):j<ms.length:=by
 have h:=(S.iff j).mp h;rw[aE]at h;cases e:ms[j]? with
 | none=>rw[e]at h;cases h
 | some x=>exact (aM.mp e).1
def dM.step (S:dM ms sp)(M:iu ms){t:Nat}(h:t+1<sp.length):sp[t]+2<=sp[t+1]/\sp[t+1]<=sp[t]+3:=by
 have up:=cT.mp S.up;have lt:=up t (t+1) (by lia) h (by lia);have m0:=(S.iff _).mp (cU (show t<sp.length by lia));have m1:=(S.iff _).mp (cU h);have l1:=S.lt (cU h);have no:∀ j,sp[t]<j->j<sp[t+1]->ms.getD j false=false:=λj a b=>by
  cases e:ms.getD j false with
  | false=>rfl
  | true=>
   obtain ⟨u,hu,q⟩:=dC ((S.iff j).mpr e);have c1:¬ u<=t:=λz=>by
    by_cases z':u=t
    .subst z';lia
    .have:=up u t hu (by lia) (by lia);lia
   have c2:¬ t+1<=u:=λz=>by
    by_cases z':u=t+1
    .subst z';lia
    .have:=up (t+1) u h hu (by lia);lia
   lia
 refine #[?_,?_]
 .by_cases c:sp[t+1]=sp[t]+1
  .rw[c]at m1;exact (M.ind _ m0 m1).elim
  .omega
 .refine cp λc=>?_;rcases M.dom (sp[t]+2) (by lia) (by lia) with q|q|q
  .rw[no (sp[t]+2-1) (by lia) (by lia)]at q;cases q
  .rw[no (sp[t]+2) (by lia) (by lia)]at q;cases q
  .rw[no (sp[t]+2+1) (by lia) (by lia)]at q;cases q
def dM.first (S:dM ms sp)(M:iu ms)(h:2<=ms.length):∃ hp:0<sp.length,1<=sp[0]/\sp[0]<=2:=by
 have ex:∃ j,j<=2/\ms.getD j false=true:=by
  rcases M.dom 1 (by lia) (by lia) with q|q|q
  .exact #[0,by lia,q]
  .exact #[1,by lia,q]
  .exact #[2,by lia,q]
 obtain ⟨j,hj,e⟩:=ex;obtain ⟨u,hu,q⟩:=dC ((S.iff j).mpr e);refine #[by lia,?_,?_]
 .have m0:=(S.iff _).mp (cU (show 0<sp.length by lia));refine eO λz=>?_;rw[z,M.fst]at m0;cases m0
 .by_cases c:u=0
  .subst c;lia
  .have:=cT.mp S.up 0 u (by lia) hu (by lia);lia
def dM.last (S:dM ms sp)(M:iu ms)(h:2<=ms.length)(hp:0<sp.length):ms.length<=sp[sp.length-1]+2:=by
 have ex:∃ j,ms.length-2<=j/\ms.getD j false=true:=by
  rcases M.dom (ms.length-1) (by lia) (by lia) with q|q|q
  .exact #[_,by lia,q]
  .exact #[_,by lia,q]
  .exact #[_,by lia,q]
 obtain ⟨j,hj,e⟩:=ex;obtain ⟨u,hu,q⟩:=dC ((S.iff j).mpr e);by_cases c:u=sp.length-1
 .subst c;lia
 .have:=cT.mp S.up u (sp.length-1) hu (by lia) (by lia);lia
def dM.low (S:dM ms sp)(M:iu ms):∀(t:Nat) (h:t<sp.length),2*t+1<=sp[t]
 | 0,h=>by
  have m0:=(S.iff _).mp (cU h);refine eO λz=>?_;rw[z,M.fst]at m0;cases m0
 | t+1,h=>by
  have a:=dM.low S M t (by lia);have b:=(S.step M h).1;lia
def dM.half (S:dM ms sp)(M:iu ms):2*sp.length<=ms.length:=by
 by_cases c:sp.length=0
 .omega
 .have a:=S.low M (sp.length-1) (by lia);have b:=S.lt (cU (show sp.length-1<sp.length by lia));lia
def dM.none (S:dM ms sp)(M:iu ms)(h:ms.length<2):sp=[]:=by
 have:=S.half M;exact nC (by lia)
def cG {α:Type}(es:List α)(ms:List Bool):List α:=((es.zip ms).filter (·.2)).map (·.1)
structure Ats (P:Nat->Bool)(n:Nat)(l:List Nat):Prop where
 up:l.Pairwise (· < ·)
 iff:∀ j,j∈l↔j<n/\P j=true
def HJ (P:Nat->Bool)(n:Nat):Ats P n ((List.range n).filter P):=#[List.Pairwise.filter _ lh,λj=>by rw[eJ,cZ]]
def Ats.get {n:Nat}{l:List Nat}(A:Ats P n l){j:Nat}(h:j<l.length):l[j]<n/\P l[j]=true:=(A.iff _).mp (cU h)
def Ats.first {n:Nat}{l:List Nat}(A:Ats P n l){i:Nat}(h:i<l.getD 0 n)(hn:i<n):P i=false:=by
 cases e:P i with
 | false=>rfl
 | true=>
  obtain ⟨u,hu,q⟩:=dC ((A.iff i).mpr #[hn,e]);have h0:l.getD 0 n=l[0]'(by lia):=by
   rw[aE,az (by lia)];rfl
  rw[h0]at h;by_cases c:u=0
  .subst c;lia
  .have:=cT.mp A.up 0 u (by lia) hu (by lia);lia
def Ats.next {n:Nat}{l:List Nat}(A:Ats P n l){j:Nat}(hj:j<l.length){i:Nat}(h1:l[j]<i)(h:i<l.getD (j+1) n)(hn:i<n):P i=false:=by
 cases e:P i with
 | false=>rfl
 | true=>
  obtain ⟨u,hu,q⟩:=dC ((A.iff i).mpr #[hn,e]);have up:=cT.mp A.up;have c1:j<u:=by
   refine e8 λz=>?_;by_cases c:u=j
   .subst c;lia
   .have:=up u j hu hj (by lia);lia
  have h0:l.getD (j+1) n=l[j+1]'(by lia):=by
   rw[aE,az (by lia)];rfl
  rw[h0]at h;by_cases c:u=j+1
  .subst c;lia
  .have:=up (j+1) u (by lia) hu (by lia);lia
def Ats.le {n:Nat}{l:List Nat}(A:Ats P n l)(j:Nat):l.getD j n<=n:=by
 rw[aE];by_cases h:j<l.length
 .rw[az h];exact aZ (A.get h).1
 .rw[er (by lia)];exact ai _
def Ats.step_le {n:Nat}{l:List Nat}(A:Ats P n l){j:Nat}(hj:j<l.length):l[j]+1<=l.getD (j+1) n:=by
 rw[aE];by_cases h:j+1<l.length
 .rw[az h];exact cT.mp A.up j (j+1) hj h (by lia)
 .rw[er (by lia)];exact (A.get hj).1
def atsL (v:Nat)(xs:List Nat):List Nat:=(List.range xs.length).filter λk=>decide (xs.getD k 0=v)
def mi (v:Nat)(xs:List Nat):Ats (λk=>decide (xs.getD k 0=v)) xs.length (atsL v xs):=HJ _ _
def HK :mixL v xs ((atsL v xs).getD 0 xs.length)=xs:=by
 rw[Bi (k:=0) (bK _) ((mi v xs).le 0) (λj _ h=>iO ((mi v xs).first h (aP h ((mi v xs).le 0))))];rfl
def HL {j:Nat}(hj:j<(atsL v xs).length):mixL v xs ((atsL v xs).getD (j+1) xs.length)=(mixL v xs (atsL v xs)[j]).set (atsL v xs)[j] (eE xs (atsL v xs)[j]):=by
 have A:=mi v xs;have g:=A.get hj;rw[Bi (k:=(atsL v xs)[j]+1) (A.step_le hj) (A.le _) (λi a b=>iO (A.next hj (by lia) b (aP b (A.le _)))),Bk g.1 (bM g.2)]
def HM :mixL v xs ((atsL v xs).getD (atsL v xs).length xs.length)=recL v xs:=by
 rw[aE,er (ai _)];exact Bf (ai _)
def colN (xs:List Nat):Nat->List Nat
 | 0=>xs
 | i+1=>recL (3+i) (colN xs i)
def Bo (xs:List Nat)(i:Nat):(colN xs i).length=xs.length:=by
 induction i with
 | zero=>rfl
 | succ i ih=>rw[colN,gO,ih]
def Bp (h:Unl xs)(i:Nat):Unl (colN xs i):=by
 induction i with
 | zero=>exact h
 | succ i ih=>exact uU (qS (unlZ ih))
def mkN (cs:List Nat):Nat->List Bool
 | 0=>cs.map λ_=>false
 | i+1=>d6 (2-i) cs (mkN cs i)
def Bq (cs:List Nat):mkN cs 3=gP cs:=(Hx cs).symm
def Br (cs:List Nat)(i:Nat):cs.length=(mkN cs i).length:=by
 induction i with
 | zero=>rw[mkN,aq]
 | succ i ih=>rw[mkN,iw ih,ih]
def Bs {cs:List Nat}{ms:List Bool}(hl:cs.length=ms.length):mixM sh cs ms 1=ms:=by
 by_cases h:0<cs.length
 .rw[vb hl h (λz=>by lia)];rfl
 .have:ms=[]:=nC (by lia);subst this;unfold mixM;rw[nC (show (d6 sh cs []).length=0 by rw[iw hl];rfl)];rfl
def aO (ps:List Nat):Prop:=∀ i (h:i<ps.length),ps[i]<=i
def par (ps:List Nat):Nat->Option Nat
 | 0=>none
 | k+1=>ps[k]?
def bw (T:aO ps){k p:Nat}(h:par ps k=some p):p<k/\k<ps.length+1:=by
 cases k with
 | zero=>cases h
 | succ k=>
  obtain ⟨h1,rfl⟩:=aM.mp (show ps[k]?=some p from h);have:=T k h1;lia
def qW {ps:List Nat}{k:Nat}(h1:1<=k)(h2:k<ps.length+1):∃ p,par ps k=some p:=by
 cases k with
 | zero=>lia
 | succ k=>exact #[_,az (show k<ps.length by lia)]
def HN {ps:List Nat}{k:Nat}(h2:k<ps.length+1)(h:par ps k=none):k=0:=by
 cases k with
 | zero=>rfl
 | succ k=>
  have:=List.getElem?_eq_none_iff.mp (show ps[k]?=none from h);lia
def wayF (ps:List Nat)(one:Nat):Nat->Nat->Option (List Nat)
 | 0,_=>none
 | f+1,o=>if o=one then some [o] else match par ps o with
  | none=>none
  | some p=>(wayF ps one f p).map (· ++ [o])
def Bt (T:aO ps){one:Nat}:∀ f g o,o<f->o<g->wayF ps one f o=wayF ps one g o
 | 0,_,_,h,_=>absurd h (kM _)
 | _,0,_,_,h=>absurd h (kM _)
 | f+1,g+1,o,hf,hg=>by
  unfold wayF;split
  .rfl
  .cases e:par ps o with
   | none=>rfl
   | some p=>
    have:=(bw T e).1;show (wayF ps one f p).map _=(wayF ps one g p).map _;rw[Bt T f g p (by lia) (by lia)]
def wayL (ps:List Nat)(one o:Nat):Option (List Nat):=wayF ps one (o+1) o
def HP :wayL ps o o=some [o]:=by
 unfold wayL wayF;rw[ae rfl]
def qX (T:aO ps){one o:Nat}(h:o≠one):wayL ps one o=match par ps o with
  | none=>none
  | some p=>(wayL ps one p).map (· ++ [o]):=by
 unfold wayL;rw[wayF,af h];cases e:par ps o with
 | none=>rfl
 | some p=>
  show (wayF ps one o p).map _=(wayF ps one (p+1) p).map _;rw[Bt T o (p+1) p (bw T e).1 (by lia)]
def Bu (T:aO ps){one:Nat}:∀ n o,o<=n->o<one->wayL ps one o=none
 | n,o,hn,h=>by
  rw[qX T (by lia)];cases e:par ps o with
  | none=>rfl
  | some p=>
   have hp:=(bw T e).1;show (wayL ps one p).map _=none;cases n with
   | zero=>lia
   | succ n=>rw[Bu T n p (by lia) (by lia)];rfl
def isB (ps:List Nat)(k j:Nat):Bool:=(wayL ps k j).isSome
def benL (ps:List Nat)(k n:Nat):List Nat:=(List.range n).filter (isB ps k)
def ix {k:Nat}:isB ps k k=true:=by
 unfold isB;rw[HP];rfl
def fm (T:aO ps){k j:Nat}(h:j<k):isB ps k j=false:=by
 unfold isB;rw[Bu T j j (ai _) h];rfl
def eR (T:aO ps){k j p:Nat}(h:j≠k)(e:par ps j=some p):isB ps k j=isB ps k p:=by
 unfold isB;rw[qX T h,e];show ((wayL ps k p).map _).isSome=_;cases wayL ps k p<;>rfl
def Bv (T:aO ps)(k:Nat):benL ps k (k+1)=[k]:=by
 unfold benL;rw[fQ,c7];have e1:(List.range k).filter (isB ps k)=[]:=by
  rw[iP];intro j hj z;rw[fm T (cZ.mp hj)]at z;cases z
 rw[e1,nk,dr ix];rfl
def fo {k:Nat}:j∈benL ps k n↔j<n/\isB ps k j=true:=by
 unfold benL;rw[eJ,cZ]
def mj {k:Nat}:benL ps k (n+1)=benL ps k n++(if isB ps k n=true then [n] else []):=by
 unfold benL;rw[fQ,c7];congr 1;by_cases h:isB ps k n=true
 .rw[ae h,dr h];rfl
 .rw[af h,eB h];rfl
def mn (ps:List Nat)(k n:Nat):(benL ps k n).length<=n:=by
 have:=dW (isB ps k) (List.range n);rw[cq]at this;exact this
def vc (ps:List Nat)(k n:Nat):(benL ps k n).Pairwise (· < ·):=List.Pairwise.filter _ lh
def Bw (T:aO ps):∀ n j,j<=n->j<ps.length+1->isB ps 0 j=true
 | n,j,hn,h=>by
  by_cases c:j=0
  .rw[c];exact ix
  .obtain ⟨p,e⟩:=qW (by lia) h;have:=(bw T e).1;rw[eR T c e];cases n with
   | zero=>lia
   | succ n=>exact Bw T n p (by lia) (by lia)
def HQ (T:aO ps):benL ps 0 (ps.length+1)=List.range (ps.length+1):=by
 unfold benL;rw[sT];exact λj hj=>Bw T j j (ai _) (cZ.mp hj)
def aY (ps:List Nat)(k n:Nat):List Nat:=(List.range n).filter λj=>decide (par ps j=some k)
def cO {k j:Nat}:j∈aY ps k n↔j<n/\par ps j=some k:=by
 unfold aY;rw[eJ,cZ,decide_eq_true_eq]
def Bx {k:Nat}:aY ps k (n+1)=aY ps k n++(if par ps n=some k then [n] else []):=by
 unfold aY;rw[fQ,c7];congr 1;by_cases h:par ps n=some k
 .rw[ae h,dr (by exact aX h)];rfl
 .rw[af h,eB (by rw[bj h];decide)];rfl
def qY (ps:List Nat)(k n:Nat):(aY ps k n).length<=n:=by
 have:=dW (λj=>decide (par ps j=some k)) (List.range n);rw[cq]at this;exact this
def By (ps:List Nat)(k n:Nat):(aY ps k n).Pairwise (· < ·):=List.Pairwise.filter _ lh
def qZ (T:aO ps){k:Nat}:∀ n j,j<=n->j<ps.length+1->(isB ps k j=true↔j=k\/∃ c,par ps c=some k/\isB ps c j=true)
 | n,j,hn,h=>by
  by_cases c:j=k
  .constructor
   .exact λ_=>.inl c
   .intro _;rw[c];exact ix
  .cases e:par ps j with
   | none=>
    have j0:=HN h e;have no:∀ m,j≠m->isB ps m j=false:=λm hm=>by
     unfold isB;rw[qX T hm,e];rfl
    constructor
    .intro z;rw[no k c]at z;cases z
    .rintro (z|⟨d,hd,z⟩)
     .exact absurd z c
     .by_cases y:j=d
      .rw[<-y,e]at hd;cases hd
      .rw[no d y]at z;cases z
   | some p=>
    have hp:=(bw T e).1;cases n with
    | zero=>lia
    | succ n=>
     have ih:=qZ T (k:=k) n p (by lia) (by lia);rw[eR T c e,ih];constructor
     .rintro (z|⟨d,hd,z⟩)
      .refine .inr #[j,?_,ix];rw[e,z]
      .by_cases y:j=d
       .rw[<-y]at z;rw[fm T hp]at z;cases z
       .exact .inr #[d,hd,by rw[eR T y e];exact z]
     .rintro (z|⟨d,hd,z⟩)
      .exact absurd z c
      .by_cases y:j=d
       .subst y;rw[e]at hd;exact .inl (aJ hd)
       .rw[eR T y e]at z;exact .inr #[d,hd,z]
def mq (T:aO ps){k c d:Nat}(hc:par ps c=some k)(hd:par ps d=some k)(hcd:c≠d):∀ n j,j<=n->isB ps c j=true->isB ps d j=true->False
 | n,j,hn,h1,h2=>by
  by_cases e1:j=c
  .subst e1;rw[eR T hcd hc,fm T (bw T hd).1]at h2;cases h2
  .by_cases e2:j=d
   .subst e2;rw[eR T e1 hd,fm T (bw T hc).1]at h1;cases h1
   .cases e:par ps j with
    | none=>
     unfold isB at h1;rw[qX T e1,e]at h1;cases h1
    | some p=>
     have hp:=(bw T e).1;rw[eR T e1 e]at h1;rw[eR T e2 e]at h2;cases n with
     | zero=>lia
     | succ n=>exact mq T hc hd hcd n p (by lia) h1 h2
def HR (T:aO ps){k:Nat}(hk:k<ps.length+1):(k::((aY ps k (ps.length+1)).map λc=>benL ps c (ps.length+1)).flatten).Perm (benL ps k (ps.length+1)):=by
 have lt:∀{l:List Nat},l.Pairwise (· < ·)->l.Nodup:=λh=>List.Pairwise.imp (λ{a b} (q:a<b)=>bo q) h;refine (List.perm_ext_iff_of_nodup ?_ (lt (vc ps k _))).mpr λj=>?_
 .rw[dz];refine #[λh=>?_,?_]
  .obtain ⟨l,hl,hj⟩:=nG.mp h;obtain ⟨c,hc,rfl⟩:=bA.mp hl;have h1:=(cO.mp hc).2;have h2:=(fo.mp hj).2;rw[fm T (bw T h1).1]at h2;cases h2
  .show List.Pairwise _ _;rw[List.pairwise_flatten];refine #[λl hl=>?_,?_]
   .obtain ⟨c,hc,rfl⟩:=bA.mp hl;exact lt (vc ps c _)
   .rw[iM];refine List.Pairwise.imp_of_mem (λ{c d} hc hd hcd=>?_) (By ps k _);intro x hx y hy z;subst z;exact mq T (cO.mp hc).2 (cO.mp hd).2 (bo hcd) x x (ai _) (fo.mp hx).2 (fo.mp hy).2
 .rw[aW,nG,fo];constructor
  .rintro (rfl|⟨l,hl,hj⟩)
   .exact #[hk,ix]
   .obtain ⟨c,hc,rfl⟩:=bA.mp hl;obtain ⟨h1,h2⟩:=fo.mp hj;exact #[h1,(qZ T j j (ai _) h1).mpr (.inr #[c,(cO.mp hc).2,h2])]
  .rintro ⟨h1,h2⟩;rcases (qZ T j j (ai _) h1).mp h2 with q|⟨c,hc,q⟩
   .exact .inl q
   .exact .inr #[_,bA.mpr #[c,cO.mpr #[(bw T hc).2,hc],rfl],fo.mpr #[h1,q]]
def HS (t u:TS):TS:=λD Z H=>∀ N:L2.St->Hp->Prop,(∀ Z' H',u D Z' H'->N Z' H')->t { D with nx:=N } Z H
def cP {st:Stmt}{rest:List Stmt}{t:TS}(h1:PS X st t)(h2:PSs X rest u):PSs X (st::rest) (HS t u):=λLB s Z H D I h=>ay h1 h2 LB s Z H D I (h (u D) λ_ _ z=>z)
inductive Bz (t u:TS)(D:Ends)(Z:L2.St)(H:Hp):Prop
 | c:∀(M:L2.St->Hp->Prop),(∀ N:L2.St->Hp->Prop,(∀ Z' H',M Z' H'->N Z' H')->t { D with nx:=N } Z H)->(∀ Z' H',M Z' H'->u D Z' H')->Bz t u D Z H
def iy {st:Stmt}{rest:List Stmt}{t:TS}(h1:PS X st t)(h2:PSs X rest u):PSs X (st::rest) (Bz t u):=λLB s Z H D I h=>by
 obtain ⟨M,h3,h4⟩:=h;exact fU h1 h2 LB s Z H D I #[M,h3 M λ_ _ z=>z,h4]
def BA {tb:TS}{D:Ends}{Pn:L2.St->Hp->Prop}{i:Nat}{x:V}{Z:L2.St}{H:Hp}(h:∀(N B:L2.St->Hp->Prop) (R:VK),(∀ Z H,Pn Z H->N Z H)->(∀ Z H,D.nx Z H->B Z H)->(∀ v H,D.rt v H->R v H)->tb { nx:=N,rt:=R,bk:=B,ct:=N } (Z.set i (some x)) H):gE i x Z H λZ2 H2=>tb { D with nx:=Pn,ct:=Pn,bk:=D.nx } Z2 H2:=h Pn D.nx D.rt (λ_ _ z=>z) (λ_ _ z=>z) (λ_ _ z=>z)
def HU {tb:TS}{D:Ends}{Pn:L2.St->Hp->Prop}{Z:L2.St}{H:Hp}(h:∀(N B:L2.St->Hp->Prop) (R:VK),(∀ Z H,Pn Z H->N Z H)->(∀ Z H,D.nx Z H->B Z H)->(∀ v H,D.rt v H->R v H)->tb { nx:=N,rt:=R,bk:=B,ct:=N } Z H):tb { D with nx:=Pn,ct:=Pn,bk:=D.nx } Z H:=h Pn D.nx D.rt (λ_ _ z=>z) (λ_ _ z=>z) (λ_ _ z=>z)
seal PSs PS PE PT PW PA PI PG PO
section
variable {P:Program}{w:World}{K:Frag}{mg:Str->Option Value}{base:Heap}
def HV (T:Txt K mg)(wj:DF K mg "_law_mixed" ph qv):FC P w K mg base 1 "_law_mixed" qv tW:=by
 refine wj.ok uL (λvs H Q E h=>?_) (λf cdv A outer s H vs Q E hr h=>?_)
 .obtain ⟨c,k,rfl,_⟩:=h;rfl
 obtain ⟨c,k,rfl,q⟩:=h;refine #[_,(ay (aC (i:=2) uL.nd rfl (ar rfl) (aw fG (aw dh (aw bF (aw bF (aw fG (pv 0) ah) (aw dh ah (pv 1))) ah) ah) ah))
   (ay (aC (i:=3) uL.nd rfl (ar rfl) (aw fG (aw bF (aw bF (aw dh (pv 2) (pv 2)) (aw dh ah (pv 2))) (pv 1)) ah))
   (av (aN (aw jG (aw fG (aw bF (aw bF (aw dh (pv 3) (pv 3)) (aw dh ah (pv 3))) (aw dh ah (pv 1))) ah) ah))))),?_]
 walk_at "rd"
 exact q _
def HW (T:Txt K mg)(wm:DF K mg "_law_begin" pe qt):FC P w K mg base 1 "_law_begin" qt (tX K):=by
 refine wm.ok GY (λvs H Q E h=>?_) (λf cdv A outer s H vs Q E hr h=>?_)
 .obtain ⟨L,ns,rfl,_⟩:=h;rfl
 obtain ⟨L,ns,rfl,hS,q⟩:=h;refine #[_,(av (aN (yU (og fR (pv 0) (og fR ah (og fR ah yR))) rfl rfl (by simp) (by decide)))),?_];intro p hp;refine #[_,rfl,ak,[(.inr "script",.ref L),(.inr "at",.int 0),(.inr "left",.int 0)],rfl,(by show 3<=15;decide),?_];have e:upd (upd H p (.dK [])) p (.dK (fT [] [(.inr "script",.ref L),(.inr "at",.int 0),(.inr "left",.int 0)]))=upd H p (dj L 0 0):=by
  rw[C8];have:fT [] [((.inr "script" : Key),V.ref L),(.inr "at",.int 0),(.inr "left",.int 0)]=[(.inr "script",.ref L),(.inr "at",.int 0),(.inr "left",.int 0)]:=by
   have a1:putK [] (.inr "script" : Key) (V.ref L)=[(.inr "script",.ref L)]:=iS (kvs:=[]) _ rfl;have a2:putK [((.inr "script" : Key),V.ref L)] (.inr "at") (.int 0)=[(.inr "script",.ref L),(.inr "at",.int 0)]:=by
    rw[iS _ (by rw[c8 (gh (show ("script" : Str) ≠ "at" by decide +kernel))];rfl)];rfl
   have a3:putK [((.inr "script" : Key),V.ref L),(.inr "at",.int 0)] (.inr "left") (.int 0)=[(.inr "script",.ref L),(.inr "at",.int 0),(.inr "left",.int 0)]:=by
    rw[iS _ (by rw[c8 (gh (show ("script" : Str) ≠ "left" by decide +kernel)),c8 (gh (show ("at" : Str) ≠ "left" by decide +kernel))];rfl)];rfl
   unfold fT;simp only[nA,List.foldl_nil];rw[a1,a2,a3]
  rw[this];rfl
 rw[e];exact q p _ hp (aD hp _) #[ns,0,0,ak,(aD hp _).seq hS]
def HX (T:Txt K mg)(wo:DF K mg "_law_take" pk gM)(Ku:FC P w K mg base 1 "_law_mixed" qv tW):FC P w K mg base 2 "_law_take" gM (ij K):=by
 refine wo.ok jY (λvs H Q E h=>?_) (λf cdv A outer s H vs Q E hr h=>?_)
 .obtain ⟨d,L,m,rfl,_⟩:=h;rfl
 obtain ⟨d,L,m,rfl,⟨hm,hm'⟩,⟨ns,a,l,hd,hS⟩,q⟩:=h;refine #[_,(ay (aC (i:=2) jY.nd rfl (ar rfl) (gb (c9 hr) (pv 0) fR (λ_ _=>rfl)))
   (ay (aC (i:=3) jY.nd rfl (ar rfl) (gb (c9 hr) (pv 0) fR (λ_ _=>rfl)))
   (fU (bR (bg dF (gb (c9 hr) (pv 0) fR (λ_ _=>rfl)) ah (bz _)) (ay (iV (c9 hr) (pv 0) fR (aw bF (pv 2) ah) rfl)
   (ay (aC (i:=4) jY.nd rfl (ar rfl) ah)
   (fU (bR (bg nX (aV (bS (K:=K)) rfl T.bQ bJ (aa (pv 3) ag)) ah (bz _)) (av (aC (i:=4) jY.nd rfl (ar rfl) (aH (bC (K:=K)) (pv 3) (aw fG (pv 2) (aV (bS (K:=K)) rfl T.bQ bJ (aa (pv 3) ag))) (λ_ _=>rfl)))) cv)
   (fU (bR (PW.pt (lA (bg xZ (pv 2) (aV (bS (K:=K)) rfl T.bQ bJ (aa (pv 3) ag)) (bz _)) (nS (bg fS (aV yd rfl T.CO boot_abs (aa (pv 4) ag)) (aw jH ah ah) (bz _))))) (av (aN (aw fG (aG Ku hr (aa (pv 4) (aa (pv 2) ag))) (pv 1)))) cv)
   (av (iV (c9 hr) (pv 0) fR (aV yd rfl T.CO boot_abs (aa (pv 4) ag)) rfl)))))) cv)
   (ay (aC (i:=5) jY.nd rfl (ar rfl) (aw fG (gb (c9 hr) (pv 0) fR (λ_ _=>rfl)) (pv 1)))
   (ay (iV (c9 hr) (pv 0) fR (aw jG (gb (c9 hr) (pv 0) fR (λ_ _=>rfl)) (pv 1)) rfl)
   (av (aN (pv 5)))))))),?_]
 refine #[_,rfl,_,_,rfl,E8 hd,_,rfl,_,_,rfl,E7 hd,?_];refine #[λZ' H'=>∃(x2 x3 x4 x5:Option V) (a' l':Int),Z'=[some (.ref d),some (.int m),x2,x3,x4,x5]/\H' d=some (dj L a' l')/\Keep d H H',?_,?_]
 .refine #[_,rfl,_,_,rfl,tV hd,rfl,_,rfl,?_];refine ite2 (λ_=>?_) (λ_=>?_)
  .refine #[_,rfl,_,_,rfl,rfl,_,rfl,_,_,rfl,E9 hd,?_];have hd1:upd H d (dj L (a+1) l) d=some (dj L (a+1) l):=ak;obtain ⟨-,k1⟩:=LS.set (a':=a+1) (l':=l) hd hS;have hS1:=tU hd k1 hS;generalize upd H d (dj L (a+1) l)=H1 at hd1 k1 hS1 ⊢;refine #[λZ' H'=>∃ c:Int,Z'=[some (.ref d),some (.int m),some (.int a),some (.ref L),some (.int c),none]/\H1=H',?_,?_]
   .refine #[_,rfl,_,_,rfl,.inl hS1,_,_,rfl,rfl,_,rfl,?_];refine ite2 (λc=>?_) (λc=>?_)
    .have c':(0:Int)<(((ns.map V.int).length:Nat):Int):=bM c;obtain ⟨v,hv⟩:=Fb (ns:=ns) (k:=a) (by rw[aq]at c';lia);refine #[_,rfl,_,rfl,_,rfl,_,_,rfl,.inl hS1,_,_,rfl,rfl,c',_,_,_,_,rfl,rfl,hS1,hv,?_];exact #[v,rfl,rfl]
    .exact #[0,rfl,rfl]
   rintro Z' H' ⟨c,rfl,rfl⟩;refine #[λZ' H'=>Z'=[some (.ref d),some (.int m),some (.int a),some (.ref L),some (.int c),none]/\H1=H',?_,?_]
   .refine #[_,rfl,_,rfl,_,_,rfl,.inl hS1,_,_,rfl,rfl,_,rfl,?_];refine ite2 (λ_=>?_) (λ_=>?_)
    .refine iteT ?_;refine #[_,rfl,_,rfl,c,a,rfl,λv=>#[_,rfl,_,_,rfl,rfl,hm,?_]];exact q _ _ (kS _ (by lia)) (kT _ hm) k1 #[ns,a+1,l,hd1,hS1]
    .refine #[_,rfl,_,rfl,_,_,rfl,rfl,#[by decide,by decide,by decide],_,_,rfl,rfl,_,rfl,?_];refine ite2 (λ_=>?_) (λ_=>?_)
     .refine #[_,rfl,_,rfl,c,a,rfl,λv=>#[_,rfl,_,_,rfl,rfl,hm,?_]];exact q _ _ (kS _ (by lia)) (kT _ hm) k1 #[ns,a+1,l,hd1,hS1]
     .exact #[rfl,rfl]
   rintro Z' H' ⟨rfl,rfl⟩;refine #[_,rfl,_,rfl,_,rfl,_,_,rfl,zv hd1,?_];obtain ⟨-,k2⟩:=LS.set (a':=a+1) (l':=if c<0 then -c else c) hd1 hS1
   exact #[_,_,_,_,_,_,rfl,ak,k1.trans k2]
  .exact #[_,_,_,_,a,l,rfl,hd,Keep.refl _ _]
 rintro Z' H' ⟨x2,x3,x4,x5,a',l',rfl,hd',k'⟩;have hS':=tU hd k' hS;refine #[_,rfl,_,_,rfl,tV hd',_,rfl,_,_,rfl,rfl,hm,?_];refine #[_,rfl,_,_,rfl,tV hd',_,rfl,_,_,rfl,rfl,#[hm,hm'],_,rfl,_,_,rfl,zv hd',?_];obtain ⟨s1,k1⟩:=LS.set (a':=a') (l':=l'/m) hd' hS';refine #[_,rfl,?_];exact q _ _ (kS _ (by lia)) (kT _ hm) (k'.trans k1) s1
inductive vd (vs:List V)(H:Hp)(Q:VK)(w_1:XK):Prop
 | c:∀(a b:Nat),vs=[.int a,.int b]->a≠b->Q (.int (lu a b:Nat)) H->vd vs H Q w_1
def HY (T:Txt K mg)(wq:DF K mg "lowest_unlike" oN pZ):FC P w K mg base 1 "lowest_unlike" pZ vd:=by
 refine wq.ok AR (λvs H Q E h=>?_) (λf cdv A outer s H vs Q E hr h=>?_)
 .obtain ⟨a,b,rfl,_⟩:=h;rfl
 obtain ⟨a,b,rfl,hab,q⟩:=h;refine #[_,(ay (aC (i:=2) AR.nd rfl (ar rfl) (aw Dw (pv 0) (pv 1)))
   (av (aN (aw dv (D0 F.plainAttrs_int F.slot_int_bit_length F.type_int_bit_length E5 (aw xT (pv 2) (hW hZ (pv 2)))) ah)))),?_]
 refine #[_,rfl,_,rfl,_,_,rfl,rfl,_,rfl,_,rfl,_,rfl,_,_,rfl,rfl,rfl,_,rfl,rfl,_,_,rfl,rfl,?_];rw[<-Hi a b hab]at q;exact q
inductive q9 (K:Frag)(vs:List V)(H:Hp)(Q:VK)(w_1:XK):Prop
 | c:∀(d L:Addr),vs=[.ref d]->LS K L d H->(∀(v:Int) (H':Hp),-(10^60)<v->v<10^60->Keep d H H'->LS K L d H'->Q (.int v) H')->q9 K vs H Q w_1
def HZ {x m:Int}(h1:-999<=x)(h2:x<=999)(h3:0<m)(h4:m<=10^57):-(10^60)<x*m/\x*m<10^60:=by
 have a:=Int.mul_le_mul_of_nonneg_right h2 (Int.le_of_lt h3);have b:=Int.mul_le_mul_of_nonneg_right h1 (Int.le_of_lt h3);lia
def Ia (T:Txt K mg)(wt:DF K mg "_law_key" pq l9)(cj:FC P w K mg base 2 "_law_take" gM (ij K)):FC P w K mg base 3 "_law_key" l9 (q9 K):=by
 refine wt.ok AU (λvs H Q E h=>?_) (λf cdv A outer s H vs Q E hr h=>?_)
 .obtain ⟨d,L,rfl,_⟩:=h;rfl
 obtain ⟨d,L,rfl,hs,q⟩:=h;refine #[_,(ay (aC (i:=1) AU.nd rfl (ar rfl) (aG cj hr (aa (pv 0) (aa ah ag))))
   (fU (bR (bg fS (pv 1) ah (bz _)) (av (aN (aG cj hr (aa (pv 0) (aa ah ag))))) cv)
   (fU (bR (bg fS (pv 1) ah (bz _)) (av (aN (aw dv (aG cj hr (aa (pv 0) (aa ah ag))) ah))) cv)
   (fU (bR (bg dF (pv 1) ah (bz _)) (av (aN (aw dh (aw dv (aG cj hr (aa (pv 0) (aa ah ag))) ah) (aH (bC (K:=K)) (eC (aa ah (aa (aw jH ah ah) (aa (aw jH ah ah) (aa (aw jH ah ah) ag))))) (aG cj hr (aa (pv 0) (aa ah ag))) (λ_ _=>rfl))))) cv)
   (av (aN (aw dh (aH (bC (K:=K)) (eC (aa ah (aa (hW hZ ah) ag))) (aG cj hr (aa (pv 0) (aa ah ag))) (λ_ _=>rfl)) (aw dv (aw dv (aw jH ah ah) ah) (aG cj hr (aa (pv 0) (aa ah ag))))))))))),?_]
 refine #[_,rfl,d,L,8,rfl,by decide,hs,λw1 H1 w0 w8 k1 s1=>?_];have nd:∀{H':Hp} {p:Addr},LS K L d H'->H' p=none->p≠d:=λs hp z=>by
  obtain ⟨_,_,_,e,_⟩:=s.ex;rw[<-z,hp]at e;cases e
 refine #[λZ' H'=>Z'=[some (.ref d),some (.int w1)]/\H1=H',?_,?_]
 .refine #[_,rfl,_,_,rfl,rfl,_,rfl,?_];refine ite2 (λc=>?_) (λc=>?_)
  .refine #[_,rfl,d,L,10,rfl,by decide,s1,λu H2 u0 u1 k2 s2=>?_];exact q u H2 (by lia) (by lia) (k1.trans k2) s2
  .exact #[rfl,rfl]
 rintro Z' H' ⟨rfl,rfl⟩;refine #[λZ' H'=>Z'=[some (.ref d),some (.int w1)]/\H1=H',?_,?_]
 .refine #[_,rfl,_,_,rfl,rfl,_,rfl,?_];refine ite2 (λc=>?_) (λc=>?_)
  .refine #[_,rfl,d,L,60,rfl,by decide,s1,λu H2 u0 u1 k2 s2=>#[_,_,rfl,rfl,?_]];exact q (u-30) H2 (by lia) (by lia) (k1.trans k2) s2
  .exact #[rfl,rfl]
 rintro Z' H' ⟨rfl,rfl⟩;refine #[λZ' H'=>Z'=[some (.ref d),some (.int w1)]/\H1=H',?_,?_]
 .refine #[_,rfl,rfl,_,rfl,?_];refine ite2 (λc=>?_) (λc=>?_)
  .refine #[_,rfl,d,L,1999,rfl,by decide,s1,λu H2 u0 u1 k2 s2=>#[_,_,rfl,rfl,?_]];refine #[_,_,rfl,rfl,#[by decide,by decide,by decide],_,_,rfl,rfl,#[by decide,by decide,by decide],_,_,rfl,rfl,#[by decide,by decide,by decide],(by show 4<=sizeLine;decide),λp hp=>?_];refine #[_,rfl,d,L,4,rfl,by decide,s2.of_new hp _,λb H3 b0 b1 k3 s3=>?_];obtain ⟨m,hat,m0,m1⟩:∃ m:Int,atI [V.int 1,V.int (10^(19:Int).toNat),V.int (10^(38:Int).toNat),V.int (10^(57:Int).toNat)] b=some (.int m)/\0<m/\m<=10^57:=by
    have z:b=0\/b=1\/b=2\/b=3:=by lia
    rcases z with rfl|rfl|rfl|rfl
    .exact #[_,rfl,by decide +kernel,by decide +kernel]
    .exact #[_,rfl,by decide +kernel,by decide +kernel]
    .exact #[_,rfl,by decide +kernel,by decide +kernel]
    .exact #[_,rfl,by decide +kernel,by decide +kernel]
   refine #[_,_,_,_,rfl,rfl,SqL.of (k3 p _ (nd s2 hp) ak),hat,_,_,rfl,rfl,.inl #[by lia,by lia],?_];obtain ⟨f1,f2⟩:=HZ (x:=u-999) (m:=m) (by lia) (by lia) m0 m1;exact q _ H3 f1 f2 ((k1.trans k2).trans ((aD hp _).keep.trans k3)) s3
  .exact #[rfl,rfl]
 rintro Z' H' ⟨rfl,rfl⟩;refine #[_,rfl,(by show 2<=sizeLine;decide),λp hp=>?_];refine #[_,rfl,d,L,2,rfl,by decide,s1.of_new hp _,λb H2 b0 b1 k2 s2=>?_];obtain ⟨m,hat,hm⟩:∃ m:Int,atI [V.int 1,V.int (-1)] b=some (.int m)/\(m=1\/m = -1):=by
  have z:b=0\/b=1:=by lia
  rcases z with rfl|rfl
  .exact #[_,rfl,.inl rfl]
  .exact #[_,rfl,.inr rfl]
 refine #[_,_,_,_,rfl,rfl,SqL.of (k2 p _ (nd s1 hp) ak),hat,_,_,rfl,rfl,#[by decide,by decide,by decide],_,_,rfl,rfl,_,rfl,d,L,3,rfl,by decide,s2,λu H3 u0 u1 k3 s3=>#[_,_,rfl,rfl,_,_,rfl,rfl,.inl #[by lia,by lia],?_]];have e60:(10:Int)^(60:Int).toNat=10^60:=rfl;rw[e60];have kk:=k1.trans ((aD hp _).keep.trans (k2.trans k3));rcases hm with rfl|rfl
 .exact q _ H3 (by lia) (by lia) kk s3
 .exact q _ H3 (by lia) (by lia) kk s3
def Rise (es:List (Int×Int)):Prop:=es.Pairwise λa b=>pLt a b=true
def eF (k:Int)(e:Int×Int):Prop:=-(10^60)<e.1/\e.1<10^60/\0<=e.2/\e.2<k
def Ib {κ:Type}[DecidableEq κ](kvs:List (κ×V))(k:κ)(v:V):(putK kvs k v).map (·.1)=if (kvs.any λkv=>decide (kv.1=k))=true then kvs.map (·.1) else kvs.map (·.1)++[k]:=by
 unfold putK;split
 .rw[iL];apply sU;intro a ha;show (if a.1=k then (a.1,v) else a).1=a.1
  split<;>rfl
 .rw[bq];rfl
def gp (e:Int×Int):Int:=64*(if 0<=e.1 then 2*e.1 else -2*e.1-1)+e.2
def gq (e:Int×Int):Nat:=(gp e).toNat
def mw {e:Int×Int}(h:eF 64 e):((gq e:Nat):Int)=gp e:=by
 obtain ⟨h1,h2,h3,h4⟩:=h;unfold gq gp;split<;>lia
def Ic {e:Int×Int}(h:eF 64 e):gq e<2^207:=by
 have z:=mw h;obtain ⟨h1,h2,h3,h4⟩:=h;unfold gp at z;split at z<;>lia
def Ie {e f:Int×Int}(h:eF 64 e)(g:eF 64 f)(z:gq e=gq f):e=f:=by
 have z1:=mw h;have z2:=mw g;obtain ⟨h1,h2,h3,h4⟩:=h;obtain ⟨g1,g2,g3,g4⟩:=g;obtain ⟨a,b⟩:=e;obtain ⟨c,d⟩:=f;rw[z,z2]at z1;unfold gp at z1;dsimp only at *;have:a=c/\b=d:=by
  split at z1<;>split at z1<;>lia
 rw[this.1,this.2]
inductive mx (K:Frag)(vs:List V)(H:Hp)(Q:VK)(w_1:XK):Prop
 | c:∀(v:V) (e:Int×Int),vs=[v]->Rep.has K H e v->Q (.int (gp e)) H->mx K vs H Q w_1
def Ig (T:Txt K mg)(wx:DF K mg "code" oJ pW):FC P w K mg base 1 "code" pW (mx K):=by
 refine wx.ok uH (λvs H Q E h=>?_) (λf cdv A outer s H vs Q E hr h=>?_)
 .obtain ⟨v,e,rfl,_⟩:=h;rfl
 obtain ⟨v,e,rfl,he,q⟩:=h;obtain ⟨p,x1,x2,rfl,hT,e1,e2⟩:=(show hasP K H e v from he);have hT:=SqT.of (K:=K) hT;have e1:x1=.int e.1:=e1;have e2:x2=.int e.2:=e2;subst e1 e2;refine #[_,(ay (aC (i:=1) uH.nd rfl (ar rfl) (aH (bN (K:=K)) (pv 0) ah (λ_ _=>rfl)))
   (ay (aC (i:=2) uH.nd rfl (ar rfl) (xI (bg xZ (pv 1) ah (bz _)) (aw dh ah (pv 1)) (aw dv (aw dh (hW hZ ah) (pv 1)) ah)))
   (av (aN (aw bF (aw dh (uh rfl T.Kr) (pv 2)) (aH (bN (K:=K)) (pv 0) ah (λ_ _=>rfl))))))),?_]
 refine #[_,rfl,_,_,_,_,rfl,rfl,hT,rfl,?_];refine #[_,rfl,_,_,rfl,rfl,_,rfl,?_];refine ite2 (λc=>?_) (λc=>?_)
 .have c':0<=e.1:=bM c;refine #[_,rfl,_,_,rfl,rfl,.inl #[by decide,by decide],?_];refine #[_,rfl,_,_,rfl,rfl,.inl #[by decide,by decide],_,rfl,_,_,_,_,rfl,rfl,hT,rfl,_,_,rfl,rfl,?_];unfold gp at q;rw[ae c']at q;exact q
 .have c':¬ 0<=e.1:=iO (iN.mpr c);refine #[_,rfl,_,rfl,_,_,rfl,rfl,.inl #[by decide,by decide],_,_,rfl,rfl,?_];refine #[_,rfl,_,_,rfl,rfl,.inl #[by decide,by decide],_,rfl,_,_,_,_,rfl,rfl,hT,rfl,_,_,rfl,rfl,?_];unfold gp at q;rw[af c']at q;exact q
abbrev nV (n:Nat):V:=.int (n:Int)
def my {v:Int}(h:0<=v):∃ n:Nat,v=(n:Int):=#[v.toNat,by lia]
def i5 {xs:List Nat}{i:Nat}(h:i<xs.length):atI (xs.map nV) (i:Int)=some (nV (xs.getD i 0)):=
 dG (by rw[bf,az h,aE,az h];rfl)
def BB {xs:List Nat}{i:Nat}(h0:i≠0)(h:i<xs.length):atI (xs.map nV) ((i:Int)-1)=some (nV (xs.getD (i-1) 0)):=by
 have e:(i:Int)-1=((i-1:Nat):Int):=by lia
 rw[e];exact i5 (by lia)
def mz {xs:List Nat}{i:Nat}{x:V}(h:(xs.map nV)[i]?=some x):i<xs.length/\x=nV (xs.getD i 0):=by
 rw[bf]at h;cases e:xs[i]? with
 | none=>rw[e]at h;cases h
 | some y=>
  rw[e]at h;refine #[(aM.mp e).1,?_];rw[aE,e];exact (aJ h).symm
def Ih (n:Nat):Builtin.bitAnd (n:Int) 1=((n%2:Nat):Int):=by
 unfold Builtin.bitAnd;rw[aX (iE n),aX (by decide:(0:Int)<=1)];show ((n &&& 1:Nat):Int)=_;rw[Nat.and_one_is_mod]
def Ii (a b:Nat):2*((lu a b:Nat):Int)+Builtin.bitAnd ((b:Int)/2^((lu a b:Nat):Int).toNat) 1=((fig a b:Nat):Int):=by
 have e:(b:Int)/2^((lu a b:Nat):Int).toNat=((b/2^lu a b:Nat):Int):=by
  rw[fN,Int.natCast_ediv,Int.natCast_pow];rfl
 rw[e,Ih];unfold fig;lia
def But (p:Addr)(H H':Hp):Prop:=∀ b o,b≠p->H b=some o->H' b=some o
def But.sq {K:Frag}{a:Addr}(k:But p H H')(h:SqL K H a xs)(n:H p=none):SqL K H' a xs:=by
 rcases h with (h|⟨o,h⟩)|h
 .exact .inl (.inl (k _ _ (au h n) h))
 .exact .inl (.inr #[o,k _ _ (au h n) h])
 .exact .inr h
def rf (xs:List Nat):(xs.map nV).all f9=true:=by
 rw[eA];intro x hx;obtain ⟨n,_,rfl⟩:=bA.mp hx;rfl
def rg (n:Nat)(xs:List Nat):inV (.int (n:Int)) (xs.map nV)=decide (n∈xs):=by
 unfold inV
 induction xs with
 | nil=>rfl
 | cons x xs ih=>
  rw[bI,gx,ih];show ((x:Int)==(n:Int)||decide (n∈xs))=decide (n∈x::xs);by_cases h:x=n
  .subst h;simp
  .have:((x:Int)==(n:Int))=false:=by
    rw[beq_eq_false_iff_ne];lia
   rw[this,mX];have e:(n∈x::xs)=(n∈xs):=propext (by simp[aS h]);simp[aS h]
inductive mB (K:Frag)(vs:List V)(H:Hp)(Q:VK)(w_1:XK):Prop
 | c:∀(a:Addr) (xs:List Nat),vs=[.ref a]->SqL K H a (xs.map nV)->Unl xs->xs.length<=1000->(∀(p:Addr) (H':Hp),H p=none->Same H H'->H' p=some (.lst ((cI xs).map nV))->Q (.ref p) H')->mB K vs H Q w_1
def Ij (T:Txt K mg)(wy:DF K mg "turned" oO p7)(Kv:FC P w K mg base 1 "lowest_unlike" pZ vd):FC P w K mg base 2 "turned" p7 (mB K):=by
 refine wy.ok lX (λvs H Q E h=>?_) (λf cdv A outer s H vs Q E hr h=>?_)
 .obtain ⟨a,xs,rfl,_⟩:=h;rfl
 obtain ⟨a,xs,rfl,hS,hu,hz,q⟩:=h;refine #[_,(ay (aC (i:=1) lX.nd rfl (ar rfl) (eC ag))
   (ay (bZ PassesOwn.never rfl (tZ rfl T.wd (aa (pv 0) ag)) (gF rfl (cB (aF (i:=2) lX.nd rfl (ar rfl)) (cB (aF (i:=3) lX.nd rfl (ar rfl)) fF))) (av (bR (bg dF (pv 2) ah (bz _)) (av (dX (dY F.plainAttrs_list F.slot_list_append F.type_list_append dH (pv 1) (aa (aw fG (pv 3) ah) ag)))) (ay (aC (i:=4) lX.nd rfl (ar rfl) (aG Kv hr (aa (aH (bC (K:=K)) (pv 0) (aw dv (pv 2) ah) (λ_ _=>rfl)) (aa (pv 3) ag))))
   (av (dX (dY F.plainAttrs_list F.slot_list_append F.type_list_append dH (pv 1) (aa (aw bF (aw dh ah (pv 4)) (aw xT (aw Dv (pv 3) (pv 4)) ah)) ag))))))))
   (av (aN (pv 1))))),?_]
 refine #[(by show 0<=sizeLine;decide),λp hp=>?_];have k0:But p H (upd H p (.lst [])):=λb o n e=>by rw[aj n];exact e
 refine #[_,rfl,a,rfl,#[_,k0.sq hS hp],?_];refine t6 (xs:=xs.map nV) (λi Z H2=>∃ x2 x3 x4:Option V,Z=[some (.ref a),some (.ref p),x2,x3,x4]/\H2 p=some (.lst (((cI xs).take i).map nV))/\But p H H2) ?_ ?_ ?_ ?_
 .exact #[_,_,_,rfl,ak,k0]
 .rintro i Z H2 _ ⟨x2,x3,x4,rfl,_,k2⟩;exact k2.sq hS hp
 .rintro i x Z H2 r hx ⟨x2,x3,x4,rfl,h2,k2⟩ hr;obtain ⟨hi,rfl⟩:=mz hx;have hS2:=k2.sq hS hp;have np:p≠r:=au h2 hr;have h3:upd H2 r (.tup [.int i,nV (xs.getD i 0)]) p=some (.lst (((cI xs).take i).map nV)):=by rw[aj np];exact h2
  have k3:But p H (upd H2 r (.tup [.int i,nV (xs.getD i 0)])):=λb o n e=>(aD hr _) b o (k2 b o n e);have hS3:=k3.sq hS hp;have hlen:(((cI xs).take i).map nV).length<sizeLine:=bh (by rw[aq,aT,ir];lia);refine #[r,_,rfl,SqT.of ak,rfl,_,_,rfl,_,_,rfl,rfl,?_];generalize upd H2 r (.tup [.int i,nV (xs.getD i 0)])=H3 at h3 k3 hS3 ⊢;have fin:∀ v:V,v=nV (fk xs i)->∃ y2 y3 y4:Option V,[some (V.ref a),some (V.ref p),y2,y3,y4]=[some (V.ref a),some (V.ref p),y2,y3,y4]/\upd H3 p (.lst (((cI xs).take i).map nV++[v])) p=some (.lst (((cI xs).take (i+1)).map nV))/\But p H (upd H3 p (.lst (((cI xs).take i).map nV++[v]))):=by
   rintro v rfl;refine #[none,none,none,rfl,?_,λb o n e=>by rw[aj n];exact k3 b o n e];rw[ak,A3 hi,bq];rfl
  refine #[_,rfl,rfl,_,rfl,?_];refine ite2 (λc=>?_) (λc=>?_)
  .have c':i=0:=by
    have:=V.int.inj (bM c);lia
   refine #[_,rfl,.inl #[rfl,_,SqL.of h3],_,rfl,_,_,rfl,rfl,(by show (0:Int) < 2;decide),_,_,_,rfl,rfl,h3,hlen,?_];obtain ⟨_,_,_,_,g2,g3⟩:=fin (.int (((xs.getD i 0:Nat):Int) % 2)) (by
    unfold fk;rw[ae c',c'];show V.int _=V.int _;rw[Int.natCast_emod];rfl)
   exact #[_,_,_,rfl,g2,g3]
  .have c':i≠0:=λz=>c (by subst z;decide);have hne:xs.getD (i-1) 0≠xs.getD i 0:=by
    have:=hu (i-1) (by lia);rw[show i-1+1=i by lia]at this;exact this
   refine #[_,rfl,_,rfl,_,_,rfl,rfl,_,_,_,_,rfl,rfl,hS3,BB c' hi,_,rfl,_,_,rfl,hne,?_];refine #[_,rfl,.inl #[rfl,_,SqL.of h3],_,rfl,_,_,rfl,rfl,.inl #[by decide,by decide],_,rfl,_,rfl,_,_,rfl,rfl,iE _,_,_,rfl,rfl,_,_,rfl,rfl,_,_,_,rfl,rfl,h3,hlen,?_];obtain ⟨_,_,_,_,g2,g3⟩:=fin (.int (2 * ((lu (xs.getD (i - 1) 0) (xs.getD i 0):Nat):Int)+Builtin.bitAnd (((xs.getD i 0:Nat):Int) / 2 ^ ((lu (xs.getD (i - 1) 0) (xs.getD i 0):Nat):Int).toNat) 1)) (by
    unfold fk;rw[af c',Ii])
   exact #[_,_,_,rfl,g2,g3]
 .rintro Z H2 ⟨x2,x3,x4,rfl,h2,k2⟩;refine #[_,rfl,?_];refine q p H2 hp (λb o e=>k2 b o (au e hp) e) ?_;rw[h2,bu (by rw[ir,aq];exact ai _)]
def cJ:Nat->List Nat->List Nat
 | 0,xs=>xs
 | n+1,xs=>cI (cJ n xs)
def i8 (n:Nat)(xs:List Nat):(cJ n xs).length=xs.length:=by
 induction n with
 | zero=>rfl
 | succ n ih=>rw[cJ,ir,ih]
def i9 (h:Unl xs)(n:Nat):Unl (cJ n xs):=by
 induction n with
 | zero=>exact h
 | succ n ih=>exact Hf ih
def rh {k:Nat}(h:dy m xs)(hk:m<=k):dy k xs:=λi hi=>aP (h i hi) hk
def Ik (h:Unl xs)(hb:dy (2^207) xs):dy 414 (cJ 1 xs):=md (k:=207) (by decide) h hb
def Il (h:Unl xs)(hb:dy (2^207) xs):dy 18 (cJ 2 xs):=md (k:=9) (by decide) (i9 h 1) (rh (Ik h hb) (by decide))
def Im (h:Unl xs)(hb:dy (2^207) xs):dy 10 (cJ 3 xs):=md (k:=5) (by decide) (i9 h 2) (rh (Il h hb) (by decide))
def Io (h:Unl xs)(hb:dy (2^207) xs):dy 8 (cJ 4 xs):=md (k:=4) (by decide) (i9 h 3) (rh (Im h hb) (by decide))
def Ip (h:Unl xs)(hb:dy (2^207) xs):dy 6 (cJ 5 xs):=md (k:=3) (by decide) (i9 h 4) (rh (Io h hb) (by decide))
def cw (es:List (Int×Int)):List Nat:=es.map gq
def eS (es:List (Int×Int)):(cw es).length=es.length:=aq _
def ve {es:List (Int×Int)}{i:Nat}(h:i<es.length):(cw es).getD i 0=gq es[i]:=by
 unfold cw;rw[aE,bf,az h];rfl
def Iq {es:List (Int×Int)}(h:∀ e∈es,eF 64 e):dy (2^207) (cw es):=λi hi=>by
 rw[eS]at hi;rw[ve hi];exact Ic (h _ (cU hi))
def rj {es:List (Int×Int)}(h:∀ e∈es,eF 64 e)(hr:Rise es):Unl (cw es):=λi hi=>by
 rw[eS]at hi;rw[ve (by lia),ve hi];intro z;have e:=Ie (h _ (cU (by lia))) (h _ (cU hi)) z;have:=cT.mp hr i (i+1) (by lia) hi (by lia);rw[e]at this;have q:=gk.mp this;lia
def BC {es:List (Int×Int)}{i:Nat}(h:i<es.length):(cw es).take (i+1)=(cw es).take i++[gq es[i]]:=by
 have h':i<(cw es).length:=by rw[eS];exact h
 have z:(cw es)[i]'h'=gq es[i]:=List.getElem_map gq;rw[cF h',z]
inductive vf (K:Frag)(vs:List V)(H:Hp)(Q:VK)(w_1:XK):Prop
 | c:∀(a:Addr) (ws:List V) (es:List (Int×Int)),vs=[.ref a]->SqL K H a ws->aB K H es ws->es.length<=1000->(∀ e∈es,eF 64 e)->Rise es->(∀(p:Addr) (H':Hp),H p=none->Same H H'->H' p=some (.lst ((cJ 5 (cw es)).map nV))->Q (.ref p) H')->vf K vs H Q w_1
def BD {K:Frag}{H0:Hp}{D:Addr}{es:List (Int×Int)}{ws:List V}{i:Nat}{x:V}(hD:H0 D=none)(hw:aB K H0 es ws)(hx:ws[i]?=some x)(k:But D H0 H2):∃ h:i<es.length,Rep.has K H2 es[i] x:=by
 obtain ⟨e,h1,h2⟩:=hw.get hx;have hi:=(aM.mp h1).1;refine #[hi,?_];have z:es[i]=e:=(aM.mp h1).2;rw[z];obtain ⟨a,x1,x2,rfl,q,e1,e2⟩:=(show hasP K H0 e x from h2);exact #[a,x1,x2,rfl,k _ _ (au q hD) q,e1,e2]
def Ir (T:Txt K mg)(wz:DF K mg "labels" oP p8)(Kw:FC P w K mg base 1 "code" pW (mx K))(Kx:FC P w K mg base 2 "turned" p7 (mB K)):FC P w K mg base 3 "labels" p8 (vf K):=by
 refine wz.ok pQ (λvs H Q E h=>?_) (λf cdv A outer s H vs Q E hr h=>?_)
 .obtain ⟨a,ws,es,rfl,_⟩:=h;rfl
 obtain ⟨a,ws,es,rfl,hS,hw,hz,he,hri,q⟩:=h;have hlen:=hw.length;refine #[_,(ay (il (i:=1) (N:=["entry"]) (own:=1) (cap:=[]) pQ.nd rfl rfl rfl (du (pv 0)) #[rfl,rfl,rfl,rfl,rfl,rfl] (λ_ _ _ _ _=>(aF (i:=0) (show List.Nodup (["entry"]:List Str) by decide +kernel) rfl (ar rfl))) (λ_ _ _ _ _=>dI) (λ_ _ _ _ _=>(aG Kw hr (aa (pv 0) ag))))
   (ay (bZ PassesOwn.never rfl (ff rfl T.de (aa (uh rfl T.Ks) ag)) (aF (i:=2) pQ.nd rfl (ar rfl)) (av (aC (i:=1) pQ.nd rfl (ar rfl) (aG Kx hr (aa (pv 1) ag)))))
   (av (aN (pv 1))))),?_]
 refine #[_,rfl,a,rfl,#[_,hS],λD hD=>?_];have k0:But D H (upd H D (.lst [])):=λb o n e=>by rw[aj n];exact e
 refine fI (xs:=ws) (λi Z H2=>∃ x0:Option V,Z=[x0]/\H2 D=some (.lst (((cw es).take i).map nV))/\But D H H2) ?_ ?_ ?_ ?_
 .exact #[_,rfl,ak,k0]
 .rintro i Z H2 _ ⟨x0,rfl,_,k2⟩;exact k2.sq hS hD
 .rintro i m x Z H2 hx hm ⟨x0,rfl,h2,k2⟩;obtain ⟨hi,hhas⟩:=BD hD hw hx k2;refine fV ?_;refine #[_,rfl,x,es[i],rfl,hhas,?_];refine #[_,h2,bh (by rw[aq,aT,eS];lia),m-1,by lia,by lia,_,rfl,?_,λb o n e=>by rw[aj n];exact k2 b o n e];rw[ak,BC hi,bq,<-mw (he _ (cU hi))];rfl
 .rintro Z H2 ⟨x0,rfl,h2,k2⟩;have e0:H2 D=some (.lst ((cw es).map nV)):=by
   rw[h2,bu (by rw[eS];lia)]
  have same0:Same H H2:=λb o e=>k2 b o (au e hD) e;refine #[5,rfl,by decide,by decide,?_];refine fg (n:=5) (λi Z H3=>∃(p:Addr) (x2 x3:Option V),Z=[some (.ref a),some (.ref p),x2]/\H p=none/\Same H H3/\H3 p=some (.lst ((cJ i (cw es)).map nV))) ?_ ?_ ?_
  .exact #[D,_,none,rfl,hD,same0,e0]
  .rintro i Z H3 hi ⟨p,x2,x3,rfl,hp,s3,h3⟩;refine #[_,rfl,p,_,rfl,SqL.of h3,i9 (rj he hri) i,by rw[i8,eS];exact hz,λp4 H4 hp4 s4 h4=>?_];exact #[p4,_,none,rfl,s3.free hp4,s3.trans s4,h4]
  .rintro Z H3 ⟨p,x2,x3,rfl,hp,s3,h3⟩;refine #[_,rfl,?_];exact q p H3 hp s3 h3
def Iu (T:Txt K mg)(wA:DF K mg "_law_code" pB qy):FC P w K mg base 1 "_law_code" qy (mx K):=by
 refine wA.ok uN (λvs H Q E h=>?_) (λf cdv A outer s H vs Q E hr h=>?_)
 .obtain ⟨v,e,rfl,_⟩:=h;rfl
 obtain ⟨v,e,rfl,he,q⟩:=h;obtain ⟨p,x1,x2,rfl,hT,e1,e2⟩:=(show hasP K H e v from he);have hT:=SqT.of (K:=K) hT;have e1:x1=.int e.1:=e1;have e2:x2=.int e.2:=e2;subst e1 e2;refine #[_,(ay (gG (pv 0) (gF rfl (cB (aF (i:=1) uN.nd rfl (ar rfl)) (cB (aF (i:=2) uN.nd rfl (ar rfl)) fF))))
   (fU (bR (bg fS (pv 1) ah (bz _)) (av (aN (aw bF (aw dh ah (aw dv (aw dh (hW hZ ah) (pv 1)) ah)) (pv 2)))) cv)
   (av (aN (aw bF (aw dh ah (pv 1)) (pv 2)))))),?_]
 refine #[_,rfl,p,_,rfl,hT,rfl,_,_,rfl,_,_,rfl,rfl,?_];refine #[λZ' H'=>Z'=[some (.ref p),some (.int e.1),some (.int e.2)]/\H=H'/\0<=e.1,?_,?_]
 .refine #[_,rfl,_,_,rfl,rfl,_,rfl,?_];refine ite2 (λc=>?_) (λc=>?_)
  .have c':e.1<0:=bM c;refine #[_,rfl,_,rfl,_,_,rfl,rfl,.inl #[by decide,by decide],_,_,rfl,rfl,_,_,rfl,rfl,.inl #[by decide,by decide],_,rfl,_,_,rfl,rfl,?_];unfold gp at q;rw[af (by lia)]at q;exact q
  .exact #[rfl,rfl,by have:=iO (iN.mpr c);lia]
 rintro Z' H' ⟨rfl,rfl,c⟩;refine #[_,rfl,_,_,rfl,rfl,.inl #[by decide,by decide],_,rfl,_,_,rfl,rfl,?_];unfold gp at q;rw[ae c]at q;have z:64*(2*e.1)+e.2=128*e.1+e.2:=by lia
 rw[z]at q;exact q
def wMes:L2.St->Hp->Nat:=λZ _=>match Z with
 | [_,_,_,some (.int x),some (.int y),_]=>x.toNat+y.toNat
 | _=>0
def Iv (T:Txt K mg)(wB:DF K mg "_law_turned" pC qz):FC P w K mg base 1 "_law_turned" qz (mB K):=by
 refine wB.ok gL (λvs H Q E h=>?_) (λf cdv A outer s H vs Q E hr h=>?_)
 .obtain ⟨a,xs,rfl,_⟩:=h;rfl
 obtain ⟨a,xs,rfl,hS,hu,hz,q⟩:=h;refine #[_,(ay (aC (i:=1) gL.nd rfl (ar rfl) (eC ag))
   (ay (bZ PassesOwn.never rfl (ff rfl T.de (aa (aV (bS (K:=K)) rfl T.bQ bJ (aa (pv 0) ag)) ag)) (aF (i:=2) gL.nd rfl (ar rfl)) (av (bR (bg dF (pv 2) ah (bz _)) (av (dX (dY F.plainAttrs_list F.slot_list_append F.type_list_append dH (pv 1) (aa (aw fG (aH (bC (K:=K)) (pv 0) ah (λ_ _=>rfl)) ah) ag)))) (ay (aC (i:=3) gL.nd rfl (ar rfl) (aH (bC (K:=K)) (pv 0) (pv 2) (λ_ _=>rfl)))
   (ay (aC (i:=4) gL.nd rfl (ar rfl) (aH (bC (K:=K)) (pv 0) (aw dv (pv 2) ah) (λ_ _=>rfl)))
   (ay (aC (i:=5) gL.nd rfl (ar rfl) ah)
   (ay (nT PassesOwn.never (bg dF (aw fG (pv 3) ah) (aw fG (pv 4) ah) (bz _)) (ay (aC (i:=3) gL.nd rfl (ar rfl) (aw jG (pv 3) ah))
   (ay (aC (i:=4) gL.nd rfl (ar rfl) (aw jG (pv 4) ah))
   (av (aC (i:=5) gL.nd rfl (ar rfl) (aw bF (pv 5) ah))))))
   (av (dX (dY F.plainAttrs_list F.slot_list_append F.type_list_append dH (pv 1) (aa (aw bF (aw dh ah (pv 5)) (aw fG (pv 3) ah)) ag)))))))))))
   (av (aN (pv 1))))),?_]
 refine #[(by show 0<=sizeLine;decide),λp hp=>?_];have k0:But p H (upd H p (.lst [])):=λb o n e=>by rw[aj n];exact e
 refine #[_,rfl,_,_,rfl,.inl (k0.sq hS hp),_,rfl,by rw[aq];lia,by rw[aq];lia,?_];have el:((((xs.map nV).length:Nat):Int)).toNat=xs.length:=by rw[aq,fN]
 rw[el];refine fg (n:=xs.length) (λi Z H2=>∃ x2 x3 x4 x5:Option V,Z=[some (.ref a),some (.ref p),x2,x3,x4,x5]/\H2 p=some (.lst (((cI xs).take i).map nV))/\But p H H2) ?_ ?_ ?_
 .exact #[_,_,_,_,rfl,ak,k0]
 .rintro i Z H2 hi ⟨x2,x3,x4,x5,rfl,h2,k2⟩;have hS2:=k2.sq hS hp;have hlen:(((cI xs).take i).map nV).length<sizeLine:=bh (by rw[aq,aT,ir];lia);have fin:∀ v:V,v=nV (fk xs i)->upd H2 p (.lst (((cI xs).take i).map nV++[v])) p=some (.lst (((cI xs).take (i+1)).map nV))/\But p H (upd H2 p (.lst (((cI xs).take i).map nV++[v]))):=by
   rintro v rfl;refine #[?_,λb o n e=>by rw[aj n];exact k2 b o n e];rw[ak,A3 hi,bq];rfl
  refine #[_,rfl,rfl,_,rfl,?_];refine ite2 (λc=>?_) (λc=>?_)
  .have c':i=0:=by
    have:=V.int.inj (bM c);lia
   have hat:atI (xs.map nV) 0=some (nV (xs.getD 0 0)):=i5 (i:=0) (by lia);refine #[_,rfl,.inl #[rfl,_,SqL.of h2],_,rfl,_,_,_,_,rfl,rfl,hS2,hat,_,_,rfl,rfl,(by show (0:Int) < 2;decide),_,_,_,rfl,rfl,h2,hlen,?_];obtain ⟨g2,g3⟩:=fin (.int (((xs.getD 0 0:Nat):Int) % 2)) (by
    unfold fk;rw[ae c'];show V.int _=V.int _;rw[Int.natCast_emod];rfl)
   exact #[_,_,_,_,rfl,g2,g3]
  .have c':i≠0:=λz=>c (by subst z;decide);have hne:xs.getD (i-1) 0≠xs.getD i 0:=by
    have:=hu (i-1) (by lia);rw[show i-1+1=i by lia]at this;exact this
   have hat:atI (xs.map nV) (0+(i:Int))=some (nV (xs.getD i 0)):=by rw[fE];exact i5 hi
   have hatp:atI (xs.map nV) (0+(i:Int)-1)=some (nV (xs.getD (i-1) 0)):=by rw[fE];exact BB c' hi
   refine #[_,rfl,_,rfl,_,_,_,_,rfl,rfl,hS2,hat,?_];refine #[_,rfl,_,rfl,_,_,rfl,rfl,_,_,_,_,rfl,rfl,hS2,hatp,?_];have et:fk xs i=fig (xs.getD (i-1) 0) (xs.getD i 0):=by unfold fk;rw[af c']
   rw[et]at fin;generalize xs.getD (i-1) 0=Y at *;generalize xs.getD i 0=X at *;refine xS (λZ H'=>∃ x y j:Nat,Z=[some (.ref a),some (.ref p),some (.int (0+i)),some (.int x),some (.int y),some (.int j)]/\H'=H2/\x≠y/\lu Y X=j+lu y x/\x=X/2^j) wMes ?_ ?_ ?_
   .exact #[X,Y,0,rfl,rfl,aS hne,by lia,by rw[Nat.pow_zero,Nat.div_one]]
   .rintro Z H' ⟨x,y,j,rfl,rfl,hxy,hl,hx⟩;refine #[_,rfl,_,_,rfl,rfl,(by show (0:Int)<2;decide),_,rfl,_,_,rfl,rfl,(by show (0:Int)<2;decide),rfl,_,rfl,?_];refine ite2 (λe=>?_) (λe=>?_)
    .have e':x%2=y%2:=by
      have:=V.int.inj (bM e);lia
     refine #[_,rfl,_,_,rfl,rfl,#[by decide,by decide],_,rfl,_,_,rfl,rfl,#[by decide,by decide],_,rfl,_,_,rfl,rfl,?_];refine #[#[x/2,y/2,j+1,?_,rfl,by lia,?_,?_],?_]
     .rw[Int.natCast_ediv,Int.natCast_ediv,Int.natCast_add];rfl
     .rw[hl,qO (aS hxy) e'.symm];lia
     .rw[hx,hE,Nat.div_div_eq_div_mul]
     .show ((x:Int)/2).toNat+((y:Int)/2).toNat<(x:Int).toNat+(y:Int).toNat;lia
    ·have e':x % 2≠y % 2:=λz=>e (by
      apply aX;show V.int _=V.int _;have z':(x:Int)%2=(y:Int)%2:=by lia
      rw[z'])
     rw[qP (aS e')]at hl;refine #[_,rfl,.inl #[rfl,_,SqL.of h2],_,rfl,_,_,rfl,rfl,.inl #[by decide,by decide],_,rfl,_,_,rfl,rfl,(by show (0:Int) < 2;decide),_,_,rfl,rfl,_,_,_,rfl,rfl,h2,hlen,?_];obtain ⟨g2,g3⟩:=fin (.int (2 * (j:Int)+(x:Int) % 2)) (by
      show V.int _=V.int _;unfold fig;rw[hl,fc,<-hx,Int.natCast_add,Int.natCast_mul,Int.natCast_emod];rfl)
     exact #[_,_,_,_,rfl,g2,g3]
   .intro Z H Q Q' m h;obtain ⟨x1,e1,i1,j1,f1,g1,c1,x2,e2,i2,j2,f2,g2,c2,r1,b,e,q⟩:=h;exact #[x1,e1,i1,j1,f1,g1,c1,x2,e2,i2,j2,f2,g2,c2,r1,b,e,m _ _ q]
 .rintro Z H2 ⟨x2,x3,x4,x5,rfl,h2,k2⟩;refine #[_,rfl,?_];refine q p H2 hp (λb o e=>k2 b o (au e hp) e) ?_;rw[h2,bu (by rw[ir];exact ai _)]
def iR {n d i:Nat}:HT.sIx n d (some (i:Int))=min i n:=by
 unfold HT.sIx;simp
 try lia
def vg (xs:List V)(a b:Nat):cutV xs (some (a:Int)) (some (b:Int))=(xs.drop a).take (b-a):=by
 unfold cutV;rw[iR,iR];by_cases h:a<=xs.length
 .rw[eh h];by_cases h2:b<=xs.length
  .rw[eh h2]
  .rw[iI (by lia),bu (by rw[eY];exact ai _),bu (by rw[eY];lia)]
 .rw[iI (show xs.length<=a by lia),eN (ai _),eN (show xs.length<=a by lia)];simp
def BE {α:Type}(xs:List α)(k:Nat):(xs.drop k).take 1=xs[k]?.toList:=by
 by_cases h:k<xs.length
 .rw[kO h,az h];rfl
 .rw[eN (by lia),er (by lia)];rfl
def BF {k:Nat}{i j:Int}(hi:i=if (k:Int)-1>0 then (k:Int)-1 else 0)(hj:j=(k:Int)):cutV xs (some i) (some j)=(if k=0 then none else xs[k-1]?).toList:=by
 subst hj;have e:i=((k-1:Nat):Int):=by
  rw[hi];split<;>lia
 subst e;rw[vg];split
 .rename_i h;subst h;simp
 .rw[show k-(k-1)=1 by lia,BE]
def BG {k:Nat}{i j:Int}(hi:i=(k:Int)+1)(hj:j=(k:Int)+2):cutV xs (some i) (some j)=xs[k+1]?.toList:=by
 subst hi hj;rw[show (k:Int)+1=((k+1:Nat):Int) by lia,show (k:Int)+2=((k+2:Nat):Int) by lia,vg,show k+2-(k+1)=1 by lia,BE]
def vh (xs:List Nat)(k:Nat):(if k=0 then none else (xs.map nV)[k-1]?).toList++(xs.map nV)[k+1]?.toList=(bT xs k).map nV:=by
 unfold bT;rw[bq,bf,bf];congr 1
 .split
  .rfl
  .cases xs[k-1]?<;>rfl
 .cases xs[k+1]?<;>rfl
def Iw (xs:List Nat)(k:Nat):(bT xs k).length<=2:=by
 have e:∀ o:Option Nat,o.toList.length<=1:=λo=>by cases o<;>simp
 unfold bT;rw[bc];have:=e (if k=0 then none else xs[k-1]?)
 have:=e xs[k+1]?;lia
def But.new {b:Addr}(k:But p H H2)(hb:H2 b=none)(o:HO):But p H (upd H2 b o):=λx o' n e=>(aD hb o) x o' (k x o' n e)
def Iy {K:Frag}{i j:Nat}{Z:L2.St}{H2:Hp}{Q:VK}{a:Addr}{xs:List Nat}{k:Nat}{z:Int}(ez:z=(k:Int))(e1:Z[i]?=some (some (.ref a)))(e2:Z[j]?=some (some (.int z)))(h2a:H2 a=some (.lst (xs.map nV)))
  (q:∀ g H5,H2 g=none->Same H2 H5->H5 g=some (.lst ((bT xs k).map nV))->Q (.ref g) H5) :
  tOp rCat (tSl (rSlL K) (tVar i) (lD (tCB (λxs H Q=>∃ i j,xs=[V.int i,V.int j]/\Q (V.int (if j>i then j else i)) H) (tw (tC (V.int 0)) (tw (tOp (rI0 λi j=>V.int (i-j)) (tVar j) (tC (V.int 1))) tNil)))) (lD (tVar j)))
   (tSl (rSlL K) (tVar i) (lD (tOp (rI0 λi j=>V.int (i+j)) (tVar j) (tC (V.int 1)))) (lD (tOp (rI0 λi j=>V.int (i+j)) (tVar j) (tC (V.int 2))))) Z H2 Q:=by
 subst ez;refine #[_,e1,_,e2,_,_,rfl,rfl,_,_,rfl,_,rfl,_,e2,_,rfl,_,_,rfl,SqL.of h2a,λb hb=>?_];have kb:=aD hb (.lst (cutV (xs.map nV) (some (if (k:Int)-1>0 then (k:Int)-1 else 0)) (some (k:Int))))
 have hbb:upd H2 b (.lst (cutV (xs.map nV) (some (if (k:Int)-1>0 then (k:Int)-1 else 0)) (some (k:Int)))) b=some (.lst (if k=0 then none else (xs.map nV)[k-1]?).toList):=by
  rw[ak,BF (k:=k) rfl rfl]
 generalize upd H2 b (.lst (cutV (xs.map nV) (some (if (k:Int)-1>0 then (k:Int)-1 else 0)) (some (k:Int))))=H3 at kb hbb ⊢
 refine #[_,e1,_,e2,_,_,rfl,rfl,_,rfl,_,e2,_,_,rfl,rfl,_,rfl,_,_,rfl,SqL.of (kb _ _ h2a),λc hc=>?_];have kc:=aD hc (.lst (cutV (xs.map nV) (some ((k:Int)+1)) (some ((k:Int)+2))));have hcb:=kc _ _ hbb;have hcc:upd H3 c (.lst (cutV (xs.map nV) (some ((k:Int)+1)) (some ((k:Int)+2)))) c=some (.lst (xs.map nV)[k+1]?.toList):=by
  rw[ak,BG (k:=k) rfl rfl]
 generalize upd H3 c (.lst (cutV (xs.map nV) (some ((k:Int)+1)) (some ((k:Int)+2))))=H4 at kc hcb hcc ⊢;refine #[b,c,_,_,rfl,rfl,hcb,hcc,?_,λg hg=>?_]
 .rw[<-bc,vh,aq];exact ax (Iw _ _) (by decide)
 rw[vh];exact q g _ (kb.free (kc.free hg)) (kb.trans (kc.trans (aD hg _))) ak
inductive mC (K:Frag)(vs:List V)(H:Hp)(Q:VK)(w_1:XK):Prop
 | c:∀(a:Addr) (xs:List Nat),vs=[.ref a]->SqL K H a (xs.map nV)->Unl xs->dy 6 xs->xs.length<=1000->(∀(p:Addr) (H':Hp),H p=none->Same H H'->H' p=some (.lst ((colL xs).map nV))->Q (.ref p) H')->mC K vs H Q w_1
def cx (es:List (Int×Int)):List Bool:=gP (colL (cJ 5 (cw es)))
def jb (es:List (Int×Int)):(cx es).length=es.length:=by
 unfold cx;rw[A8,uX,i8,eS]
def mD {es:List (Int×Int)}(he:∀ e∈es,eF 64 e)(hri:Rise es):Unl (cJ 5 (cw es)):=i9 (rj he hri) 5
def vi {es:List (Int×Int)}(he:∀ e∈es,eF 64 e)(hri:Rise es):dy 6 (cJ 5 (cw es)):=Ip (rj he hri) (Iq he)
def Iz {xs:List Nat}(h:dy 6 xs):∀ i x,atZ xs i=some x->x<=5:=λi x e=>by
 obtain ⟨h0,h1⟩:=uT e;have:=h i.toNat (by lia);unfold atZ at e;rw[ae h0]at e;rw[aE,e]at this;exact Nat.lt_succ_iff.mp this
def BH {es:List (Int×Int)}(he:∀ e∈es,eF 64 e)(hri:Rise es):iu (cx es):=Ho (uY (unlZ (mD he hri))) (Hk (Iz (vi he hri)))
inductive mE (K:Frag)(vs:List V)(H:Hp)(Q:VK)(w_1:XK):Prop
 | c:∀(a:Addr) (ws:List V) (es:List (Int×Int)),vs=[.ref a]->H a=some (.lst ws)->aB K H es ws->es.length<=1000->(∀ e∈es,eF 64 e)->Rise es->(∀(p:Addr) (H':Hp),H p=none->Same H H'->H' p=some (.lst ((cx es).map V.bl))->Q (.ref p) H')->mE K vs H Q w_1
inductive vj (K:Frag)(vs:List V)(H:Hp)(Q:VK)(w_1:XK):Prop
 | c:∀(a:Addr) (ws:List V) (es:List (Int×Int)),vs=[.ref a]->H a=some (.lst ws)->aB K H es ws->es.length<=1000->(∀ e∈es,eF 64 e)->Rise es->(∀(p:Addr) (H':Hp),H p=none->Same H H'->H' p=some (.lst (cG ws (cx es)))->Q (.ref p) H')->vj K vs H Q w_1
def vk {α:Type}(xs:List α)(m j:Nat):(xs.drop m).take (j+1)=xs[m]?.toList++(xs.drop (m+1)).take j:=by
 by_cases h:m<xs.length
 .rw[kO h,az h];rfl
 .rw[eN (by lia),er (by lia),eN (by lia)];simp
def mG (o:Option Bool):o.toList.any id=o.getD false:=by
 cases o with
 | none=>rfl
 | some b=>cases b<;>rfl
def any3 (ms:List Bool){k:Nat}(h:1<=k):((ms.drop (k-1)).take 3).any id=!fX ms k:=by
 rw[vk,vk,vk,nH,nH,nH,mG,mG,mG,show k-1+1=k by lia,gY];unfold fX;rw[aE,aE,aE];generalize ms[k-1]?.getD false=x;generalize ms[k]?.getD false=y;generalize ms[k+1]?.getD false=z;cases x<;>cases y<;>cases z<;>rfl
def BI (ms:List Bool):inV (.bl true) (ms.map V.bl)=ms.any id:=by
 unfold inV
 induction ms with
 | nil=>rfl
 | cons m ms ih=>
  rw[bI,gx,ih,gx];cases m<;>rfl
def BJ (ms:List Bool):(ms.map V.bl).all f9=true:=by
 rw[eA];intro x hx;obtain ⟨n,_,rfl⟩:=bA.mp hx;rfl
def IA {ms:List Bool}{k:Nat}{i j:Int}(h:1<=k)(hi:i=(k:Int)-1)(hj:j=(k:Int)+2):cutV (ms.map V.bl) (some i) (some j)=((ms.drop (k-1)).take 3).map V.bl:=by
 subst hi hj;rw[show (k:Int)-1=((k-1:Nat):Int) by lia,show (k:Int)+2=((k+2:Nat):Int) by lia,vg,show k+2-(k-1)=3 by lia,g9,List.map_drop]
def vm {α:Type}{as:List α}{bs:List Bool}{a:α}{b:Bool}(h:as.length=bs.length):cG (as++[a]) (bs++[b])=cG as bs++(if b=true then [a] else []):=by
 unfold cG;rw[List.zip_append h,c7,bq];congr 1;cases b<;>rfl
def BK {α:Type}(as:List α)(bs:List Bool):(cG as bs).length<=as.length:=by
 unfold cG;rw[aq];refine ax (dW _ _) ?_;rw[nF];lia
def BL {α:Type}[Rep α]{K:Frag}:∀{es:List α} {ws:List V} {ms:List Bool},aB K H es ws->aB K H (cG es ms) (cG ws ms)
 | _,_,_,.nil=>by
  unfold cG;exact .nil
 | e::es,w::ws,[],.cons h t=>by
  unfold cG;exact .nil
 | e::es,w::ws,m::ms,.cons h t=>by
  have:=BL (ms:=ms) t;unfold cG at this ⊢;cases m with
  | false=>exact this
  | true=>exact .cons h this
def rl (bs:List Nat)(c:Nat):((List.range (c+1)).filter λc=>!decide (c∈bs))=((List.range c).filter λc=>!decide (c∈bs))++(if c∈bs then [] else [c]):=by
 rw[fQ,c7];congr 1;by_cases h:c∈bs
 .rw[ae h];simp[List.filter,h]
 .rw[af h];simp[List.filter,h]
def rm {H:Hp}{p t:Addr}{xs ys:List V}(h1:H p=some (.lst xs))(h2:H t=some (.tup ys)):p≠t:=λz=>by
 rw[z,h2]at h1;cases h1
def kg {n k:Nat}(h:k<n):ixN n (k:Int)=some k:=by
 unfold ixN;simp;lia
def besV (xs:List V)(k:Nat):List V:=(if k=0 then none else xs[k-1]?).toList++xs[k+1]?.toList
def IB (xs:List V)(k:Nat):(besV xs k).length<=2:=by
 have e:∀ o:Option V,o.toList.length<=1:=λo=>by cases o<;>simp
 unfold besV;rw[bc];have:=e (if k=0 then none else xs[k-1]?)
 have:=e xs[k+1]?;lia
inductive spNb (K:Frag)(vs:List V)(H:Hp)(Q:VK)(w_1:XK):Prop
 | c:∀(a:Addr) (xs:List V) (k:Nat),vs=[.ref a,.int k]->H a=some (.lst xs)->(∀(g:Addr) (H':Hp),H g=none->Same H H'->H' g=some (.lst (besV xs k))->Q (.ref g) H')->spNb K vs H Q w_1
def IC (T:Txt K mg)(wC:DF K mg "neighbours" oQ l5):FC P w K mg base 1 "neighbours" l5 (spNb K):=by
 refine wC.ok GQ (λvs H Q E h=>?_) (λf cdv A outer s H vs Q E hr h=>?_)
 .obtain ⟨a,xs,k,rfl,_⟩:=h;rfl
 obtain ⟨a,xs,k,rfl,ha,q⟩:=h;refine #[_,(av (aN (aw yH (gK (lS (K:=K)) (pv 0) (eQ (aV (tu rfl) rfl T.we boot_max (aa (aw dv (pv 1) ah) (aa ah ag)))) (eQ (pv 1))) (gK (lS (K:=K)) (pv 0) (eQ (aw bF (pv 1) ah)) (eQ (aw bF (pv 1) ah)))))),?_];refine #[_,rfl,_,rfl,_,_,rfl,rfl,_,_,rfl,_,rfl,_,rfl,_,rfl,_,_,rfl,SqL.of ha,λb hb=>?_];have kb:=aD hb (.lst (cutV xs (some (if 0>(k:Int)-1 then 0 else (k:Int)-1)) (some (k:Int))))
 have hbb:upd H b (.lst (cutV xs (some (if 0>(k:Int)-1 then 0 else (k:Int)-1)) (some (k:Int)))) b=some (.lst (if k=0 then none else xs[k-1]?).toList):=by
  rw[ak,BF (k:=k) (by split<;>split<;>lia) rfl]
 generalize upd H b (.lst (cutV xs (some (if 0>(k:Int)-1 then 0 else (k:Int)-1)) (some (k:Int))))=H3 at kb hbb ⊢
 refine #[_,rfl,_,rfl,_,_,rfl,rfl,_,rfl,_,rfl,_,_,rfl,rfl,_,rfl,_,_,rfl,SqL.of (kb _ _ ha),λc hc=>?_];have kc:=aD hc (.lst (cutV xs (some ((k:Int)+1)) (some ((k:Int)+2))));have hcb:=kc _ _ hbb;have hcc:upd H3 c (.lst (cutV xs (some ((k:Int)+1)) (some ((k:Int)+2)))) c=some (.lst xs[k+1]?.toList):=by
  rw[ak,BG (k:=k) rfl rfl]
 generalize upd H3 c (.lst (cutV xs (some ((k:Int)+1)) (some ((k:Int)+2))))=H4 at kc hcb hcc ⊢;refine #[b,c,_,_,rfl,rfl,hcb,hcc,?_,λg hg=>?_]
 .rw[<-bc];exact ax (IB xs k) (by decide)
 exact q g _ (kb.free (kc.free hg)) (kb.trans (kc.trans (aD hg _))) ak
inductive vn (K:Frag)(vs:List V)(H:Hp)(Q:VK)(w_1:XK):Prop
 | c:∀(a:Addr) (xs:List Nat) (k:Nat),vs=[.ref a]->H a=some (.lst ((bT xs k).map nV))->(∀ H':Hp,Same H H'->Q (.int (eE xs k:Nat)) H')->vn K vs H Q w_1
def ID (T:Txt K mg)(wD:DF K mg "least_free" oR p9):FC P w K mg base 1 "least_free" p9 (vn K):=by
 refine wD.ok GR (λvs H Q E h=>?_) (λf cdv A outer s H vs Q E hr h=>?_)
 .obtain ⟨a,xs,k,rfl,_⟩:=h;rfl
 obtain ⟨a,xs,k,rfl,ha,q⟩:=h;refine #[_,(av (aN (aV (Fq rfl) rfl T.CS boot_min (aa (d4 (N:=["colour","taken"]) (own:=1) (cap:=[0]) rfl (gH (cC (aa ah (aa ah (aa ah ag))))) #[rfl,rfl,rfl,rfl,rfl,rfl] (λ_ _ _ _ _=>(aF (i:=0) (show List.Nodup (["colour","taken"]:List Str) by decide +kernel) rfl (ar rfl))) (λ_ _ _ _ _=>(ik (bg (lR (K:=K)) (pv 0) (pv 1) (by with_unfolding_all rfl)))) (λ_ _ _ _ _=>(pv 0))) ag)))),?_]
 refine #[(by show 3<=sizeLine;decide),λt ht=>?_];have st:=aD ht (.tup [V.int 0,V.int 1,V.int 2]);have ht1:upd H t (.tup [V.int 0,V.int 1,V.int 2]) t=some (.tup [V.int 0,V.int 1,V.int 2]):=ak;generalize upd H t (.tup [V.int 0,V.int 1,V.int 2])=H1 at st ht1 ⊢;have h1a:=st _ _ ha;refine #[t,rfl,#[_,SqT.of ht1],λD hD=>?_];refine lT (xs:=[V.int 0,V.int 1,V.int 2]) (λc Z H6=>∃ x0:Option V,Z=[x0,some (.ref a)]/\H6 D=some (.lst (((List.range c).filter λc=>!decide (c∈bT xs k)).map nV))/\But D H1 H6) ?_ ?_ ?_ ?_
 .exact #[_,rfl,ak,λb o n e=>by rw[aj n];exact e]
 .rintro i Z H6 _ ⟨x0,rfl,_,k6⟩;exact SqT.of (k6 _ _ (au ht1 hD) ht1)
 .rintro c m x Z H6 hx hm ⟨x0,rfl,h6,k6⟩;obtain ⟨hi,rfl⟩:c<3/\x=V.int (c:Int):=by
   rcases c with _|_|_|c
   .exact #[by decide,(aJ hx).symm]
   .exact #[by decide,(aJ hx).symm]
   .exact #[by decide,(aJ hx).symm]
   .cases hx
  have h6g:=k6 _ _ (au h1a hD) h1a;have hlen:=dW (λc=>!decide (c∈bT xs k)) (List.range c);rw[cq]at hlen;refine #[_,rfl,_,rfl,_,_,rfl,.inl (SqL.of h6g),rfl,rf _,_,rfl,?_];show if (!inV (.int (c:Int)) ((bT xs k).map nV))=true then _ else _
  rw[rg];have hm3:c+m=3:=hm;refine ite2 (λe=>?_) (λe=>?_)
  .have e':c∉bT xs k:=λz=>by
    rw[aX z]at e;cases e
   refine #[_,rfl,_,h6,bh (by rw[aq];lia),m-1,by lia,(by show c+1+(m-1)=3;lia),_,rfl,?_,λb o n e=>by rw[aj n];exact k6 b o n e];rw[ak,rl,af e',bq];rfl
  .have e':c∈bT xs k:=jh λz=>e (by rw[bj z];rfl);refine #[m-1,by lia,(by show c+1+(m-1)=3;lia),_,rfl,?_,k6];rw[h6,rl,ae e',bY]
 .rintro Z H6 ⟨x0,rfl,h6,k6⟩;have h6:H6 D=some (.lst (((List.range 3).filter λc=>!decide (c∈bT xs k)).map nV)):=h6;have s6:Same H1 H6:=λb o e=>k6 b o (au e hD) e;have mem:∀ c,c∈((List.range 3).filter λc=>!decide (c∈bT xs k))↔c<3/\c∉bT xs k:=λc=>by
   rw[eJ,cZ];constructor
   .rintro ⟨h1,h2⟩;refine #[h1,λz=>?_];rw[aX z]at h2;cases h2
   .rintro ⟨h1,h2⟩;exact #[h1,by rw[bj h2];rfl]
  have hf:eE xs k∈((List.range 3).filter λc=>!decide (c∈bT xs k)):=(mem _).mpr #[jr (Be xs k),Bc];refine #[D,((List.range 3).filter λc=>!decide (c∈bT xs k)).map λn:Nat=>(n:Int),rfl,?_,?_,λM hM hL=>?_]
  .rw[iL];exact SqL.of h6
  .rw[aq];exact List.length_pos_of_mem hf
  have eM:M=(eE xs k:Int):=by
   have h1:=hL _ (bA.mpr #[_,hf,rfl]);obtain ⟨c,hc,rfl⟩:=bA.mp hM;have h2:¬ c<eE xs k:=λz=>((mem c).mp hc).2 (Bd z);lia
  rw[eM];exact q _ (st.trans s6)
def IE (xs:List Nat)(k:Nat):besV (xs.map nV) k=(bT xs k).map nV:=vh xs k
def IF (T:Txt K mg)(wF:DF K mg "colours" oS qa)(wG:FC P w K mg base 1 "neighbours" l5 (spNb K))(Ky:FC P w K mg base 1 "least_free" p9 (vn K)):FC P w K mg base 3 "colours" qa (mC K):=by
 refine wF.ok pR (λvs H Q E h=>?_) (λf cdv A outer s H vs Q E hr h=>?_)
 .obtain ⟨a,xs,rfl,_⟩:=h;rfl
 obtain ⟨a,xs,rfl,hS,hu,hb,hz,q⟩:=h;refine #[_,(ay (aC (i:=1) pR.nd rfl (ar rfl) (fH (oE (K:=K)) rfl T.kG boot_list (aa (pv 0) ag)))
   (ay (bZ PassesOwn.never rfl (gH (cC (aa ah (aa ah (aa ah ag))))) (aF (i:=2) pR.nd rfl (ar rfl)) (av (bZ PassesOwn.never rfl (ff rfl T.de (aa (aV (bS (K:=K)) rfl T.bQ bJ (aa (pv 0) ag)) ag)) (aF (i:=3) pR.nd rfl (ar rfl)) (av (bR (bg dF (aH (bC (K:=K)) (pv 1) (pv 3) (λ_ _=>rfl)) (pv 2) (bz _)) (av (gG (aG Ky hr (aa (aG wG hr (aa (pv 1) (aa (pv 3) ag))) ag)) (jB (pv 1) (pv 3) jI))) cv)))))
   (av (aN (pv 1))))),?_]
 refine #[_,rfl,a,_,rfl,.inl hS,λp hp=>?_];have k0:But p H (upd H p (.lst (xs.map nV))):=λb o n e=>by rw[aj n];exact e
 refine #[(by show 3<=sizeLine;decide),λt ht=>?_];have npt:p≠t:=au ak ht;refine #[t,rfl,#[_,SqT.of ak],?_];refine nU (xs:=[V.int 3,V.int 4,V.int 5]) (λi Z H2=>∃ x2 x3:Option V,Z=[some (.ref a),some (.ref p),x2,x3]/\H2 p=some (.lst ((colN xs i).map nV))/\H2 t=some (.tup [V.int 3,V.int 4,V.int 5])/\But p H H2) ?_ ?_ ?_ ?_
 .exact #[_,_,rfl,by rw[aj npt];exact ak,ak,k0.new ht _]
 .rintro i Z H2 _ ⟨x2,x3,rfl,_,h2t,_⟩;exact SqT.of h2t
 .rintro i x Z H2 hx ⟨x2,x3,rfl,h2,h2t,k2⟩;obtain ⟨hi,rfl⟩:i<3/\x=V.int ((3+i:Nat):Int):=by
   rcases i with _|_|_|i
   .exact #[by decide,(aJ hx).symm]
   .exact #[by decide,(aJ hx).symm]
   .exact #[by decide,(aJ hx).symm]
   .cases hx
  have hyl:=Bo xs i;have hyu:=Bp hu i;have hnx:colN xs (i+1)=recL (3+i) (colN xs i):=rfl;rw[hnx];generalize colN xs i=ys at h2 hyl hyu ⊢;generalize 3+i=v;have hSa:SqL K H2 a (xs.map nV):=k2.sq hS hp;refine #[_,rfl,_,_,rfl,.inl hSa,_,rfl,by rw[aq];lia,by rw[aq];lia,?_];have el:((((xs.map nV).length:Nat):Int)).toNat=ys.length:=by rw[aq,fN,hyl]
  rw[el];refine fg (n:=ys.length) (λk Z H3=>∃ x3:Option V,Z=[some (.ref a),some (.ref p),some (.int v),x3]/\H3 p=some (.lst ((mixL v ys k).map nV))/\H3 t=some (.tup [V.int 3,V.int 4,V.int 5])/\But p H H3) ?_ ?_ ?_
  .exact #[_,rfl,h2,h2t,k2]
  .rintro k Z H3 hk ⟨x3,rfl,h3,h3t,k3⟩;rw[fE];have ml:=va v ys k;have eg:(mixL v ys k).getD k 0=ys.getD k 0:=by
    rw[aE,Bg (ai k),<-aE]
   have hat:atI ((mixL v ys k).map nV) (k:Int)=some (nV (ys.getD k 0)):=by
    rw[<-eg];exact i5 (by lia)
   refine #[_,rfl,_,rfl,_,_,_,_,rfl,rfl,SqL.of h3,hat,_,rfl,rfl,_,rfl,?_];refine ite2 (λc=>?_) (λc=>?_)
   .have c':ys.getD k 0=v:=by
     have:=V.int.inj (bM c);lia
    refine #[_,rfl,_,rfl,p,_,k,rfl,h3,λg H4 hg s4 h4=>?_];rw[IE,Bj hyu hk c']at h4;refine #[g,ys,k,rfl,h4,λH5 s5=>?_];have s35:=s4.trans s5;have same:∀ b o,b≠p->H3 b=some o->upd H5 p (.lst (((mixL v ys k).map nV).set k (nV (eE ys k)))) b=some o:=λb o n e=>by
     rw[aj n];exact s35 _ _ e
    refine #[_,rfl,_,rfl,_,_,_,k,rfl,rfl,s35 _ _ h3,kg (by rw[aq,ml];exact hk),?_];refine #[_,rfl,?_,same _ _ (aS (rm h3 h3t)) h3t,λb o n e=>same _ _ n (k3 b o n e)];rw[ak,Bk hk c',jz]
   .have c':ys.getD k 0≠v:=λz=>c (by rw[z];exact aX rfl);exact #[_,rfl,by rw[Bh hk c'];exact h3,h3t,k3]
  .rintro Z H3 ⟨x3,rfl,h3,h3t,k3⟩;rw[Bf (ai _)]at h3;exact #[_,_,rfl,h3,h3t,k3]
 .rintro Z H2 ⟨x2,x3,rfl,h2,_,k2⟩;refine #[_,rfl,?_];exact q p H2 hp (λb o e=>k2 b o (au e hp) e) h2
def fY (ms:List Bool)(k:Nat):Bool:=!ms.getD (k-1) false && !ms.getD (k+1) false
def besB (ms:List Bool)(k:Nat):List Bool:=(if k=0 then none else ms[k-1]?).toList++ms[k+1]?.toList
def IG (ms:List Bool)(k:Nat):besV (ms.map V.bl) k=(besB ms k).map V.bl:=by
 unfold besV besB;rw[bq,bf,bf];congr 1
 .split
  .rfl
  .cases ms[k-1]?<;>rfl
 .cases ms[k+1]?<;>rfl
def IH {k:Nat}(h:1<=k):(besB ms k).any id=!fY ms k:=by
 unfold besB fY;rw[af (by lia),nH,mG,mG,aE,aE];generalize ms[k-1]?.getD false=x;generalize ms[k+1]?.getD false=z;cases x<;>cases z<;>rfl
def II {sh:Nat}{ms:List Bool}(hu:Unl cs)(hl:cs.length=ms.length){k:Nat}(h:k<cs.length)(h1:1<=k)(hs:cs.getD k 0=sh):fY (mixM sh cs ms k) k=fY ms k:=by
 unfold fY;have e:∀ j,k<=j->(mixM sh cs ms k).getD j false=ms.getD j false:=λj hj=>by
  rw[aE,aE,fL hl,af (by lia)]
 rw[e (k+1) (by lia)];have e2:(mixM sh cs ms k).getD (k-1) false=ms.getD (k-1) false:=by
  rw[aE,fL hl,ae (by lia),ke hl (by lia)];have:=hu (k-1) (by lia);rw[show k-1+1=k by lia,hs]at this;rw[bj this];simp
 rw[e2]
def BM {sh:Nat}{cs:List Nat}{ms:List Bool}(hl:cs.length=ms.length){k:Nat}(h:k<cs.length)(hn:¬ (cs.getD k 0=sh/\fY ms k=true)):mixM sh cs ms (k+1)=mixM sh cs ms k:=by
 apply f6;intro j;rw[fL hl,fL hl];by_cases c:j<k
 .rw[ae c,ae (by lia)]
 .rw[af c];split
  .have:j=k:=by lia
   subst this;rw[ke hl h];unfold fY at hn;rw[az (by lia)];have e:ms.getD j false=ms[j]'(by lia):=by
    rw[aE,az (by lia)];rfl
   rw[e];congr 1;generalize ms[j]=a;generalize ms.getD (j-1) false=b at hn ⊢;generalize ms.getD (j+1) false=d at hn ⊢;by_cases z:cs.getD j 0=sh
   .have hn':¬ ((!b && !d)=true):=λy=>hn #[z,y];cases b with
    | true=>simp
    | false=>
     cases d with
     | true=>simp
     | false=>exact absurd rfl hn'
   .rw[bj z];simp
  .rfl
def IJ {sh:Nat}{cs:List Nat}{ms:List Bool}(hl:cs.length=ms.length){k:Nat}(h:k<cs.length)(hp:1<=k/\cs.getD k 0=sh/\fY ms k=true):mixM sh cs ms (k+1)=(mixM sh cs ms k).set k true:=by
 apply f6;intro j;rw[lg,qV hl,fL hl,fL hl];by_cases c:k=j
 .subst c;rw[ae rfl,ae h,ae (by lia),ke hl h];obtain ⟨p1,p2,p3⟩:=hp;unfold fY at p3;simp only[d9,gX]at p3;rw[p2,p3.1,p3.2,aX p1];simp
 .rw[af c];by_cases c2:j<k
  .rw[ae c2,ae (by lia)]
  .rw[af c2,af (by lia)]
def IK (T:Txt K mg)(wH:DF K mg "marks" oT qb)(Kz:FC P w K mg base 3 "labels" p8 (vf K))(KA:FC P w K mg base 3 "colours" qa (mC K))(wG:FC P w K mg base 1 "neighbours" l5 (spNb K)):FC P w K mg base 5 "marks" qb (mE K):=by
 refine wH.ok lY (λvs H Q E h=>?_) (λf cdv A outer s H vs Q E hr h=>?_)
 .obtain ⟨a,ws,es,rfl,_⟩:=h;rfl
 obtain ⟨a,ws,es,rfl,ha,hw,hz,he,hri,q⟩:=h;refine #[_,(ay (aC (i:=1) lY.nd rfl (ar rfl) (aG KA hr (aa (aG Kz hr (aa (pv 0) ag)) ag)))
   (ay (il (i:=2) (N:=["tint"]) (own:=1) (cap:=[]) lY.nd rfl rfl rfl (du (pv 1)) #[rfl,rfl,rfl,rfl,rfl,rfl] (λ_ _ _ _ _=>(aF (i:=0) (show List.Nodup (["tint"]:List Str) by decide +kernel) rfl (ar rfl))) (λ_ _ _ _ _=>dI) (λ_ _ _ _ _=>dE))
   (ay (bZ PassesOwn.never rfl (gH (cC (aa ah (aa ah (aa ah ag))))) (aF (i:=3) lY.nd rfl (ar rfl)) (av (bZ PassesOwn.never rfl (jC rfl T.de (aa ah (aa (aV (bS (K:=K)) rfl T.bQ bJ (aa (pv 1) ag)) ag))) (aF (i:=4) lY.nd rfl (ar rfl)) (av (bR (PW.pt (lz (bg dF (aH (bC (K:=K)) (pv 1) (pv 4) (λ_ _=>rfl)) (pv 3) (bz _)) (ly (bg (lR (K:=K)) dE (aG wG hr (aa (pv 2) (aa (pv 4) ag))) (by with_unfolding_all rfl))))) (av (gG dE (jB (pv 2) (pv 4) jI))) cv)))))
   (av (aN (pv 2)))))),?_]
 refine #[_,rfl,a,ws,es,rfl,SqL.of ha,hw,hz,he,hri,λp H3 hp s3 h3=>?_];refine #[p,_,rfl,SqL.of h3,mD he hri,vi he hri,by rw[i8,eS];exact hz,λc H4 hc s4 h4=>?_];have cu:Unl (colL (cJ 5 (cw es))):=uU (uY (unlZ (mD he hri)));have cl:(colL (cJ 5 (cw es))).length=es.length:=by rw[uX,i8,eS]
 have fin:cx es=mkN (colL (cJ 5 (cw es))) 3:=(Bq _).symm;generalize colL (cJ 5 (cw es))=cs at h4 cu cl fin;have s04:=s3.trans s4;refine #[_,rfl,c,rfl,#[_,SqL.of h4],λF hF=>?_];refine fI (xs:=cs.map nV) (λi Z H5=>∃ x0:Option V,Z=[x0]/\H5 F=some (.lst ((List.replicate i false).map V.bl))/\But F H4 H5) ?_ ?_ ?_ ?_
 .exact #[_,rfl,ak,λb o n e=>by rw[aj n];exact e]
 .rintro i Z H5 _ ⟨x0,rfl,_,k5⟩;exact k5.sq (SqL.of h4) hF
 .rintro i m x Z H5 hx hm ⟨x0,rfl,h5,k5⟩;have hi:=(aM.mp hx).1;rw[aq]at hi hm;refine fV ?_;refine #[_,h5,bh (by rw[aq,cR];lia),m-1,by lia,by rw[aq];lia,_,rfl,?_,λb o n e=>by rw[aj n];exact k5 b o n e];rw[ak,nI,bq];rfl
 rintro Z H5 ⟨x0,rfl,h5,k5⟩;have s45:Same H4 H5:=λb o e=>k5 b o (au e hF) e;have h5c:=s45 _ _ h4;have nFc:c≠F:=au h4 hF;have hF0:H F=none:=s04.free hF;have k05:But F H H5:=λb o _ e=>s45 _ _ (s04 _ _ e);have e5:H5 F=some (.lst ((mkN cs 0).map V.bl)):=by
  rw[h5,mkN,aq,show List.replicate cs.length false=cs.map (λ_=>false) from by rw[List.map_const']]
 refine #[(by show 3<=sizeLine;decide),λt ht=>?_];have st:=aD ht (.tup [V.int 2,V.int 1,V.int 0]);refine #[t,rfl,#[_,SqT.of ak],?_];refine nU (xs:=[V.int 2,V.int 1,V.int 0]) (λi Z H6=>∃(x3 x4:Option V),Z=[some (.ref a),some (.ref c),some (.ref F),x3,x4]/\H6 F=some (.lst ((mkN cs i).map V.bl))/\H6 c=some (.lst (cs.map nV))/\H6 t=some (.tup [V.int 2,V.int 1,V.int 0])/\But F H H6) ?_ ?_ ?_ ?_
 .exact #[_,_,rfl,st _ _ e5,st _ _ h5c,ak,k05.new ht _]
 .rintro i Z H6 _ ⟨x3,x4,rfl,_,_,h6t,_⟩;exact SqT.of h6t
 .rintro i x Z H6 hx ⟨x3,x4,rfl,h6,h6c,h6t,k6⟩;obtain ⟨hi,rfl⟩:i<3/\x=V.int ((2-i:Nat):Int):=by
   rcases i with _|_|_|i
   .exact #[by decide,(aJ hx).symm]
   .exact #[by decide,(aJ hx).symm]
   .exact #[by decide,(aJ hx).symm]
   .cases hx
  have hml:=Br cs i;have hnx:mkN cs (i+1)=d6 (2-i) cs (mkN cs i):=rfl;rw[hnx];generalize mkN cs i=ms at h6 hml ⊢;generalize 2-i=sh;refine #[_,rfl,_,_,rfl,.inl (SqL.of h6c),1,_,rfl,#[by lia,by lia,by rw[aq];lia,by rw[aq];lia],?_];have en:((((cs.map nV).length:Nat):Int)-1).toNat=cs.length-1:=by rw[aq];lia
  rw[en];have km:∀ k,(mixM sh cs ms k).length=cs.length:=qV hml;refine fg (n:=cs.length-1) (λj Z H7=>∃(x4:Option V),Z=[some (.ref a),some (.ref c),some (.ref F),some (.int sh),x4]/\H7 F=some (.lst ((mixM sh cs ms (1+j)).map V.bl))/\H7 c=some (.lst (cs.map nV))/\H7 t=some (.tup [V.int 2,V.int 1,V.int 0])/\But F H H7) ?_ ?_ ?_
  .exact #[_,rfl,by rw[Bs hml];exact h6,h6c,h6t,k6]
  .rintro j Z H7 hj ⟨x4,rfl,h7,h7c,h7t,k7⟩;have ek:(1:Int)+(j:Int)=((1+j:Nat):Int):=by lia
   have hk1:1<=1+j:=by lia
   have hkl:1+j<cs.length:=by lia
   rw[ek];have es1:1+(j+1)=1+j+1:=by lia
   rw[es1];generalize 1+j=k at h7 hk1 hkl ⊢;have hat:=i5 (xs:=cs) hkl;have mc:cs.getD k 0=sh->fY (mixM sh cs ms k) k=fY ms k:=λz=>II cu hml hkl hk1 z;refine #[_,rfl,_,rfl,_,_,_,_,rfl,rfl,SqL.of h7c,hat,_,rfl,rfl,_,rfl,?_];refine ite2 (λe=>?_) (λe=>?_)
   .have e':cs.getD k 0=sh:=by
     have:=V.int.inj (bM e);lia
    refine #[_,rfl,_,rfl,F,_,k,rfl,h7,λb H8 hb sb hbb=>?_];rw[IG]at hbb;have kb:But F H H8:=λx o n e=>sb _ _ (k7 x o n e);refine #[_,_,rfl,.inl (SqL.of hbb),rfl,BJ _,_,rfl,?_];show if (!inV (.bl true) ((besB (mixM sh cs ms k) k).map V.bl))=true then _ else _
    rw[BI,IH hk1,mc e',Bool.not_not];refine ite2 (λy=>?_) (λy=>?_)
    .refine #[_,rfl,_,rfl,_,_,_,k,rfl,rfl,sb _ _ h7,kg (by rw[aq,km];exact hkl),?_];have same:∀ b o,b≠F->H8 b=some o->upd H8 F (.lst (((mixM sh cs ms k).map V.bl).set k (.bl true))) b=some o:=λb o n e=>by
      rw[aj n];exact e
     refine #[_,rfl,?_,same _ _ (λz=>?_) (sb _ _ h7c),same _ _ (aS (rm (sb _ _ h7) (sb _ _ h7t))) (sb _ _ h7t),λb o n e=>same _ _ n (kb b o n e)]
     .rw[ak,IJ hml hkl #[hk1,e',y],jz]
     .exact nFc z
    .exact #[_,rfl,by rw[BM hml hkl (λz=>y z.2)];exact sb _ _ h7,sb _ _ h7c,sb _ _ h7t,kb]
   .have e':cs.getD k 0≠sh:=λz=>e (by rw[z];exact aX rfl);refine iteF ?_;exact #[_,rfl,by rw[BM hml hkl (λz=>e' z.1)];exact h7,h7c,h7t,k7]
  .rintro Z H7 ⟨x4,rfl,h7,h7c,h7t,k7⟩;rw[Bn hml (by lia)]at h7;exact #[_,_,rfl,h7,h7c,h7t,k7]
 .rintro Z H6 ⟨x3,x4,rfl,h6,_,_,k6⟩;refine #[_,rfl,?_];refine q F H6 hF0 (λb o e=>k6 b o (au e hF0) e) ?_;rw[fin];exact h6
def IL {α:Type}:cG ([]:List α) []=[]:=rfl
def IM {ms:List Bool}{i:Nat}{x:V}(h:(ms.map V.bl)[i]?=some x):∃ hi:i<ms.length,x=.bl ms[i]:=by
 rw[bf]at h;cases e:ms[i]? with
 | none=>rw[e]at h;cases h
 | some y=>
  rw[e]at h;obtain ⟨hi,rfl⟩:=aM.mp e;exact #[hi,(aJ h).symm]
def rp {α:Type}{l:List α}{i:Nat}(h:i<l.length):l.take (i+1)=l.take i++[l[i]]:=cF h
def IP (T:Txt K mg)(wI:DF K mg "handed" oU qd)(KB:FC P w K mg base 5 "marks" qb (mE K)):FC P w K mg base 6 "handed" qd (vj K):=by
 refine wI.ok GS (λvs H Q E h=>?_) (λf cdv A outer s H vs Q E hr h=>?_)
 .obtain ⟨a,ws,es,rfl,_⟩:=h;rfl
 obtain ⟨a,ws,es,rfl,ha,hw,hz,he,hri,q⟩:=h;have hwl:=hw.length;have hml:=jb es;refine #[_,(av (aN (d4 (N:=["entry","mark"]) (own:=2) (cap:=[]) rfl (t7 rfl T.wg (aa (pv 0) (aa (aG KB hr (aa (pv 0) ag)) ag))) #[rfl,rfl,rfl,rfl,rfl,rfl] (λ_ _ _ _ _=>(oF (K:=K) (n:=2) rfl (cB (aF (i:=0) (show List.Nodup (["entry","mark"]:List Str) by decide +kernel) rfl (ar rfl)) (cB (aF (i:=1) (show List.Nodup (["entry","mark"]:List Str) by decide +kernel) rfl (ar rfl)) fF)))) (λ_ _ _ _ _=>(ik (hG (pv 1)))) (λ_ _ _ _ _=>(pv 0))))),?_];refine #[_,rfl,_,rfl,a,ws,es,rfl,ha,hw,hz,he,hri,λu H6 hu g6 h6u=>?_];have h6p:=g6 _ _ ha;generalize cx es=ms at hml h6u q;refine #[a,u,rfl,#[_,SqL.of h6p],#[_,SqL.of h6u],λD hD=>?_];refine zS (xs:=ws) (ys:=ms.map V.bl) (by rw[aq,hml];exact hwl.symm) (λj Z H7=>∃ x0 x1:Option V,Z=[x0,x1]/\H7 D=some (.lst (cG (ws.take j) (ms.take j)))/\But D H6 H7) ?_ ?_ ?_ ?_
 .exact #[_,_,rfl,by rw[gY,gY,IL];exact ak,λb o n e=>by rw[aj n];exact e]
 .rintro j Z H7 _ ⟨x0,x1,rfl,_,k7⟩;exact #[k7.sq (SqL.of h6p) hD,k7.sq (SqL.of h6u) hD]
 .rintro j m' x y Z H7 r' hx hy hm' ⟨x0,x1,rfl,h7,k7⟩ hr';obtain ⟨hj,rfl⟩:=IM hy;obtain ⟨hjw,rfl⟩:=aM.mp hx;have hsn:=vm (a:=ws[j]) (b:=ms[j]) (show (ws.take j).length=(ms.take j).length by rw[aT,aT];lia);rw[<-rp hjw,<-rp hj]at hsn;refine #[r',_,rfl,SqT.of ak,rfl,_,_,rfl,_,_,rfl,rfl,?_];have s7:=aD hr' (.tup [ws[j],.bl ms[j]]);have h8:=s7 _ _ h7;have k8:=k7.new hr' (.tup [ws[j],.bl ms[j]]);generalize upd H7 r' (.tup [ws[j],.bl ms[j]])=H8 at h8 k8 ⊢;refine #[_,rfl,_,rfl,?_];have hl8:=BK (ws.take j) (ms.take j);rw[aT]at hl8;refine ite2 (λe=>?_) (λe=>?_)
  .refine #[_,rfl,_,h8,bh (by lia),m'-1,by lia,by lia,_,_,rfl,?_,λb o n e=>by rw[aj n];exact k8 b o n e];rw[ak,hsn,ae e]
  .refine #[m'-1,by lia,by lia,_,_,rfl,?_,k8];rw[h8,hsn,af e,bY]
 .rintro Z H7 ⟨x0,x1,rfl,h7,k7⟩;rw[bu (ai _),bu (by lia)]at h7;have s7:Same H6 H7:=λb o e=>k7 b o (au e hD) e;exact q D H7 (g6.free hD) (g6.trans s7) h7
def BN {v:Nat}{xs:List Nat}{k:Nat}:((List.range (k+1)).filter λk=>decide (xs.getD k 0=v))=((List.range k).filter λk=>decide (xs.getD k 0=v))++(if xs.getD k 0=v then [k] else []):=by
 rw[fQ,c7];congr 1;by_cases h:xs.getD k 0=v
 .rw[ae h,dr (by exact aX h)];rfl
 .rw[af h,eB (by rw[bj h];decide)];rfl
def IQ (T:Txt K mg)(wJ:DF K mg "_law_colours" pD qA):FC P w K mg base 1 "_law_colours" qA (mC K):=by
 refine wJ.ok j4 (λvs H Q E h=>?_) (λf cdv A outer s H vs Q E hr h=>?_)
 .obtain ⟨a,xs,rfl,_⟩:=h;rfl
 obtain ⟨a,xs,rfl,hS,hu,hb,hz,q⟩:=h;refine #[_,(ay (aC (i:=1) j4.nd rfl (dg rfl) (fH (oE (K:=K)) rfl T.kG boot_list (aa (pv 0) ag)))
   (ay (bZ PassesOwn.never rfl (gH (cC (aa ah (aa ah (aa ah ag))))) (aF (i:=2) j4.nd rfl (dg rfl)) (ay (il (i:=3) (N:=["_law_k","_law_found","_law_high"]) (own:=1) (cap:=[1,2]) j4.nd rfl rfl rfl (ff rfl T.de (aa (aV (bS (K:=K)) rfl T.bQ bJ (aa (pv 1) ag)) ag)) #[rfl,rfl,rfl,rfl,rfl,rfl] (λ_ _ _ _ _=>(aF (i:=0) (show List.Nodup (["_law_k","_law_found","_law_high"]:List Str) by decide +kernel) rfl (ar rfl))) (λ_ _ _ _ _=>(ik (bg dF (aH (bC (K:=K)) (pv 1) (pv 0) (λ_ _=>rfl)) (pv 2) (bz _)))) (λ_ _ _ _ _=>(pv 0)))
   (av (bZ PassesOwn.never rfl (du (pv 3)) (aF (i:=4) j4.nd rfl (ar rfl)) (ay (aC (i:=5) j4.nd rfl (dg rfl) (aw yH (gK (lS (K:=K)) (pv 1) (eQ (aV (tu rfl) rfl T.we boot_max (aa ah (aa (aw dv (pv 4) ah) ag)))) (eQ (pv 4))) (gK (lS (K:=K)) (pv 1) (eQ (aw bF (pv 4) ah)) (eQ (aw bF (pv 4) ah)))))
   (av (gG (aH (bC (K:=K)) (d4 (N:=["_law_colour","_law_beside"]) (own:=1) (cap:=[5]) rfl (ff rfl T.de (aa ah ag)) #[rfl,rfl,rfl,rfl,rfl,rfl] (λ_ _ _ _ _=>(aF (i:=0) (show List.Nodup (["_law_colour","_law_beside"]:List Str) by decide +kernel) rfl (ar rfl))) (λ_ _ _ _ _=>(ik (bg (lR (K:=K)) (pv 0) (pv 1) (by with_unfolding_all rfl)))) (λ_ _ _ _ _=>(pv 0))) ah (λ_ _=>rfl)) (jB (pv 1) (pv 4) jI))))))))
   (av (aN (pv 1))))),?_]
 refine #[_,rfl,a,_,rfl,.inl hS,λp hp=>?_];have k0:But p H (upd H p (.lst (xs.map nV))):=λb o n e=>by rw[aj n];exact e
 refine #[(by show 3<=sizeLine;decide),λt ht=>?_];have npt:p≠t:=au ak ht;refine #[t,rfl,#[_,SqT.of ak],?_];refine nU (xs:=[V.int 3,V.int 4,V.int 5]) (λi Z H2=>∃ x2 x3 x4 x5:Option V,Z=[some (.ref a),some (.ref p),x2,x3,x4,x5]/\H2 p=some (.lst ((colN xs i).map nV))/\H2 t=some (.tup [V.int 3,V.int 4,V.int 5])/\But p H H2) ?_ ?_ ?_ ?_
 .exact #[_,_,_,_,rfl,by rw[aj npt];exact ak,ak,k0.new ht _]
 .rintro i Z H2 _ ⟨x2,x3,x4,x5,rfl,_,h2t,_⟩;exact SqT.of h2t
 .rintro i x Z H2 hx ⟨x2,x3,x4,x5,rfl,h2,h2t,k2⟩;obtain ⟨hi,rfl⟩:i<3/\x=V.int ((3+i:Nat):Int):=by
   rcases i with _|_|_|i
   .exact #[by decide,(aJ hx).symm]
   .exact #[by decide,(aJ hx).symm]
   .exact #[by decide,(aJ hx).symm]
   .cases hx
  have hyl:=Bo xs i;have hyu:=Bp hu i;have hnx:colN xs (i+1)=recL (3+i) (colN xs i):=rfl;rw[hnx];generalize colN xs i=ys at h2 hyl hyu ⊢;generalize 3+i=v;refine #[_,rfl,_,_,rfl,.inl (SqL.of h2),_,rfl,by rw[aq];lia,by rw[aq];lia,λD hD=>?_];have el:((((ys.map nV).length:Nat):Int)).toNat=ys.length:=by rw[aq,fN]
  rw[el];refine jQ (n:=ys.length) (λk Z H3=>∃ x0:Option V,Z=[x0,some (.ref p),some (.int v)]/\H3 D=some (.lst (((List.range k).filter λk=>decide (ys.getD k 0=v)).map nV))/\But D H2 H3) ?_ ?_ ?_
  .exact #[_,rfl,ak,λb o n e=>by rw[aj n];exact e]
  .rintro k m Z H3 hm hk ⟨x0,rfl,h3,k3⟩;have h3p:H3 p=some (.lst (ys.map nV)):=k3 _ _ (au h2 hD) h2;have hat:atI (ys.map nV) (0+(k:Int))=some (nV (ys.getD k 0)):=by
    rw[fE];exact i5 hk
   have hlen:=dW (λk=>decide (ys.getD k 0=v)) (List.range k);rw[cq]at hlen;refine #[_,rfl,_,rfl,_,_,_,_,rfl,rfl,SqL.of h3p,hat,_,rfl,rfl,_,rfl,?_];refine ite2 (λc=>?_) (λc=>?_)
   .have c':ys.getD k 0=v:=by
     have:=V.int.inj (bM c);lia
    refine #[_,rfl,_,h3,bh (by rw[aq];lia),m-1,by lia,by lia,_,rfl,?_,λb o n e=>by rw[aj n];exact k3 b o n e];rw[ak,BN,ae c',bq,fE];rfl
   .have c':ys.getD k 0≠v:=λz=>c (by rw[z];exact aX rfl);refine #[m-1,by lia,by lia,_,rfl,?_,k3];rw[h3,BN,af c',bY]
  .rintro Z H3 ⟨x0,rfl,h3,k3⟩;have h3:H3 D=some (.lst ((atsL v ys).map nV)):=h3;have h3p:H3 p=some (.lst (ys.map nV)):=k3 _ _ (au h2 hD) h2;have h3t:=k3 _ _ (au h2t hD) h2t;have kk3:But p H H3:=λb o n e=>k3 b o (au (k2 b o n e) hD) (k2 b o n e);have npD:p≠D:=au h2 hD;have A:=mi v ys;refine #[_,rfl,D,rfl,#[_,SqL.of h3],?_];refine jF (xs:=(atsL v ys).map nV) (λj Z H4=>∃ x4 x5:Option V,Z=[some (.ref a),some (.ref p),some (.int v),some (.ref D),x4,x5]/\H4 p=some (.lst ((mixL v ys ((atsL v ys).getD j ys.length)).map nV))/\H4 D=some (.lst ((atsL v ys).map nV))/\H4 t=some (.tup [V.int 3,V.int 4,V.int 5])/\But p H H4) ?_ ?_ ?_ ?_
   .exact #[_,_,rfl,by rw[HK];exact h3p,h3,h3t,kk3]
   .rintro j Z H4 _ ⟨x4,x5,rfl,_,h4D,_⟩;exact SqL.of h4D
   .rintro j x Z H4 hx ⟨x4,x5,rfl,h4,h4D,h4t,k4⟩;obtain ⟨hj,rfl⟩:=mz hx;have eg:(atsL v ys).getD j 0=(atsL v ys)[j]:=by
     rw[aE,az hj];rfl
    have eg2:(atsL v ys).getD j ys.length=(atsL v ys)[j]:=by
     rw[aE,az hj];rfl
    obtain ⟨g1,g2⟩:=A.get hj;have nx:=HL hj;rw[eg2]at h4;rw[eg];generalize (atsL v ys)[j]=k at h4 g1 g2 nx ⊢;have g2:ys.getD k 0=v:=bM g2;have hb2:=Bj hyu g1 g2;have ml:=va v ys k;refine Iy (k:=k) rfl rfl rfl h4 λg H5 hg s5 h5=>?_;rw[hb2]at h5;have h5p:=s5 _ _ h4;have npg:p≠g:=au h4 hg;refine #[3,rfl,by decide,by decide,λD2 hD2=>?_];refine jQ (n:=3) (λc Z H6=>∃ x0:Option V,Z=[x0,some (.ref g)]/\H6 D2=some (.lst (((List.range c).filter λc=>!decide (c∈bT ys k)).map nV))/\But D2 H5 H6) ?_ ?_ ?_
    .exact #[_,rfl,ak,λb o n e=>by rw[aj n];exact e]
    .rintro c m Z H6 hm hc ⟨x0,rfl,h6,k6⟩;have h6g:=k6 _ _ (au h5 hD2) h5;have hlen:=dW (λc=>!decide (c∈bT ys k)) (List.range c);rw[cq]at hlen;refine #[_,rfl,_,rfl,_,_,rfl,.inl (SqL.of h6g),rfl,rf _,_,rfl,?_];show if (!inV (.int (0+(c:Int))) ((bT ys k).map nV))=true then _ else _
     rw[fE,rg];refine ite2 (λe=>?_) (λe=>?_)
     .have e':c∉bT ys k:=λz=>by
       rw[aX z]at e;cases e
      refine #[_,rfl,_,h6,bh (by rw[aq];lia),m-1,by lia,by lia,_,rfl,?_,λb o n e=>by rw[aj n];exact k6 b o n e];rw[ak,rl,af e',bq];rfl
     .have e':c∈bT ys k:=jh λz=>e (by rw[bj z];rfl);refine #[m-1,by lia,by lia,_,rfl,?_,k6];rw[h6,rl,ae e',bY]
    .rintro Z H6 ⟨x0,rfl,h6,k6⟩;have h6p:=k6 _ _ (au h5p hD2) h5p;have hff:=Hr (xs:=ys) (k:=k);have hat0:atI (((List.range 3).filter λc=>!decide (c∈bT ys k)).map nV) 0=some (nV (eE ys k)):=by
      rw[show (0:Int)=((0:Nat):Int) from rfl];refine dG ?_;rw[bf,<-List.head?_eq_getElem?,hff];rfl
     refine #[_,_,_,_,rfl,rfl,SqL.of h6,hat0,?_];refine #[_,rfl,_,rfl,_,_,_,k,rfl,rfl,h6p,kg (by rw[aq,ml];exact g1),?_];have same:∀ b o,b≠p->H4 b=some o->upd H6 p (.lst (((mixL v ys k).map nV).set k (nV (eE ys k)))) b=some o:=λb o n e=>by
      rw[aj n];exact k6 _ _ (au (s5 _ _ e) hD2) (s5 _ _ e)
     refine #[_,_,rfl,?_,same _ _ (aS npD) h4D,same _ _ (aS (rm h4 h4t)) h4t,λb o n e=>same _ _ n (k4 b o n e)];rw[ak,nx,jz]
   .rintro Z H4 ⟨x4,x5,rfl,h4,h4D,h4t,k4⟩;rw[aq,HM]at h4;exact #[_,_,_,_,rfl,h4,h4t,k4]
 .rintro Z H2 ⟨x2,x3,x4,x5,rfl,h2,_,k2⟩;refine #[_,rfl,?_];exact q p H2 hp (λb o e=>k2 b o (au e hp) e) h2
def IR (T:Txt K mg)(wK:DF K mg "_law_marks" pE qB)(KC:FC P w K mg base 1 "_law_code" qy (mx K))(KD:FC P w K mg base 1 "_law_turned" qz (mB K))(KE:FC P w K mg base 1 "_law_colours" qA (mC K)):FC P w K mg base 2 "_law_marks" qB (mE K):=by
 refine wK.ok ip (λvs H Q E h=>?_) (λf cdv A outer s H vs Q E hr h=>?_)
 .obtain ⟨a,ws,es,rfl,_⟩:=h;rfl
 obtain ⟨a,ws,es,rfl,ha,hw,hz,he,hri,q⟩:=h;have hlen:=hw.length;refine #[_,(ay (il (i:=1) (N:=["_law_entry"]) (own:=1) (cap:=[]) ip.nd rfl rfl rfl (du (pv 0)) #[rfl,rfl,rfl,rfl,rfl,rfl] (λ_ _ _ _ _=>(aF (i:=0) (show List.Nodup (["_law_entry"]:List Str) by decide +kernel) rfl (ar rfl))) (λ_ _ _ _ _=>dI) (λ_ _ _ _ _=>(aG KC hr (aa (pv 0) ag))))
   (ay (bZ PassesOwn.never rfl (ff rfl T.de (aa ah ag)) (aF (i:=2) ip.nd rfl (ar rfl)) (av (aC (i:=1) ip.nd rfl (ar rfl) (aG KD hr (aa (pv 1) ag)))))
   (ay (aC (i:=3) ip.nd rfl (ar rfl) (aG KE hr (aa (pv 1) ag)))
   (ay (il (i:=4) (N:=["_law_entry"]) (own:=1) (cap:=[]) ip.nd rfl rfl rfl (du (pv 0)) #[rfl,rfl,rfl,rfl,rfl,rfl] (λ_ _ _ _ _=>(aF (i:=0) (show List.Nodup (["_law_entry"]:List Str) by decide +kernel) rfl (ar rfl))) (λ_ _ _ _ _=>dI) (λ_ _ _ _ _=>dE))
   (ay (bZ PassesOwn.never rfl (gH (cC (aa ah (aa ah (aa ah ag))))) (aF (i:=5) ip.nd rfl (ar rfl)) (av (bZ PassesOwn.never rfl (jC rfl T.de (aa ah (aa (aV (bS (K:=K)) rfl T.bQ bJ (aa (pv 0) ag)) ag))) (aF (i:=2) ip.nd rfl (ar rfl)) (av (bR (PW.pt (lz (bg dF (aH (bC (K:=K)) (pv 3) (pv 2) (λ_ _=>rfl)) (pv 5) (bz _)) (ly (bg (lR (K:=K)) dE (gK (lS (K:=K)) (pv 4) (eQ (aw dv (pv 2) ah)) (eQ (aw bF (pv 2) ah))) (by with_unfolding_all rfl))))) (av (gG dE (jB (pv 4) (pv 2) jI))) cv)))))
   (av (aN (pv 4)))))))),?_]
 refine #[_,rfl,a,rfl,#[_,SqL.of ha],λD hD=>?_];have k0:But D H (upd H D (.lst [])):=λb o n e=>by rw[aj n];exact e
 refine fI (xs:=ws) (λi Z H2=>∃ x0:Option V,Z=[x0]/\H2 D=some (.lst (((cw es).take i).map nV))/\But D H H2) ?_ ?_ ?_ ?_
 .exact #[_,rfl,ak,k0]
 .rintro i Z H2 _ ⟨x0,rfl,_,k2⟩;exact k2.sq (SqL.of ha) hD
 .rintro i m x Z H2 hx hm ⟨x0,rfl,h2,k2⟩;obtain ⟨hi,hhas⟩:=BD hD hw hx k2;refine fV ?_;refine #[_,rfl,x,es[i],rfl,hhas,?_];refine #[_,h2,bh (by rw[aq,aT,eS];lia),m-1,by lia,by lia,_,rfl,?_,λb o n e=>by rw[aj n];exact k2 b o n e];rw[ak,BC hi,bq,<-mw (he _ (cU hi))];rfl
 rintro Z H2 ⟨x0,rfl,h2,k2⟩;have e0:H2 D=some (.lst ((cw es).map nV)):=by
  rw[h2,bu (by rw[eS];lia)]
 have same0:Same H H2:=λb o e=>k2 b o (au e hD) e;refine #[5,rfl,by decide,by decide,?_];refine fg (n:=5) (λi Z H3=>∃(p:Addr) (x2:Option V),Z=[some (.ref a),some (.ref p),x2,none,none,none]/\Same H H3/\H3 p=some (.lst ((cJ i (cw es)).map nV))) ?_ ?_ ?_
 .exact #[D,_,rfl,same0,e0]
 .rintro i Z H3 hi ⟨p,x2,rfl,s3,h3⟩;refine #[_,rfl,p,_,rfl,SqL.of h3,i9 (rj he hri) i,by rw[i8,eS];exact hz,λp4 H4 hp4 s4 h4=>?_];exact #[p4,_,rfl,s3.trans s4,h4]
 rintro Z H3 ⟨p,x2,rfl,s3,h3⟩;refine #[_,rfl,p,_,rfl,SqL.of h3,mD he hri,vi he hri,by rw[i8,eS];exact hz,λc H4 hc s4 h4=>?_];have cu:Unl (colL (cJ 5 (cw es))):=uU (uY (unlZ (mD he hri)));have cl:(colL (cJ 5 (cw es))).length=es.length:=by rw[uX,i8,eS]
 have fin:cx es=mkN (colL (cJ 5 (cw es))) 3:=(Bq _).symm;generalize colL (cJ 5 (cw es))=cs at h4 cu cl fin;have s04:=s3.trans s4;have h4a:=s04 _ _ ha;refine #[_,rfl,a,rfl,#[_,SqL.of h4a],λF hF=>?_];refine fI (xs:=ws) (λi Z H5=>∃ x0:Option V,Z=[x0]/\H5 F=some (.lst ((List.replicate i false).map V.bl))/\But F H4 H5) ?_ ?_ ?_ ?_
 .exact #[_,rfl,ak,λb o n e=>by rw[aj n];exact e]
 .rintro i Z H5 _ ⟨x0,rfl,_,k5⟩;exact k5.sq (SqL.of h4a) hF
 .rintro i m x Z H5 hx hm ⟨x0,rfl,h5,k5⟩;have hi:=(aM.mp hx).1;refine fV ?_;refine #[_,h5,bh (by rw[aq,cR];lia),m-1,by lia,by lia,_,rfl,?_,λb o n e=>by rw[aj n];exact k5 b o n e];rw[ak,nI,bq];rfl
 rintro Z H5 ⟨x0,rfl,h5,k5⟩;have s45:Same H4 H5:=λb o e=>k5 b o (au e hF) e;have h5c:=s45 _ _ h4;have h5a:=s45 _ _ h4a;have nFc:c≠F:=au h4 hF;have hF0:H F=none:=s04.free hF;have k05:But F H H5:=λb o _ e=>s45 _ _ (s04 _ _ e);have e5:H5 F=some (.lst ((mkN cs 0).map V.bl)):=by
  rw[h5,mkN,show List.replicate ws.length false=cs.map (λ_=>false) from by rw[List.map_const',cl,hlen]]
 refine #[(by show 3<=sizeLine;decide),λt ht=>?_];have st:=aD ht (.tup [V.int 2,V.int 1,V.int 0]);refine #[t,rfl,#[_,SqT.of ak],?_];refine nU (xs:=[V.int 2,V.int 1,V.int 0]) (λi Z H6=>∃(x1 x2 x5:Option V),Z=[some (.ref a),x1,x2,some (.ref c),some (.ref F),x5]/\H6 F=some (.lst ((mkN cs i).map V.bl))/\H6 c=some (.lst (cs.map nV))/\H6 t=some (.tup [V.int 2,V.int 1,V.int 0])/\But F H H6) ?_ ?_ ?_ ?_
 .exact #[_,_,_,rfl,st _ _ e5,st _ _ h5c,ak,k05.new ht _]
 .rintro i Z H6 _ ⟨x1,x2,x5,rfl,_,_,h6t,_⟩;exact SqT.of h6t
 .rintro i x Z H6 hx ⟨x1,x2,x5,rfl,h6,h6c,h6t,k6⟩;obtain ⟨hi,rfl⟩:i<3/\x=V.int ((2-i:Nat):Int):=by
   rcases i with _|_|_|i
   .exact #[by decide,(aJ hx).symm]
   .exact #[by decide,(aJ hx).symm]
   .exact #[by decide,(aJ hx).symm]
   .cases hx
  have hml:=Br cs i;have hnx:mkN cs (i+1)=d6 (2-i) cs (mkN cs i):=rfl;rw[hnx];generalize mkN cs i=ms at h6 hml ⊢;generalize 2-i=sh;have h6a:=k6 _ _ (au ha hF0) ha;refine #[_,rfl,_,_,rfl,.inl (SqL.of h6a),1,_,rfl,#[by lia,by lia,by lia,by lia],?_];have en:(((ws.length:Nat):Int)-1).toNat=cs.length-1:=by lia
  rw[en];have km:∀ k,(mixM sh cs ms k).length=cs.length:=qV hml;refine fg (n:=cs.length-1) (λj Z H7=>∃(x2:Option V),Z=[some (.ref a),x1,x2,some (.ref c),some (.ref F),some (.int sh)]/\H7 F=some (.lst ((mixM sh cs ms (1+j)).map V.bl))/\H7 c=some (.lst (cs.map nV))/\H7 t=some (.tup [V.int 2,V.int 1,V.int 0])/\But F H H7) ?_ ?_ ?_
  .exact #[_,rfl,by rw[Bs hml];exact h6,h6c,h6t,k6]
  .rintro j Z H7 hj ⟨x2,rfl,h7,h7c,h7t,k7⟩;have ek:(1:Int)+(j:Int)=((1+j:Nat):Int):=by lia
   have hk1:1<=1+j:=by lia
   have hkl:1+j<cs.length:=by lia
   rw[ek];have es1:1+(j+1)=1+j+1:=by lia
   rw[es1];generalize 1+j=k at h7 hk1 hkl ⊢;have hat:=i5 (xs:=cs) hkl;have mc:cs.getD k 0=sh->fX (mixM sh cs ms k) k=fX ms k:=λz=>Hy cu hml hkl hk1 z;refine #[_,rfl,_,rfl,_,_,_,_,rfl,rfl,SqL.of h7c,hat,_,rfl,rfl,_,rfl,?_];refine ite2 (λe=>?_) (λe=>?_)
   .have e':cs.getD k 0=sh:=by
     have:=V.int.inj (bM e);lia
    refine #[_,rfl,_,rfl,_,_,rfl,rfl,_,rfl,_,rfl,_,_,rfl,rfl,_,rfl,_,_,rfl,SqL.of h7,λb hb=>?_];have sb:=aD hb (.lst (cutV ((mixM sh cs ms k).map V.bl) (some ((k:Int)-1)) (some ((k:Int)+2))));have hbb:upd H7 b (.lst (cutV ((mixM sh cs ms k).map V.bl) (some ((k:Int)-1)) (some ((k:Int)+2)))) b=some (.lst ((((mixM sh cs ms k).drop (k-1)).take 3).map V.bl)):=by
     rw[ak,IA hk1 rfl rfl]
    have kb:=k7.new hb (.lst (cutV ((mixM sh cs ms k).map V.bl) (some ((k:Int)-1)) (some ((k:Int)+2))));generalize upd H7 b (.lst (cutV ((mixM sh cs ms k).map V.bl) (some ((k:Int)-1)) (some ((k:Int)+2))))=H8 at sb hbb kb ⊢;refine #[_,_,rfl,.inl (SqL.of hbb),rfl,BJ _,_,rfl,?_];show if (!inV (.bl true) ((((mixM sh cs ms k).drop (k-1)).take 3).map V.bl))=true then _ else _
    rw[BI,any3 _ hk1,mc e',Bool.not_not];refine ite2 (λy=>?_) (λy=>?_)
    .refine #[_,rfl,_,rfl,_,_,_,k,rfl,rfl,sb _ _ h7,kg (by rw[aq,km];exact hkl),?_];have same:∀ b o,b≠F->H8 b=some o->upd H8 F (.lst (((mixM sh cs ms k).map V.bl).set k (.bl true))) b=some o:=λb o n e=>by
      rw[aj n];exact e
     refine #[_,rfl,?_,same _ _ (λz=>?_) (sb _ _ h7c),same _ _ (aS (rm (sb _ _ h7) (sb _ _ h7t))) (sb _ _ h7t),λb o n e=>same _ _ n (kb b o n e)]
     .rw[ak,Hz hml hkl #[hk1,e',y],jz]
     .exact nFc z
    .exact #[_,rfl,by rw[vb hml hkl (λz=>y z.2.2)];exact sb _ _ h7,sb _ _ h7c,sb _ _ h7t,kb]
   .have e':cs.getD k 0≠sh:=λz=>e (by rw[z];exact aX rfl);refine iteF ?_;exact #[_,rfl,by rw[vb hml hkl (λz=>e' z.2.1)];exact h7,h7c,h7t,k7]
  .rintro Z H7 ⟨x2,rfl,h7,h7c,h7t,k7⟩;rw[Bn hml (by lia)]at h7;exact #[_,_,_,rfl,h7,h7c,h7t,k7]
 .rintro Z H6 ⟨x1,x2,x5,rfl,h6,_,_,k6⟩;refine #[_,rfl,?_];refine q F H6 hF0 (λb o e=>k6 b o (au e hF0) e) ?_;rw[fin];exact h6
set_option maxHeartbeats 1000000 in
def d7 {K:Frag}{H:Hp}{q:Addr}{zs:List V}(hq:H q=some (.lst zs)){es:List (Int×Int)}{ws:List V}(h:aB K H es ws):aB K (upd H q o) es ws:=pImp (λ_ _ h=>by
  obtain ⟨a,x1,x2,rfl,hT,e1,e2⟩:=(show hasP K H _ _ from h);exact #[a,x1,x2,rfl,by rw[aj (xB hT hq (by intro z;cases z))];exact hT,e1,e2]) h
def Own (K:Frag)(H:Hp):List Addr->List (List (Int×Int))->Prop:=Paired λq l=>∃ ws,H q=some (.lst ws)/\aB K H l ws
section
variable {K:Frag}{H H':Hp}
def Own.length {qs:List Addr}{ls:List (List (Int×Int))}(h:Own K H qs ls):qs.length=ls.length:=Paired.length h
def Own.ext (e:Ext H H'){qs:List Addr}{ls:List (List (Int×Int))}(h:Own K H qs ls):Own K H' qs ls:=pImp (λ_ _ h=>by
 obtain ⟨ws,h1,h2⟩:=h;exact #[ws,e _ _ h1 nofun,aB.mono e h2]) h
def Own.get:∀{qs:List Addr} {ls:List (List (Int×Int))} {i:Nat} {x:V},Own K H qs ls->(qs.map V.ref)[i]?=some x->∃ q l ws,qs[i]?=some q/\x=.ref q/\ls[i]?=some l/\H q=some (.lst ws)/\aB K H l ws
 | _,_,_,_,.nil,e=>by simp at e
 | _,_,0,_,.cons ⟨ws,h1,h2⟩ _,e=>by
  simp at e;exact #[_,_,ws,rfl,e.symm,rfl,h1,h2]
 | _,_,i+1,x,.cons _ t,e=>by
  obtain ⟨q,l,ws,h1,h2,h3,h4,h5⟩:=Own.get (i:=i) (x:=x) t (by simpa using e);exact #[q,l,ws,by simpa using h1,h2,by simpa using h3,h4,h5]
def Own.append {qs qs':List Addr}{ls ls':List (List (Int×Int))}(h:Own K H qs ls)(g:Own K H qs' ls'):Own K H (qs++qs') (ls++ls'):=pApp h g
def Own.other {q:Addr}{zs:List V}(hq:H q=some (.lst zs)){qs:List Addr}{ls:List (List (Int×Int))}(h:Own K H qs ls)(hn:q∉qs):Own K (upd H q o) qs ls:=by
 unfold Own at h
 induction h with
 | nil=>exact .nil
 | cons h _ ih=>
  obtain ⟨ws,h1,h2⟩:=h;rw[aW,not_or]at hn;exact .cons #[ws,by rw[aj (aS hn.1)];exact h1,d7 hq h2] (ih hn.2)
end
def BO {ls:List (List (Int×Int))}{i:Nat}{l:List (Int×Int)}(h:ls[i]?=some l):(ls.take (i+1)).flatten=(ls.take i).flatten++l:=by
 have hi:=(aM.mp h).1;rw[cF hi,nJ,(aM.mp h).2];simp
def IS {ls:List (List (Int×Int))}(i:Nat):(ls.take i).flatten.length<=ls.flatten.length:=by
 have e:ls.flatten=(ls.take i).flatten++(ls.drop i).flatten:=by rw[<-nJ,fb]
 rw[e,bc];lia
inductive vo (K:Frag)(vs:List V)(H:Hp)(Q:VK)(w_1:XK):Prop
 | c:∀(a:Addr) (qs:List Addr) (ls:List (List (Int×Int))),vs=[.ref a]->H a=some (.lst (qs.map V.ref))->Own K H qs ls->ls.flatten.length<=1000->(∀(p:Addr) (ws:List V) (H':Hp),H p=none->Same H H'->H' p=some (.lst ws)->aB K H' (dJ ls.flatten) ws->Q (.ref p) H')->vo K vs H Q w_1
def IT (T:Txt K mg)(wL:DF K mg "joined_up" oM pY):FC P w K mg base 1 "joined_up" pY (vo K):=by
 refine wL.ok uI (λvs H Q E h=>?_) (λf cdv A outer s H vs Q E hr h=>?_)
 .obtain ⟨a,qs,ls,rfl,_⟩:=h;rfl
 obtain ⟨a,qs,ls,rfl,ha,ho,hz,q⟩:=h;have hll:=ho.length;refine #[_,(ay (aC (i:=1) uI.nd rfl (ar rfl) (eC ag))
   (ay (bZ PassesOwn.never rfl (du (pv 0)) (aF (i:=2) uI.nd rfl (ar rfl)) (av (dX (dY F.plainAttrs_list F.slot_list_extend F.type_list_extend D6 (pv 1) (aa (pv 2) ag)))))
   (av (aN (aV (oC (Int×Int)) rfl T.rR boot_sorted (aa (pv 1) ag)))))),?_]
 refine #[(by show 0<=sizeLine;decide),λt ht=>?_];have k0:But t H (upd H t (.lst [])):=λb o n e=>by rw[aj n];exact e
 refine #[_,rfl,a,rfl,#[_,SqL.of (k0 _ _ (au ha ht) ha)],?_];refine jF (xs:=qs.map V.ref) (λi Z H2=>∃(zs:List V) (x2:Option V),Z=[some (.ref a),some (.ref t),x2]/\H2 t=some (.lst zs)/\aB K H2 (ls.take i).flatten zs/\But t H H2/\Own K H2 qs ls) ?_ ?_ ?_ ?_
 .exact #[[],_,rfl,ak,.nil,k0,ho.ext (aD ht _).ext]
 .rintro i Z H2 _ ⟨zs,x2,rfl,h2,_,k2,_⟩;exact SqL.of (k2 _ _ (au ha ht) ha)
 .rintro i x Z H2 hx ⟨zs,x2,rfl,h2,hw,k2,o2⟩;obtain ⟨g,l,ws,e1,rfl,e3,e4,e5⟩:=o2.get hx;have hlen:zs.length+ws.length<=1000:=by
   have z1:=hw.length;have z2:=e5.length;have z3:=IS (ls:=ls) (i+1);rw[BO e3,bc]at z3;lia
  have hgo:∀ b∈qs,b≠t:=λb hb z=>by
   obtain ⟨j,hj,rfl⟩:=dC hb;obtain ⟨_,_,ws0,f1,f2,_,f4,_⟩:=ho.get (i:=j) (x:=.ref qs[j]) (by rw[bf,az hj];rfl);cases f2
   rw[z,ht]at f4;cases f4
  refine #[_,rfl,.inl #[rfl,_,SqL.of h2],_,rfl,t,g,zs,ws,rfl,rfl,h2,e4,aZ (bh hlen),?_];refine #[_,_,rfl,ak,?_,λb o n e=>by rw[aj n];exact k2 b o n e,o2.other h2 (λz=>hgo t z rfl)];rw[BO e3];exact (d7 h2 hw).append (d7 h2 e5)
 .rintro Z H2 ⟨zs,x2,rfl,h2,hw,k2,o2⟩;rw[bu (by rw[aq];lia)]at hw;refine #[_,rfl,t,zs,_,rfl,SqL.of h2,hw,λl ws hl hs=>?_];have e2:=aD hl (.lst ws);have s2:Same H H2:=λb o e=>k2 b o (au e ht) e;exact q l ws _ (s2.free hl) (s2.trans e2) ak (aB.mono e2.ext hs)
def bO (ps:List Nat):List V:=.non::ps.map nV
def parV (ps:List Nat)(k:Nat):V:=match par ps k with
 | none=>.non
 | some p=>nV p
def cK (ps:List Nat):(bO ps).length=ps.length+1:=by
 unfold bO;rw[cE,aq]
def mH {ps:List Nat}{k:Nat}(h:k<ps.length+1):atI (bO ps) (k:Int)=some (parV ps k):=by
 refine dG ?_;unfold bO parV;cases k with
 | zero=>rfl
 | succ k=>
  show (ps.map nV)[k]?=some (match ps[k]? with|none=>_|some p=>nV p)
  rw[bf,az (show k<ps.length by lia)];rfl
def kh {k p:Nat}(h:par ps k=some p):parV ps k=nV p:=by
 unfold parV;rw[h]
def BP {k:Nat}(h:par ps k=none):parV ps k=.non:=by
 unfold parV;rw[h]
def BQ {k m:Nat}:parV ps k=.int (m:Int)↔par ps k=some m:=by
 cases e:par ps k with
 | none=>
  rw[BP e];exact #[nofun,nofun]
 | some p=>
  rw[kh e];constructor
  .intro z;have:=Int.ofNat.inj (V.int.inj z);rw[this]
  .intro z;rw[aJ z]
def IU (ps:List Nat)(k:Nat)(i:Int):scal (parV ps k) (.int i)=true:=by
 cases e:par ps k with
 | none=>rw[BP e];rfl
 | some p=>rw[kh e];rfl
def But.new' {b:Addr}(k:But p H H2)(hb:H2 b=none)(o:HO):But p H (upd H2 b o):=λx o' n e=>(aD hb o) x o' (k x o' n e)
inductive vp (K:Frag)(vs:List V)(H:Hp)(Q:VK)(w_1:XK):Prop
 | c:∀(d L:Addr) (m:Int),vs=[.ref d,.int m]->(0<m/\m<=40)->LS K L d H->(∀(t:Addr) (ps:List Nat) (H':Hp),H t=none->aO ps->(ps.length:Int)<m->H' t=some (.tup (bO ps))->Keep d H H'->LS K L d H'->Q (.ref t) H')->vp K vs H Q w_1
def IV {u:Nat}(T:aO ps)(h:u<=ps.length):aO (ps++[u]):=by
 intro i hi;rw[bc,fz]at hi;by_cases c:i<ps.length
 .rw[List.getElem_append_left c];exact T i c
 .have:i=ps.length:=by lia
  subst this;rw[List.getElem_append_right (ai _)];simp;exact h
def IW (T:Txt K mg)(wM:DF K mg "_law_tree" pw qw)(cj:FC P w K mg base 2 "_law_take" gM (ij K)):FC P w K mg base 3 "_law_tree" qw (vp K):=by
 refine wM.ok pT (λvs H Q E h=>?_) (λf cdv A outer s H vs Q E hr h=>?_)
 .obtain ⟨d,L,m,rfl,_⟩:=h;rfl
 obtain ⟨d,L,m,rfl,⟨hm0,hm1⟩,hs,q⟩:=h;refine #[_,(ay (aC (i:=2) pT.nd rfl (ar rfl) (aG cj hr (aa (pv 0) (aa ah ag))))
   (ay (aC (i:=3) pT.nd rfl (ar rfl) (eC (aa xD ag)))
   (ay (bZ PassesOwn.never rfl (jC rfl T.de (aa ah (aa (aw bF ah (aG cj hr (aa (pv 0) (aa (pv 1) ag)))) ag))) (aF (i:=4) pT.nd rfl (ar rfl)) (av (dX (dY F.plainAttrs_list F.slot_list_append F.type_list_append dH (pv 3) (aa (aH (bC (K:=K)) (eC (aa (aw dv (pv 4) ah) (aa ah (aa (aG cj hr (aa (pv 0) (aa (pv 4) ag))) (aa (aV (tu rfl) rfl T.we boot_max (aa ah (aa (aw dv (aw dv (pv 4) ah) (aG cj hr (aa (pv 0) (aa ah ag)))) ag))) ag))))) (pv 2) (λ_ _=>rfl)) ag)))))
   (av (aN (fH (oH (K:=K)) rfl T.mQ boot_tuple (aa (pv 3) ag))))))),?_]
 refine #[_,rfl,d,L,4,rfl,by decide,hs,λw1 H1 w0 w4 k1 s1=>?_];refine #[(by show 1<=sizeLine;decide),λp hp=>?_];have g0:=aD hp (.lst [V.non]);have hpd:p≠d:=by
  obtain ⟨ns,a,l,e,_⟩:=s1.ex;exact aS (au e hp)
 have hp0:H p=none:=by
  cases e:H p with
  | none=>rfl
  | some o=>
   have:=k1 p o hpd e;rw[hp]at this;cases this
 refine #[_,rfl,_,rfl,d,L,m,rfl,#[hm0,by lia],s1.same g0,λn H2 n0 n1 k2 s2=>#[_,_,rfl,rfl,1,_,rfl,#[by lia,by lia,by lia,by lia],?_]];have en:((1:Int)+n-1).toNat=n.toNat:=by lia
 rw[en];refine fg (n:=n.toNat) (λi Z H3=>∃(ps:List Nat) (x4:Option V),Z=[some (.ref d),some (.int m),some (.int w1),some (.ref p),x4]/\H3 p=some (.lst (bO ps))/\ps.length=i/\aO ps/\(∀ b o,b≠d->b≠p->H b=some o->H3 b=some o)/\LS K L d H3) ?_ ?_ ?_
 .exact #[[],_,rfl,k2 p _ hpd ak,rfl,λi hi=>absurd hi (by simp),λb o n1 n2 e=>k2 b o n1 (g0 b o (k1 b o n1 e)),s2]
 .rintro i Z H3 hi ⟨ps,x4,rfl,h3,rfl,hT,k3,s3⟩;have ek:(1:Int)+((ps.length:Nat):Int)=((ps.length+1:Nat):Int):=by lia
  rw[ek];refine #[_,rfl,.inl #[rfl,_,SqL.of h3],?_];refine #[_,rfl,_,_,rfl,rfl,_,rfl,_,rfl,d,L,_,rfl,#[by lia,by lia],s3,λv1 H4 v10 v11 k4 s4=>?_];refine #[_,rfl,_,_,rfl,rfl,_,rfl,d,L,2,rfl,by decide,s4,λv2 H5 v20 v21 k5 s5=>#[_,_,rfl,rfl,_,_,rfl,(by show 4<=sizeLine;decide),λl hl=>?_]];have h4:=k4 p _ hpd h3;have h5:=k5 p _ hpd h4;obtain ⟨u,hat,hu⟩:∃ u:Nat,atI [V.int (((ps.length+1:Nat):Int)-1),V.int 0,V.int v1,V.int (if ((ps.length+1:Nat):Int)-1-v2>0 then ((ps.length+1:Nat):Int)-1-v2 else 0)] w1=some (nV u)/\u<=ps.length:=by
   have z:w1=0\/w1=1\/w1=2\/w1=3:=by lia
   rcases z with rfl|rfl|rfl|rfl
   .refine #[ps.length,?_,ai _];rw[show ((ps.length+1:Nat):Int)-1=((ps.length:Nat):Int) by lia];rfl
   .exact #[0,rfl,bK _]
   .obtain ⟨u,rfl⟩:=my v10;exact #[u,rfl,by lia]
   .refine #[(if ((ps.length+1:Nat):Int)-1-v2>0 then ((ps.length+1:Nat):Int)-1-v2 else 0).toNat,?_,?_]
    .show some (V.int _)=some (V.int _);rw[Int.toNat_of_nonneg (by split<;>lia)]
    .split<;>lia
  refine #[_,rfl,_,_,_,_,rfl,rfl,SqL.of ak,hat,_,_,_,rfl,rfl,by rw[aj (au h5 hl)];exact h5,bh (by rw[cK];lia),?_];refine #[ps++[u],_,rfl,?_,by rw[bc,fz],IV hT hu,λb o n1 n2 e=>?_,?_]
  .rw[ak];unfold bO;rw[bq];rfl
  .rw[aj n2];have e5:=k5 b o n1 (k4 b o n1 (k3 b o n1 n2 e));exact (aD hl _) _ _ e5
  .exact LS.put hs hp0 (λb o n1 n2 e=>(aD hl _) _ _ (k5 b o n1 (k4 b o n1 (k3 b o n1 n2 e)))) (s5.of_new hl _)
 .rintro Z H3 ⟨ps,x4,rfl,h3,hl,hT,k3,s3⟩;refine #[_,rfl,p,_,rfl,.inl #[SqL.of h3,λt ht=>?_]];have sn:=aD ht (.tup (bO ps));have htp:t≠p:=aS (au h3 ht);have ht0:H t=none:=by
   cases e:H t with
   | none=>rfl
   | some o=>
    have htd:t≠d:=by
     obtain ⟨ns,a,l,e,_⟩:=s3.ex;exact aS (au e ht)
    have:=k3 t o htd htp e;rw[ht]at this;cases this
  exact q t ps _ ht0 hT (by lia) ak (λb o n e=>sn _ _ (k3 b o n (au e hp0) e)) (s3.of_new ht _)
inductive rq (K:Frag)(vs:List V)(H:Hp)(Q:VK)(w_1:XK):Prop
 | c:∀(t:Addr) (ps:List Nat) (k:Nat),vs=[.ref t,.int k]->H t=some (.tup (bO ps))->ps.length<=900->(∀(p:Addr) (H':Hp),H p=none->Same H H'->H' p=some (.lst ((aY ps k (ps.length+1)).map nV))->Q (.ref p) H')->rq K vs H Q w_1
def IX (T:Txt K mg)(wN:DF K mg "children" oV l7):FC P w K mg base 1 "children" l7 (rq K):=by
 refine wN.ok GU (λvs H Q E h=>?_) (λf cdv A outer s H vs Q E hr h=>?_)
 .obtain ⟨t,ps,k,rfl,_⟩:=h;rfl
 obtain ⟨t,ps,k,rfl,ht,hz,q⟩:=h;refine #[_,(av (aN (d4 (N:=["other","tree","knot"]) (own:=1) (cap:=[0,1]) rfl (ff rfl T.de (aa (aV (bS (K:=K)) rfl T.bQ bJ (aa (pv 0) ag)) ag)) #[rfl,rfl,rfl,rfl,rfl,rfl] (λ_ _ _ _ _=>(aF (i:=0) (show List.Nodup (["other","tree","knot"]:List Str) by decide +kernel) rfl (ar rfl))) (λ_ _ _ _ _=>(ik (bg dF (aH (bN (K:=K)) (pv 1) (pv 0) (λ_ _=>rfl)) (pv 2) (bz _)))) (λ_ _ _ _ _=>(pv 0))))),?_];refine #[_,rfl,_,_,rfl,.inr (SqT.of ht),_,rfl,by lia,by rw[cK];lia,λD hD=>?_];have el:((((bO ps).length:Nat):Int)).toNat=ps.length+1:=by rw[cK,fN]
 rw[el];refine jQ (n:=ps.length+1) (λj Z H3=>∃ x0:Option V,Z=[x0,some (.ref t),some (.int k)]/\H3 D=some (.lst ((aY ps k j).map nV))/\But D H H3) ?_ ?_ ?_
 .exact #[_,rfl,ak,λb o n e=>by rw[aj n];exact e]
 .rintro j m Z H3 hm hj ⟨x0,rfl,h3,k3⟩;rw[fE];have h3t:=k3 _ _ (au ht hD) ht;have hlen:=qY ps k j;refine #[_,rfl,_,rfl,_,_,_,_,rfl,rfl,SqT.of h3t,mH hj,_,rfl,IU _ _ _,_,rfl,?_];refine ite2 (λc=>?_) (λc=>?_)
  .have c':par ps j=some k:=BQ.mp (bM c);refine #[_,rfl,_,h3,bh (by rw[aq];lia),m-1,by lia,by lia,_,rfl,?_,λb o n e=>by rw[aj n];exact k3 b o n e];rw[ak,Bx,ae c',bq];rfl
  .have c':¬ par ps j=some k:=λz=>c (aX (BQ.mpr z));refine #[m-1,by lia,by lia,_,rfl,?_,k3];rw[h3,Bx,af c',bY]
 .rintro Z H3 ⟨x0,rfl,h3,k3⟩;exact q D H3 hD (λb o e=>k3 b o (au e hD) e) h3
inductive mI (K:Frag)(vs:List V)(H:Hp)(Q:VK)(w_1:XK):Prop
 | c:∀(t:Addr) (ps:List Nat) (k:Nat),vs=[.ref t,.int k]->H t=some (.tup (bO ps))->aO ps->k<ps.length+1->ps.length<=900->(∀(p:Addr) (H':Hp),H p=none->Same H H'->H' p=some (.lst ((benL ps k (ps.length+1)).map nV))->Q (.ref p) H')->mI K vs H Q w_1
def IY (T:Txt K mg)(wO:DF K mg "beneath" oW qe):FC P w K mg base 1 "beneath" qe (mI K):=by
 refine wO.ok uJ (λvs H Q E h=>?_) (λf cdv A outer s H vs Q E hr h=>?_)
 .obtain ⟨t,ps,k,rfl,_⟩:=h;rfl
 obtain ⟨t,ps,k,rfl,ht,hT,hk,hz,q⟩:=h;refine #[_,(ay (aC (i:=2) uJ.nd rfl (ar rfl) (eC (aa (pv 1) ag)))
   (ay (bZ PassesOwn.never rfl (jC rfl T.de (aa (aw bF (pv 1) ah) (aa (aV (bS (K:=K)) rfl T.bQ bJ (aa (pv 0) ag)) ag))) (aF (i:=3) uJ.nd rfl (ar rfl)) (av (bR (bg (zR (K:=K)) (aH (bN (K:=K)) (pv 0) (pv 3) (λ_ _=>rfl)) (pv 2) (by with_unfolding_all rfl)) (av (dX (dY F.plainAttrs_list F.slot_list_append F.type_list_append dH (pv 2) (aa (pv 3) ag)))) cv)))
   (av (aN (pv 2))))),?_]
 refine #[_,rfl,(by show 1<=sizeLine;decide),λp hp=>?_];have k0:But p H (upd H p (.lst [.int (k:Int)])):=λb o n e=>by rw[aj n];exact e
 have ntp:t≠p:=au ht hp;refine #[_,rfl,_,_,rfl,rfl,_,rfl,_,_,rfl,.inr (SqT.of (k0 _ _ ntp ht)),_,_,rfl,#[by lia,by lia,by lia,by rw[cK];lia],?_];have en:((((bO ps).length:Nat):Int)-((k:Int)+1)).toNat=ps.length-k:=by rw[cK];lia
 rw[en];refine fg (n:=ps.length-k) (λi Z H3=>∃ x3:Option V,Z=[some (.ref t),some (.int k),some (.ref p),x3]/\H3 p=some (.lst ((benL ps k (k+1+i)).map nV))/\But p H H3) ?_ ?_ ?_
 .refine #[_,rfl,?_,k0];rw[ak,fc,Bv hT];rfl
 .rintro i Z H3 hi ⟨x3,rfl,h3,k3⟩;have ek:(k:Int)+1+(i:Int)=((k+1+i:Nat):Int):=by lia
  rw[ek];have hj:k+1+i<ps.length+1:=by lia
  have hj1:1<=k+1+i:=by lia
  have hjk:k+1+i≠k:=by lia
  have ei:k+1+(i+1)=k+1+i+1:=by lia
  rw[ei];generalize k+1+i=j at h3 hj hj1 hjk ⊢;obtain ⟨u,hu⟩:=qW hj1 hj;have h3t:=k3 _ _ ntp ht;have hat:=mH hj;rw[kh hu]at hat;have hlen:=mn ps k j;refine #[_,rfl,_,rfl,_,_,_,_,rfl,rfl,SqT.of h3t,hat,_,rfl,_,_,rfl,.inl (SqL.of h3),rfl,rf _,_,rfl,?_];show if inV (.int (u:Int)) ((benL ps k j).map nV)=true then _ else _
  rw[rg];have hB:isB ps k j=isB ps k u:=eR hT hjk hu;have hult:=(bw hT hu).1;refine ite2 (λc=>?_) (λc=>?_)
  .have c':isB ps k u=true:=(fo.mp (bM c)).2;refine #[_,rfl,.inl #[rfl,_,SqL.of h3],_,rfl,_,_,_,rfl,rfl,h3,bh (by rw[aq];lia),?_];refine #[_,rfl,?_,λb o n e=>by rw[aj n];exact k3 b o n e];rw[ak,mj,hB,ae c',bq];rfl
  .have c':¬ isB ps k u=true:=λz=>c (aX (fo.mpr #[hult,z]));refine #[_,rfl,?_,k3];rw[h3,mj,hB,af c',bY]
 .rintro Z H3 ⟨x3,rfl,h3,k3⟩;refine #[_,rfl,?_];rw[show k+1+(ps.length-k)=ps.length+1 by lia]at h3;exact q p H3 hp (λb o e=>k3 b o (au e hp) e) h3
def cf (es:List (Int×Int)):List (Int×Int):=cG es (cx es)
def bU (LA:List (List Int))(k:Nat):List Int:=LA.getD k []
def ownE (LA:List (List Int))(k:Nat):List (Int×Int):=(bU LA k).map λx=>(x,(k:Int))
def kj (ps:List Nat)(LA:List (List Int)):Nat->Nat->List (Int×Int)
 | 0,_=>[]
 | f+1,k=>dJ (((aY ps k (ps.length+1)).map λc=>cf (kj ps LA f c)).flatten++ownE LA k)
def BR (T:aO ps):∀ f g k,k<ps.length+1->ps.length+1-k<=f->ps.length+1-k<=g->kj ps LA f k=kj ps LA g k
 | 0,_,k,hk,h,_=>by lia
 | _,0,k,hk,_,h=>by lia
 | f+1,g+1,k,hk,hf,hg=>by
  unfold kj;congr 3;refine sU λc hc=>?_;have h:=cO.mp hc;have:=bw T h.2;show cf _=cf _;rw[BR T f g c h.1 (by lia) (by lia)]
def ab (ps:List Nat)(LA:List (List Int))(k:Nat):List (Int×Int):=kj ps LA (ps.length+1-k) k
def gr (ps:List Nat)(LA:List (List Int))(k:Nat):List (List (Int×Int)):=((aY ps k (ps.length+1)).map λc=>cf (ab ps LA c))++[ownE LA k]
def iz (T:aO ps){k:Nat}(hk:k<ps.length+1):ab ps LA k=dJ (gr ps LA k).flatten:=by
 unfold ab gr;obtain ⟨f,hf⟩:∃ f,ps.length+1-k=f+1:=#[ps.length-k,by lia];rw[hf,kj,nJ,List.flatten_singleton];congr 3;refine sU λc hc=>?_;have h:=cO.mp hc;have:=bw T h.2;show cf _=cf _;rw[BR T f (ps.length+1-c) c h.1 (by lia) (by lia)];rfl
structure bP (LA:List (List Int)):Prop where
 up:∀ row∈LA,row.Pairwise (· < ·)
 key:∀ row∈LA,∀ x∈row,-(10^60)<x/\x<10^60
def bP.at_up (R:bP LA)(k:Nat):(bU LA k).Pairwise (· < ·):=by
 unfold bU;rw[aE];cases e:LA[k]? with
 | none=>exact .nil
 | some row=>exact R.up row (cy e)
def bP.at_key (R:bP LA)(k:Nat):∀ x∈bU LA k,-(10^60)<x/\x<10^60:=by
 unfold bU;rw[aE];cases e:LA[k]? with
 | none=>exact λx hx=>nomatch hx
 | some row=>exact R.key row (cy e)
def BS {α:Type}:∀(es:List α) (ms:List Bool),(cG es ms).Sublist es
 | [],_=>by
  unfold cG;exact List.Sublist.refl _
 | e::es,[]=>by
  unfold cG;exact List.nil_sublist _
 | e::es,m::ms=>by
  have ih:=BS es ms;unfold cG at ih ⊢;cases m with
  | false=>exact List.Sublist.cons e ih
  | true=>exact List.Sublist.cons₂ e ih
def eU (es:List (Int×Int)):(cf es).Sublist es:=BS _ _
def Of (ps:List Nat)(LA:List (List Int))(k:Nat)(e:Int×Int):Prop:=∃ j,j<ps.length+1/\isB ps k j=true/\e.2=(j:Int)/\e.1∈bU LA j
def mJ {ps:List Nat}{k:Nat}(hk:k<ps.length+1){e:Int×Int}(h:e∈ownE LA k):Of ps LA k e/\e.2=(k:Int):=by
 obtain ⟨x,hx,rfl⟩:=bA.mp h;exact #[#[k,hk,ix,rfl,hx],rfl]
def BU (R:bP LA)(k:Nat):(ownE LA k).Nodup:=by
 unfold ownE;rw[List.nodup_iff_pairwise_ne,iM];exact List.Pairwise.imp (λ{a b} (h:a < b) z=>by
  have:=congrArg Prod.fst z;have:a=b:=this;lia) (R.at_up k)
def rA (T:aO ps)(R:bP LA):∀(m k:Nat),ps.length+1-k<=m->k<ps.length+1->(∀ e∈ab ps LA k,Of ps LA k e)/\(gr ps LA k).flatten.Nodup
 | 0,k,hm,hk=>by lia
 | m+1,k,hm,hk=>by
  have ih:∀ c,par ps c=some k->(∀ e∈ab ps LA c,Of ps LA c e)/\(ab ps LA c).Nodup:=λc hc=>by
   have:=bw T hc;have q:=rA T R m c (by lia) this.2;refine #[q.1,?_];rw[iz T this.2];exact (jP _).nodup_iff.mpr q.2
  have up:∀{c:Nat} {e:Int×Int},par ps c=some k->Of ps LA c e->Of ps LA k e:=λ{c e} hc h=>by
   obtain ⟨j,h1,h2,h3,h4⟩:=h;exact #[j,h1,(qZ T j j (ai _) h1).mpr (.inr #[c,hc,h2]),h3,h4]
  refine #[λe he=>?_,?_]
  .rw[iz T hk,oA]at he;obtain ⟨l,hl,he⟩:=nG.mp he;rcases bp.mp hl with q|q
   .obtain ⟨c,hc,rfl⟩:=bA.mp q;have hp:=(cO.mp hc).2;exact up hp ((ih c hp).1 e ((eU _).mem he))
   .rw[aQ.mp q]at he;exact (mJ hk he).1
  .show List.Pairwise _ _;unfold gr;rw[List.pairwise_flatten];refine #[λl hl=>?_,?_]
   .rcases bp.mp hl with q|q
    .obtain ⟨c,hc,rfl⟩:=bA.mp q;exact (ih c (cO.mp hc).2).2.sublist (eU _)
    .rw[aQ.mp q];exact BU R k
   .rw[c4];refine #[?_,List.pairwise_singleton _ _,?_]
    .rw[iM];refine List.Pairwise.imp_of_mem (λ{c d} hc hd hcd=>?_) (By ps k _);intro x hx y hy z;subst z;have pc:=(cO.mp hc).2;have pd:=(cO.mp hd).2;obtain ⟨j,_,h2,h3,_⟩:=(ih c pc).1 x ((eU _).mem hx);obtain ⟨i,_,g2,g3,_⟩:=(ih d pd).1 x ((eU _).mem hy);have:j=i:=by lia
     subst this;exact mq T pc pd (bo hcd) j j (ai _) h2 g2
    .intro l hl l' hl' x hx y hy z;subst z;obtain ⟨c,hc,rfl⟩:=bA.mp hl;rw[aQ.mp hl']at hy;have pc:=(cO.mp hc).2;obtain ⟨j,_,h2,h3,_⟩:=(ih c pc).1 x ((eU _).mem hx);have h4:=(mJ hk hy).2;have:j=k:=by lia
     subst this;rw[fm T (bw T pc).1]at h2;cases h2
def kl (T:aO ps)(R:bP LA){k:Nat}(hk:k<ps.length+1):∀ e∈ab ps LA k,Of ps LA k e:=(rA T R _ k (ai _) hk).1
def vq (T:aO ps)(R:bP LA){k:Nat}(hk:k<ps.length+1):(ab ps LA k).Nodup:=by
 rw[iz T hk];exact (jP _).nodup_iff.mpr (rA T R _ k (ai _) hk).2
def fq (T:aO ps)(R:bP LA){k:Nat}(hk:k<ps.length+1):Rise (ab ps LA k):=by
 rw[iz T hk];exact ue (rA T R _ k (ai _) hk).2
def rB (T:aO ps)(R:bP LA)(hz:ps.length<=40){k:Nat}(hk:k<ps.length+1):∀ e∈ab ps LA k,eF 64 e:=λe he=>by
 obtain ⟨j,h1,h2,h3,h4⟩:=kl T R hk e he;have:=R.at_key j _ h4;exact #[this.1,this.2,by lia,by lia]
def wtR (ps:List Nat)(LA:List (List Int))(k:Nat):Nat:=((benL ps k (ps.length+1)).map λj=>(bU LA j).length).sum
def IZ {l m:List Nat}(h:l.Perm m):l.sum=m.sum:=by
 induction h with
 | nil=>rfl
 | cons x _ ih=>rw[dD,dD,ih]
 | swap x y l=>rw[dD,dD,dD,dD];lia
 | trans _ _ h1 h2=>rw[h1,h2]
def BV (f:Nat->Nat):∀(ls:List (List Nat)),(ls.flatten.map f).sum=(ls.map λl=>(l.map f).sum).sum
 | []=>rfl
 | l::ls=>by
  rw[List.flatten_cons,bq,List.sum_append,BV f ls,bI,dD]
def BW (T:aO ps)(f:Nat->Nat){k:Nat}(hk:k<ps.length+1):((benL ps k (ps.length+1)).map f).sum=f k+((aY ps k (ps.length+1)).map λc=>((benL ps c (ps.length+1)).map f).sum).sum:=by
 have h:=IZ ((HR T hk).map f);rw[bI,dD,BV,iL]at h;exact h.symm
def BX {f g:Nat->Nat}:∀{l:List Nat},(∀ x∈l,f x<=g x)->(l.map f).sum<=(l.map g).sum
 | [],_=>ai _
 | x::l,h=>by
  rw[bI,dD,bI,dD];have h1:=h x bx;have h2:=BX (f:=f) (g:=g) (l:=l) λy hy=>h y (bG _ hy);lia
def BY {α:Type}:∀(ls:List (List α)),ls.flatten.length=(ls.map List.length).sum
 | []=>rfl
 | l::ls=>by
  rw[List.flatten_cons,bc,BY ls,bI,dD]
def I0 (T:aO ps){k:Nat}(hk:k<ps.length+1):(ab ps LA k).length=(bU LA k).length+((aY ps k (ps.length+1)).map λc=>(cf (ab ps LA c)).length).sum:=by
 rw[iz T hk,oB];unfold gr;rw[nJ,bc,List.flatten_singleton,BY,iL];unfold ownE;rw[aq,gW];rfl
def BZ (T:aO ps):∀(m k:Nat),ps.length+1-k<=m->k<ps.length+1->(ab ps LA k).length<=wtR ps LA k
 | 0,k,hm,hk=>by lia
 | m+1,k,hm,hk=>by
  unfold wtR;rw[I0 T hk,BW T _ hk];refine cz (BX λc hc=>?_) _;have h:=cO.mp hc;have:=bw T h.2;exact ax (eU _).length_le (BZ T m c (by lia) h.1)
def B1 (f:Nat->Nat)(P:Nat->Bool):∀(l:List Nat),((l.filter P).map f).sum<=(l.map f).sum
 | []=>ai _
 | x::l=>by
  have ih:=B1 f P l;rw[bI,dD];by_cases h:P x=true
  .rw[dr h,bI,dD];lia
  .rw[eB h];lia
def cL (LA:List (List Int)):Nat:=(LA.map List.length).sum
def Ja (LA:List (List Int)):((List.range LA.length).map λj=>(bU LA j).length).sum=cL LA:=by
 unfold cL;congr 1;apply f6;intro i;rw[bf,bf];by_cases h:i<LA.length
 .rw[gC h,az h];show some (bU LA i).length=some LA[i].length;unfold bU;rw[aE,az h];rfl
 .rw[er (by rw[cq];lia),er (by lia)];rfl
def B2 {ps:List Nat}{LA:List (List Int)}(hl:LA.length=ps.length+1)(k:Nat):wtR ps LA k<=cL LA:=by
 unfold wtR benL;refine ax (B1 _ _ _) ?_;rw[<-hl,Ja];exact ai _
def jc (T:aO ps){LA:List (List Int)}(hl:LA.length=ps.length+1){k:Nat}(hk:k<ps.length+1):(ab ps LA k).length<=cL LA:=ax (BZ T _ k (ai _) hk) (B2 hl k)
def bV (H:Hp)(as:List Addr)(LA:List (List Int)):Prop:=Paired (λa row=>H a=some (.tup (row.map V.int))) as LA
def bV.ext {H H':Hp}(e:∀ b o,H b=some o->H' b=some o)(h:bV H as LA):bV H' as LA:=pImp (λ_ _=>e _ _) h
def bV.keep {d p:Addr}{H H':Hp}(hd:∀ a row,H a=some (.tup row)->a≠d)(e:∀ b o,b≠d->H b=some o->H' b=some o)(h:bV H as LA):bV H' as LA:=pImp (λ_ _ h=>e _ _ (hd _ _ h) h) h
def bV.length (h:bV H as LA):as.length=LA.length:=Paired.length h
def bV.get :∀{as:List Addr} {LA:List (List Int)} {k:Nat},bV H as LA->k<LA.length->∃ a,as[k]?=some a/\H a=some (.tup ((bU LA k).map V.int))
 | _,_,_,.nil,hk=>by simp at hk
 | a::as,row::LA,0,.cons h t,_=>#[a,rfl,h]
 | a::as,row::LA,k+1,.cons h t,hk=>by
  obtain ⟨b,h1,h2⟩:=bV.get (k:=k) t (by simpa using hk);refine #[b,by rw[kR];exact h1,?_];have:bU (row::LA) (k+1)=bU LA k:=by
   unfold bU;rw[aE,aE,kR]
  rw[this];exact h2
def bV.snoc {a:Addr}{row:List Int}(h:bV H as LA)(g:H a=some (.tup (row.map V.int))):bV H (as++[a]) (LA++[row]):=pApp h (.cons g .nil)
structure eV (H:Hp)(st:Addr)(ps:List Nat)(LA:List (List Int))(t rs:Addr)(as:List Addr):Prop where
 st:H st=some (.tup [.ref t,.ref rs])
 tr:H t=some (.tup (bO ps))
 rs:H rs=some (.tup (as.map V.ref))
 at_:bV H as LA
 len:LA.length=ps.length+1
 T:aO ps
 R:bP LA
 few:ps.length<=40
 keys:cL LA<=400
def eV.same {st t rs:Addr}(S:eV H st ps LA t rs as)(e:Same H H'):eV H' st ps LA t rs as:=
 #[e _ _ S.st,e _ _ S.tr,e _ _ S.rs,S.at_.ext e,S.len,S.T,S.R,S.few,S.keys]
def eW {as:List Addr}{k:Nat}{a:Addr}(h:as[k]?=some a):atI (as.map V.ref) (k:Int)=some (.ref a):=dG (by rw[bf,h];rfl)
def B3 {α:Type}{l:List α}(h:l.Nodup):l.reverse.Nodup:=(List.reverse_perm l).nodup_iff.mpr h
def jd (K:Frag)(H:Hp)(ps:List Nat)(LA:List (List Int))(j:Nat)(q:Addr):Prop:=∃ ws,H q=some (.lst ws)/\aB K H (ab ps LA j) ws
def bt (K:Frag)(H:Hp)(ps:List Nat)(LA:List (List Int)):List Nat->List Addr->Prop:=Paired (jd K H ps LA)
def jd.same {K:Frag}(h:jd K H ps LA j q)(e:Same H H'):jd K H' ps LA j q:=by
 obtain ⟨ws,h1,h2⟩:=h;exact #[ws,e _ _ h1,h2.mono e.ext]
def bt.same {K:Frag}(e:Same H H'){js:List Nat}{qs:List Addr}(h:bt K H ps LA js qs):bt K H' ps LA js qs:=pImp (λ_ _ h=>jd.same h e) h
def bt.ext {K:Frag}(e:Ext H H'){js:List Nat}{qs:List Addr}(h:bt K H ps LA js qs):bt K H' ps LA js qs:=pImp (λ_ _ h=>by
  obtain ⟨ws,a1,a2⟩:=h;exact #[ws,e _ _ a1 nofun,a2.mono e]) h
def bt.length {K:Frag}{js:List Nat}{qs:List Addr}(h:bt K H ps LA js qs):js.length=qs.length:=Paired.length h
def bt.snoc {K:Frag}{js:List Nat}{qs:List Addr}(h:bt K H ps LA js qs)(g:jd K H ps LA j q):bt K H ps LA (js++[j]) (qs++[q]):=pApp h (.cons g .nil)
def bt.get {K:Frag}:∀{js:List Nat} {qs:List Addr} {i j:Nat},bt K H ps LA js qs->js[i]?=some j->∃ q,qs[i]?=some q/\jd K H ps LA j q
 | _,_,i,j,.nil,h=>by simp at h
 | _::_,q::_,0,j,.cons h t,e=>by
  have:=aJ (show some _=some j from e);subst this;exact #[q,rfl,h]
 | _::_,_::_,i+1,j,.cons h t,e=>by
  obtain ⟨q,h1,h2⟩:=bt.get (i:=i) t (by simpa using e);exact #[q,by simpa using h1,h2]
def bt.rev {K:Frag}{js:List Nat}{qs:List Addr}(h:bt K H ps LA js qs):bt K H ps LA js.reverse qs.reverse:=by
 unfold bt at h
 induction h with
 | nil=>exact .nil
 | cons h _ ih=>
  rw[nE,nE];exact bt.snoc ih h
def bt.alloc {K:Frag}:∀{js:List Nat} {qs:List Addr},bt K H ps LA js qs->∀ q∈qs,∃ ws,H q=some (.lst ws)
 | _,_,.nil=>λq hq=>nomatch hq
 | _::_,_::_,.cons h t=>λq hq=>by
  rcases aW.mp hq with e|e
  .obtain ⟨ws,h1,_⟩:=h;exact #[ws,e ▸ h1]
  .exact bt.alloc t q e
abbrev kN (j:Nat):Key:=Sum.inl (j:Int)
def dN:List Nat->List Addr->List (Key×V)
 | j::js,q::qs=>(kN j,.ref q)::dN js qs
 | _,_=>[]
def B5 :∀{js:List Nat} {qs:List Addr},j∉js->valV (dN js qs) (kN j)=none
 | [],_,_=>rfl
 | _::_,[],_=>rfl
 | i::js,q::qs,h=>by
  have h1:¬ kN i=kN j:=λz=>h (by
   have:=Int.ofNat.inj (Sum.inl.inj z);rw[this];exact bx)
  show valV ((kN i,V.ref q)::dN js qs) (kN j)=none;rw[c8 h1];exact B5 λz=>h (bG _ z)
def vt {q:Addr}:∀{js:List Nat} {qs:List Addr} {i:Nat},js.Nodup->js[i]?=some j->qs[i]?=some q->valV (dN js qs) (kN j)=some (.ref q)
 | [],_,_,_,h,_=>by simp at h
 | _::_,[],_,_,_,h=>by simp at h
 | a::js,b::qs,0,_,h1,h2=>by
  have:=aJ (show some a=some j from h1);subst this;have:=aJ (show some b=some q from h2);subst this;exact dZ (p:=(kN a,V.ref b)) rfl
 | a::js,b::qs,i+1,hn,h1,h2=>by
  have g1:js[i]?=some j:=by simpa using h1
  have hne:¬ kN a=kN j:=λz=>by
   have e:=Int.ofNat.inj (Sum.inl.inj z);exact (dz.mp hn).1 (e ▸ cy g1)
  show valV ((kN a,V.ref b)::dN js qs) (kN j)=_;rw[c8 hne];exact vt (dz.mp hn).2 g1 (by simpa using h2)
def B6 {q:Addr}:∀{js:List Nat} {qs:List Addr},js.length=qs.length->dN (js++[j]) (qs++[q])=dN js qs++[(kN j,.ref q)]
 | [],[],_=>rfl
 | [],_::_,h=>by cases h
 | _::_,[],h=>by cases h
 | a::js,b::qs,h=>by
  show (kN a,V.ref b)::dN (js++[j]) (qs++[q])=(kN a,V.ref b)::(dN js qs++[(kN j,V.ref q)]);rw[B6 (Nat.succ.inj h)]
def Jb {j:Nat}{q:Addr}{js:List Nat}{qs:List Addr}(hl:js.length=qs.length)(h:j∉js):putK (dN js qs) (kN j) (.ref q)=dN (js++[j]) (qs++[q]):=by
 rw[iS _ (B5 h),B6 hl]
def B7:∀{js:List Nat} {qs:List Addr},js.length=qs.length->(dN js qs).length=js.length
 | [],[],_=>rfl
 | [],_::_,h=>by cases h
 | _::_,[],h=>by cases h
 | a::js,b::qs,h=>by
  show (dN js qs).length+1=js.length+1;rw[B7 (Nat.succ.inj h)]
def Jc {l:List Nat}(h:l.Pairwise (· > ·)){i j c:Nat}(hj:l[i]?=some j)(hc:c∈l)(hcj:j<c):c∈l.take i:=by
 obtain ⟨u,hu,rfl⟩:=dC hc;obtain ⟨hi,rfl⟩:=aM.mp hj;have:u<i:=by
  refine e8 λz=>?_;by_cases e:i=u
  .subst e;lia
  .have:=cT.mp h i u hi hu (by lia);lia
 rw[List.mem_iff_getElem?];exact #[u,by rw[jv,ae this,az hu]]
def Jd (T:aO ps){k c:Nat}(h:isB ps k j=true)(hc:par ps c=some j):isB ps k c=true:=by
 by_cases e:c=k
 .rw[e];exact ix
 .rw[eR T e hc];exact h
inductive vw (K:Frag)(vs:List V)(H:Hp)(Q:VK)(w_1:XK):Prop
 | c:∀(st:Addr) (ps:List Nat) (LA:List (List Int)) (t rs:Addr) (as:List Addr) (j:Nat),vs=[.ref st,.int j]->eV H st ps LA t rs as->j<ps.length+1->(∀(D:Addr) (us:List V) (H':Hp),H D=none->Same H H'->H' D=some (.lst us)->aB K H' (ownE LA j) us->Q (.ref D) H')->vw K vs H Q w_1
def Je (T:Txt K mg)(wQ:DF K mg "own_entries" oX qf):FC P w K mg base 1 "own_entries" qf (vw K):=by
 refine wQ.ok GV (λvs H Q E h=>?_) (λf cdv A outer s H vs Q E hr h=>?_)
 .obtain ⟨st,ps,LA,t,rs,as,k,rfl,_⟩:=h;rfl
 obtain ⟨st,ps,LA,t,rs,as,j,rfl,S4,hjn,q⟩:=h;refine #[_,(av (aN (d4 (N:=["key","knot"]) (own:=1) (cap:=[1]) rfl (gH (aH (bN (K:=K)) (aH (bN (K:=K)) (pv 0) ah (λ_ _=>rfl)) (pv 1) (λ_ _=>rfl))) #[rfl,rfl,rfl,rfl,rfl,rfl] (λ_ _ _ _ _=>(aF (i:=0) (show List.Nodup (["key","knot"]:List Str) by decide +kernel) rfl (ar rfl))) (λ_ _ _ _ _=>dI) (λ_ _ _ _ _=>(cC (aa (pv 0) (aa (pv 1) ag))))))),?_];obtain ⟨a,ha1,ha4⟩:=S4.at_.get (k:=j) (by rw[S4.len];exact hjn);have hkeys:=S4.keys;refine #[_,rfl,_,_,_,_,rfl,rfl,SqT.of S4.st,rfl,_,rfl,_,_,_,_,rfl,rfl,SqT.of S4.rs,eW ha1,a,rfl,#[_,SqT.of ha4],λD3 hD3=>?_];refine lT (xs:=(bU LA j).map V.int) (λm Z H5=>∃(us:List V) (x0:Option V),Z=[x0,some (.int j)]/\H5 D3=some (.lst us)/\aB K H5 ((ownE LA j).take m) us/\But D3 H H5) ?_ ?_ ?_ ?_
 .exact #[[],_,rfl,ak,.nil,λb o n e=>by rw[aj n];exact e]
 .rintro m Z H5 _ ⟨us,x0,rfl,_,_,k5⟩;exact SqT.of (k5 _ _ (au ha4 hD3) ha4)
 .rintro m r x Z H5 hx hm ⟨us,x0,rfl,h5,hw5,k5⟩;rw[bf]at hx;obtain ⟨y,hy,rfl⟩:=eZ.mp hx;have hlow:=(aM.mp hy).1;have htk3:(ownE LA j).take (m+1)=(ownE LA j).take m++[(y,(j:Int))]:=by
   unfold ownE;rw[<-g9,<-g9,cF hlow,bq];rw[(aM.mp hy).2];rfl
  have hul:=hw5.length;rw[aT]at hul;rw[aq]at hm;have hrl:(bU LA j).length<=cL LA:=by
   have:=B2 S4.len (k:=j) (ps:=ps);have e2:wtR ps LA j=(bU LA j).length+_:=BW S4.T _ hjn;lia
  refine fV ?_;refine #[_,rfl,_,rfl,(by show 2<=sizeLine;decide),λu hu=>?_];have su:=aD hu (.tup [.int y,.int (j:Int)]);have h6:=su _ _ h5;have hut:upd H5 u (.tup [.int y,.int (j:Int)]) u=some (.tup [.int y,.int (j:Int)]):=ak;have k6:=k5.new' hu (.tup [.int y,.int (j:Int)]);have hw6:=hw5.mono su.ext;generalize upd H5 u (.tup [.int y,.int (j:Int)])=H6 at su h6 hut k6 hw6 ⊢;refine #[_,h6,bh (by lia),r-1,by lia,by rw[aq];lia,us++[.ref u],_,rfl,ak,?_,λb o n e=>by rw[aj n];exact k6 b o n e];rw[htk3];exact (d7 h6 hw6).append (d7 h6 (.cons #[u,.int y,.int (j:Int),rfl,hut,rfl,rfl] .nil))
 .rintro Z H5 ⟨us,x0,rfl,h5,hw5,k5⟩;rw[aq,bu (by unfold ownE;rw[aq];exact ai _)]at hw5;exact q D3 us H5 hD3 (λx o e=>k5 x o (au e hD3) e) h5 hw5
inductive vx (K:Frag)(vs:List V)(H:Hp)(Q:VK)(w_1:XK):Prop
 | c:∀(st:Addr) (ps:List Nat) (LA:List (List Int)) (t rs:Addr) (as:List Addr) (k:Nat),vs=[.ref st,.int k]->eV H st ps LA t rs as->k<ps.length+1->(∀(D:Addr) (qs:List Addr) (H':Hp),H D=none->Same H H'->H' D=some (.dK (dN (benL ps k (ps.length+1)).reverse qs))->qs.Nodup->(∀ q∈qs,H q=none)->bt K H' ps LA (benL ps k (ps.length+1)).reverse qs->Q (.ref D) H')->vx K vs H Q w_1
def Jf (T:Txt K mg)(wR:DF K mg "full_rows_beneath" oY qg)(KF:FC P w K mg base 1 "beneath" qe (mI K))(wU:FC P w K mg base 1 "children" l7 (rq K))(KG:FC P w K mg base 6 "handed" qd (vj K))(KH:FC P w K mg base 1 "own_entries" qf (vw K))(KI:FC P w K mg base 1 "joined_up" pY (vo K)):FC P w K mg base 7 "full_rows_beneath" qg (vx K):=by
 refine wR.ok lZ (λvs H Q E h=>?_) (λf cdv A outer s H vs Q E hr h=>?_)
 .obtain ⟨st,ps,LA,t,rs,as,k,rfl,_⟩:=h;rfl
 obtain ⟨st,ps,LA,t,rs,as,k,rfl,S,hk,q⟩:=h;refine #[_,(ay (aC (i:=2) lZ.nd rfl (ar rfl) (aH (bN (K:=K)) (pv 0) ah (λ_ _=>rfl)))
   (ay (aC (i:=3) lZ.nd rfl (dg rfl) yQ)
   (ay (bZ PassesOwn.never rfl (Ft rfl T.Kp (aa (aG KF hr (aa (pv 2) (aa (pv 1) ag))) ag)) (aF (i:=4) lZ.nd rfl (ar rfl)) (ay (il (i:=5) (N:=["child","told"]) (own:=1) (cap:=[3]) lZ.nd rfl rfl rfl (du (aG wU hr (aa (pv 2) (aa (pv 4) ag)))) #[rfl,rfl,rfl,rfl,rfl,rfl] (λ_ _ _ _ _=>(aF (i:=0) (show List.Nodup (["child","told"]:List Str) by decide +kernel) rfl (ar rfl))) (λ_ _ _ _ _=>dI) (λ_ _ _ _ _=>(aG KG hr (aa (gb (c9 hr) (pv 1) (pv 0) (λ_ _=>rfl)) ag))))
   (ay (dX (dY F.plainAttrs_list F.slot_list_append F.type_list_append dH (pv 5) (aa (aG KH hr (aa (pv 0) (aa (pv 4) ag))) ag)))
   (av (iV (c9 hr) (pv 3) (pv 4) (aG KI hr (aa (pv 5) ag)) rfl)))))
   (av (aN (pv 3)))))),?_]
 refine #[_,rfl,_,_,_,_,rfl,rfl,SqT.of S.st,rfl,λD hD=>?_];have s0:=aD hD (.dK []);have hD0:upd H D (.dK []) D=some (.dK []):=ak;generalize upd H D (.dK [])=H0 at s0 hD0 ⊢;refine #[_,rfl,_,rfl,t,ps,k,rfl,s0 _ _ S.tr,S.T,hk,by have:=S.few;lia,λb H1 hb s1 h1=>?_];refine #[b,_,rfl,SqL.of h1,?_];have hup:=vc ps k (ps.length+1);have hmem:=λj=>fo (ps:=ps) (k:=k) (n:=ps.length+1) (j:=j);have hbl:=mn ps k (ps.length+1);generalize benL ps k (ps.length+1)=bs at h1 q hup hmem hbl ⊢;have hdn:bs.reverse.Pairwise (· > ·):=by
  rw[List.pairwise_reverse];exact hup
 have hnd:bs.reverse.Nodup:=List.Pairwise.imp (λ{a b} (q:a>b)=>iD q) hdn;refine Fu (xs:=bs.map nV) (λi Z H2=>∃(qs:List Addr) (x5 x6:Option V),Z=[some (.ref st),some (.int k),some (.ref t),some (.ref D),x5,x6]/\H2 D=some (.dK (dN (bs.reverse.take i) qs))/\qs.Nodup/\(∀ q∈qs,H q=none)/\bt K H2 ps LA (bs.reverse.take i) qs/\H2 b=some (.lst (bs.map nV))/\But D H H2) ?_ ?_ ?_ ?_
 .exact #[[],_,_,rfl,s1 _ _ hD0,gy,(λq hq=>nomatch hq),.nil,h1,λx o _ e=>s1 _ _ (s0 _ _ e)]
 .rintro i Z H2 _ ⟨qs,x5,x6,rfl,_,_,_,_,h2b,_⟩;exact SqL.of h2b
 .rintro i x Z H2 hx ⟨qs,x5,x6,rfl,h2,hqn,hqf,hF,h2b,k2⟩;rw[<-List.map_reverse]at hx;obtain ⟨hi,hxe⟩:=mz hx;have hji:bs.reverse[i]?=some (bs.reverse.getD i 0):=by
   rw[aE,az hi];rfl
  subst hxe;have htk:bs.reverse.take (i+1)=bs.reverse.take i++[bs.reverse.getD i 0]:=by
   rw[cF hi,aE,az hi];rfl
  rw[htk];generalize bs.reverse.getD i 0=j at hji htk ⊢;have hjm:j∈bs:=kW.mp (cy hji);obtain ⟨hjn,hjB⟩:=(hmem j).mp hjm;have hjnot:j∉bs.reverse.take i:=λz=>by
   have hnd':=hnd;rw[<-fb (i+1) bs.reverse,htk]at hnd';have:=(fP.mp hnd').1;exact (fP.mp this).2.2 j z j (aQ.mpr rfl) rfl
  have noD:∀{p:Addr} {o:HO},H p=some o->p≠D:=λ{p o} e=>au e hD;have S2:eV H2 st ps LA t rs as:=#[k2 _ _ (noD S.st) S.st,k2 _ _ (noD S.tr) S.tr,k2 _ _ (noD S.rs) S.rs,bV.keep (p:=D) (d:=D) (λa row e=>noD e) k2 S.at_,S.len,S.T,S.R,S.few,S.keys];have hkeys:=S.keys;have hfew:=S.few;refine #[_,rfl,_,rfl,t,ps,j,rfl,S2.tr,by lia,λc H3 hc s3 h3=>?_];refine #[c,rfl,#[_,SqL.of h3],λD2 hD2=>?_];have hcmem:=λm=>cO (ps:=ps) (k:=j) (n:=ps.length+1) (j:=m);have hcl:=qY ps j (ps.length+1);have hparts:gr ps LA j=((aY ps j (ps.length+1)).map λc=>cf (ab ps LA c))++[ownE LA j]:=rfl;generalize aY ps j (ps.length+1)=cs at h3 hcmem hcl hparts ⊢;have h3D:=s3 _ _ h2;have nDD2:D≠D2:=au h3D hD2;have F3:bt K H3 ps LA (bs.reverse.take i) qs:=hF.same s3;refine fI (xs:=cs.map nV) (λm Z H4=>∃(gs:List Addr) (x0:Option V),Z=[x0,some (.ref D)]/\H4 D2=some (.lst (gs.map V.ref))/\Own K H4 gs ((cs.take m).map λc=>cf (ab ps LA c))/\D2∉gs/\But D2 H3 H4) ?_ ?_ ?_ ?_
  .exact #[[],_,rfl,ak,.nil,nofun,λb o n e=>by rw[aj n];exact e]
  .rintro m Z H4 _ ⟨gs,x0,rfl,_,_,_,k4⟩;exact k4.sq (SqL.of h3) hD2
  .rintro m r x Z H4 hx hm ⟨gs,x0,rfl,h4,hO,hg,k4⟩;obtain ⟨hmi,rfl⟩:=mz hx;have hcm:cs[m]?=some (cs.getD m 0):=by
    rw[aE,az hmi];rfl
   have htk2:cs.take (m+1)=cs.take m++[cs.getD m 0]:=by
    rw[cF hmi,aE,az hmi];rfl
   rw[htk2];generalize cs.getD m 0=ch at hcm ⊢;obtain ⟨hchn,hchp⟩:=(hcmem ch).mp (cy hcm);have hlt:=(bw S.T hchp).1;have hin:ch∈bs.reverse.take i:=Jc hdn hji (kW.mpr ((hmem ch).mpr #[hchn,Jd S.T hjB hchp])) hlt;obtain ⟨u,hu,hue⟩:=dC hin;have hu2:(bs.reverse.take i)[u]?=some ch:=by rw[az hu,hue]
   obtain ⟨qq,hq1,ws,hq2,hq3⟩:=F3.get hu2;have hnd2:(bs.reverse.take i).Nodup:=hnd.sublist (List.take_sublist _ _);have hv:=vt hnd2 hu2 hq1;have k4D:=k4 _ _ nDD2 h3D;have hq4:=k4 _ _ (au hq2 hD2) hq2;have hq5:aB K H4 (ab ps LA ch) ws:=by
    have key:∀{es:List (Int×Int)} {vs:List V},aB K H3 es vs->aB K H4 es vs:=by
     intro es vs hh
     induction hh with
     | nil=>exact .nil
     | cons a _ ih=>
      obtain ⟨b,x1,x2,rfl,q,e1,e2⟩:=(show hasP K H3 _ _ from a);exact .cons #[b,x1,x2,rfl,k4 _ _ (au q hD2) q,e1,e2] ih
    exact key hq3
   have hlen:=jc S.T S.len (LA:=LA) hchn;refine fV ?_;have hdg:DGet H4 D (.int (ch:Int)) (some (.ref qq)):=by
    rw[<-hv];exact DGet.k (k:=kN ch) k4D
   refine #[_,rfl,_,rfl,D,_,rfl,hdg,?_];refine #[qq,ws,ab ps LA ch,rfl,hq4,hq5,by lia,rB S.T S.R hfew hchn,fq S.T S.R hchn,λg H5 hg5 s5 h5=>?_];have hgl:=hO.length;rw[aq,aT]at hgl;have h5D2:=s5 _ _ h4;have ngD2:D2≠g:=au h4 hg5;rw[aq]at hm;refine #[_,h5D2,bh (by rw[aq];lia),r-1,by lia,by rw[aq];lia,gs++[g],_,rfl,?_,?_,?_,λx o n e=>by rw[aj n];exact s5 _ _ (k4 x o n e)]
   .rw[ak,bq];rfl
   .rw[bq];refine Own.other h5D2 (Own.append (hO.ext s5.ext) (.cons #[_,h5,?_] .nil)) ?_
    .exact BL (hq5.mono s5.ext)
    .intro z;rcases bp.mp z with z|z
     .exact hg z
     .exact ngD2 (aQ.mp z)
   .intro z;rcases bp.mp z with z|z
    .exact hg z
    .exact ngD2 (aQ.mp z)
  .rintro Z H4 ⟨gs,x0,rfl,h4,hO,hg,k4⟩;rw[aq,bu (ai _)]at hO;have hgl:=hO.length;rw[aq]at hgl;have s34:Same H3 H4:=λx o e=>k4 x o (au e hD2) e;have s24:Same H2 H4:=s3.trans s34;have S4:=S2.same s24;refine #[_,rfl,.inl #[rfl,_,SqL.of h4],_,rfl,_,rfl,st,ps,LA,t,rs,as,j,rfl,S4,hjn,λD3 us H5 hD3 s45 h5 hw5=>?_];have h5D2:=s45 _ _ h4;have n23:D2≠D3:=au h4 hD3;refine #[_,_,_,rfl,rfl,h5D2,bh (by rw[aq];lia),?_];have O5:Own K H5 (gs++[D3]) (gr ps LA j):=by
    rw[hparts];exact Own.append (hO.ext s45.ext) (.cons #[us,h5,hw5] .nil)
   have nin:D2∉gs++[D3]:=λz=>by
    rcases bp.mp z with z|z
    .exact hg z
    .exact n23 (aQ.mp z)
   have O6:=O5.other (o:=.lst (gs.map V.ref++[.ref D3])) h5D2 nin;have h6:upd H5 D2 (.lst (gs.map V.ref++[.ref D3])) D2=some (.lst ((gs++[D3]).map V.ref)):=by
    rw[ak,bq];rfl
   have k26:∀ x o,H2 x=some o->upd H5 D2 (.lst (gs.map V.ref++[.ref D3])) x=some o:=λx o e=>by
    rw[aj (au (s3 _ _ e) hD2)];exact s45 _ _ (s24 _ _ e)
   generalize upd H5 D2 (.lst (gs.map V.ref++[.ref D3]))=H6 at O6 h6 k26 ⊢;have hfl:(gr ps LA j).flatten.length<=1000:=by
    have:=jc S.T S.len (LA:=LA) hjn;rw[iz S.T hjn,oB]at this;lia
   refine #[_,rfl,D2,gs++[D3],gr ps LA j,rfl,h6,O6,hfl,λp ws H7 hp s7 h7 hw7=>?_];rw[<-iz S.T hjn]at hw7;have s27:Same H2 H7:=λx o e=>s7 _ _ (k26 x o e);have h7D:=s27 _ _ h2;have hql:=hF.length;have hpD:p≠D:=aS (au (k26 _ _ h2) hp);refine #[_,rfl,_,rfl,D,_,rfl,DPut.k (k:=kN j) h7D (bh (by rw[B7 hql,aT,ll];lia)),?_];rw[Jb hql hjnot];have e78:Ext H7 (upd H7 D (.dK (dN (bs.reverse.take i++[j]) (qs++[p])))):=λx o e n=>by
    rw[aj (λz=>by
     rw[z,h7D]at e;cases e
     exact n _ rfl)]
    exact e
   have F8:bt K (upd H7 D (.dK (dN (bs.reverse.take i++[j]) (qs++[p])))) ps LA (bs.reverse.take i++[j]) (qs++[p]):=by
    exact bt.ext e78 (bt.snoc (hF.same s27) #[ws,h7,hw7])
   refine #[qs++[p],_,_,rfl,ak,?_,?_,F8,?_,λx o n e=>?_]
   .rw[fP];refine #[hqn,dz.mpr #[nofun,gy],λa ha b hb z=>?_];rw[aQ.mp hb]at z;subst z;obtain ⟨ws',hws⟩:=hF.alloc a ha;have:=k26 _ _ hws;rw[hp]at this;cases this
   .intro x hx;rcases bp.mp hx with z|z
    .exact hqf x z
    .rw[aQ.mp z];cases e:H p with
     | none=>rfl
     | some o=>
      have:=k26 _ _ (k2 p o hpD e);rw[hp]at this;cases this
   .rw[aj (λz=>by rw[z,h2]at h2b;cases h2b)]
    exact s27 _ _ h2b
   .rw[aj n];exact s27 _ _ (k2 x o n e)
 .rintro Z H2 ⟨qs,x5,x6,rfl,h2,hqn,hqf,hF,h2b,k2⟩;refine #[_,rfl,?_];rw[aq,bu (by rw[ll];exact ai _)]at h2 hF;exact q D qs H2 hD (λx o e=>k2 x o (au e hD) e) h2 hqn hqf hF
inductive vy (K:Frag)(vs:List V)(H:Hp)(Q:VK)(w_1:XK):Prop
 | c:∀(st:Addr) (ps:List Nat) (LA:List (List Int)) (t rs:Addr) (as:List Addr),vs=[.ref st]->eV H st ps LA t rs as->(∀(p:Addr) (qs:List Addr) (H':Hp),H p=none->Same H H'->H' p=some (.lst (qs.map V.ref))->qs.Nodup->(∀ q∈qs,H q=none)->p∉qs->bt K H' ps LA (List.range (ps.length+1)) qs->Q (.ref p) H')->vy K vs H Q w_1
def Jg {n i:Nat}(h:i<n):(List.range n).reverse[n-1-i]?=some i:=by
 rw[sR (by rw[cq];lia),cq,gC (by lia)];congr 1;lia
def Jh (T:Txt K mg)(wV:DF K mg "full_rows" oZ qh)(KJ:FC P w K mg base 7 "full_rows_beneath" qg (vx K)):FC P w K mg base 8 "full_rows" qh (vy K):=by
 refine wV.ok AS (λvs H Q E h=>?_) (λf cdv A outer s H vs Q E hr h=>?_)
 .obtain ⟨st,ps,LA,t,rs,as,rfl,_⟩:=h;rfl
 obtain ⟨st,ps,LA,t,rs,as,rfl,S,q⟩:=h;refine #[_,(ay (aC (i:=1) AS.nd rfl (dg rfl) (aG KJ hr (aa (pv 0) (aa ah ag))))
   (av (aN (d4 (N:=["knot","told"]) (own:=1) (cap:=[1]) rfl (ff rfl T.de (aa (aV (bS (K:=K)) rfl T.bQ bJ (aa (aH (bN (K:=K)) (pv 0) ah (λ_ _=>rfl)) ag)) ag)) #[rfl,rfl,rfl,rfl,rfl,rfl] (λ_ _ _ _ _=>(aF (i:=0) (show List.Nodup (["knot","told"]:List Str) by decide +kernel) rfl (ar rfl))) (λ_ _ _ _ _=>dI) (λ_ _ _ _ _=>(gb (c9 hr) (pv 1) (pv 0) (λ_ _=>rfl))))))),?_]
 refine #[_,rfl,st,ps,LA,t,rs,as,0,rfl,S,by lia,λD qs H1 hD s1 h1 hqn hqf hF=>?_];rw[HQ S.T]at h1 hF;have S1:=S.same s1;have hfew:=S.few;have hql:=hF.length;rw[ll,cq]at hql;refine #[_,rfl,_,_,_,_,rfl,rfl,SqT.of S1.st,rfl,_,_,rfl,.inr (SqT.of S1.tr),_,rfl,by lia,by rw[cK];lia,λp hp=>?_];have el:((((bO ps).length:Nat):Int)).toNat=ps.length+1:=by rw[cK,fN]
 rw[el];refine jQ (n:=ps.length+1) (λi Z H2=>∃ x0:Option V,Z=[x0,some (.ref D)]/\H2 p=some (.lst ((qs.reverse.take i).map V.ref))/\But p H1 H2) ?_ ?_ ?_
 .exact #[_,rfl,ak,λb o n e=>by rw[aj n];exact e]
 .rintro i m Z H2 hm hi ⟨x0,rfl,h2,k2⟩;rw[fE];have hi2:i<qs.reverse.length:=by rw[ll];lia
  have hq1:qs[ps.length+1-1-i]?=some qs.reverse[i]:=by
   have:=sR (l:=qs) (i:=i) (by lia);rw[az hi2]at this;rw[this];congr 1;lia
  have hv:=vt (B3 kZ) (Jg hi) hq1;have h2D:=k2 _ _ (au h1 hp) h1;have hdg:DGet H2 D (.int (i:Int)) (some (.ref qs.reverse[i])):=by
   rw[<-hv];exact DGet.k (k:=kN i) h2D
  refine fV ?_;refine #[_,rfl,_,rfl,D,_,rfl,hdg,?_];refine #[_,h2,bh (by rw[aq,aT];lia),m-1,by lia,by lia,_,rfl,?_,λb o n e=>by rw[aj n];exact k2 b o n e];rw[ak,cF hi2,bq];rfl
 .rintro Z H2 ⟨x0,rfl,h2,k2⟩;rw[bu (by rw[ll];lia)]at h2;have s2:Same H1 H2:=λb o e=>k2 b o (au e hp) e;have F2:=(hF.same s2).rev;rw[sO]at F2;refine q p qs.reverse H2 ?_ (s1.trans s2) h2 (B3 hqn) (λx hx=>hqf x (kW.mp hx)) (λz=>?_) F2
  .cases e:H p with
   | none=>rfl
   | some o=>
    have:=s1 _ _ e;rw[hp]at this;cases this
  .obtain ⟨ws,hws⟩:=hF.alloc p (kW.mp z);rw[hp]at hws;cases hws
def ko (x:Key):Prop:=∃ a:Int,x=.inl a/\-(10^60)<a/\a<10^60
def toI:Key->Int
 | .inl a=>a
 | _=>0
def Ji {kvs:List (Key×V)}{v:V}(h1:(kvs.map (·.1)).Nodup)(h2:∀ y∈kvs.map (·.1),ko y)(hx:ko x):((putK kvs x v).map (·.1)).Nodup/\∀ y∈(putK kvs x v).map (·.1),ko y:=by
 rw[Ib];split
 .exact #[h1,h2]
 .rename_i c;refine #[?_,λy hy=>?_]
  .rw[fP];refine #[h1,dz.mpr #[nofun,gy],λa ha b hb z=>?_];rw[aQ.mp hb]at z;subst z;obtain ⟨p,hp,e⟩:=bA.mp ha;exact c (List.any_eq_true.mpr #[p,hp,aX e])
  .rcases bp.mp hy with z|z
   .exact h2 y z
   .rw[aQ.mp z];exact hx
def B8:∀{l:List Key},(∀ y∈l,ko y)->l.map kV=(l.map toI).map V.int
 | [],_=>rfl
 | x::l,h=>by
  obtain ⟨a,rfl,_⟩:=h x bx;show V.int a::l.map kV=V.int a::(l.map toI).map V.int;rw[B8 λy hy=>h y (bG _ hy)]
def B9:∀{l:List Key},l.Nodup->(∀ y∈l,ko y)->(l.map toI).Nodup
 | [],_,_=>gy
 | x::l,hn,h=>by
  rw[bI,dz];have hc:=dz.mp hn;refine #[λz=>?_,B9 hc.2 λy hy=>h y (bG _ hy)];obtain ⟨y,hy,e⟩:=bA.mp z;obtain ⟨a,rfl,_⟩:=h x bx;obtain ⟨b,rfl,_⟩:=h y (bG _ hy);have:b=a:=e;subst this;exact hc.1 hy
inductive vz (K:Frag)(vs:List V)(H:Hp)(Q:VK)(w_1:XK):Prop
 | c:∀(d L:Addr) (m:Int),vs=[.ref d,.int m]->(0<=m/\m<=40)->LS K L d H->(∀(a:Addr) (row:List Int) (H':Hp),H a=none->row.Pairwise (· < ·)->(∀ x∈row,-(10^60)<x/\x<10^60)->(row.length:Int)<=m->H' a=some (.tup (row.map V.int))->Keep d H H'->LS K L d H'->Q (.ref a) H')->vz K vs H Q w_1
def Jj (T:Txt K mg)(wW:DF K mg "_law_row" pz qx)(cj:FC P w K mg base 2 "_law_take" gM (ij K))(wX:FC P w K mg base 3 "_law_key" l9 (q9 K)):FC P w K mg base 4 "_law_row" qx (vz K):=by
 refine wW.ok uM (λvs H Q E h=>?_) (λf cdv A outer s H vs Q E hr h=>?_)
 .obtain ⟨d,L,m,rfl,_⟩:=h;rfl
 obtain ⟨d,L,m,rfl,⟨hm0,hm1⟩,hs,q⟩:=h;refine #[_,(ay (aC (i:=2) uM.nd rfl (ar rfl) yQ)
   (ay (bZ PassesOwn.never rfl (ff rfl T.de (aa (aG cj hr (aa (pv 0) (aa (aw bF (pv 1) ah) ag))) ag)) (aF (i:=3) uM.nd rfl (ar rfl)) (av (iV (c9 hr) (pv 2) (aG wX hr (aa (pv 0) ag)) dE rfl)))
   (av (aN (fH (oH (K:=K)) rfl T.mQ boot_tuple (aa (aV (oC Int) rfl T.rR boot_sorted (aa (fH (Fw rfl) rfl T.kG boot_list (aa (pv 2) ag)) ag)) ag)))))),?_]
 intro g hg;have ngd:g≠d:=λz=>by
  obtain ⟨_,_,_,e,_⟩:=hs.ex;rw[<-z,hg]at e;cases e
 refine #[_,rfl,_,rfl,_,_,rfl,rfl,d,L,m+1,rfl,#[by lia,by lia],hs.of_new hg _,λn H1 n0 n1 k1 s1=>#[_,rfl,by lia,by lia,?_]];refine fg (n:=n.toNat) (λi Z H2=>∃(kvs:List (Key×V)) (x3:Option V),Z=[some (.ref d),some (.int m),some (.ref g),x3]/\H2 g=some (.dK kvs)/\kvs.length<=i/\(kvs.map (·.1)).Nodup/\(∀ y∈kvs.map (·.1),ko y)/\(∀ b o,b≠d->b≠g->H b=some o->H2 b=some o)/\LS K L d H2) ?_ ?_ ?_
 .exact #[[],_,rfl,k1 g _ ngd ak,ai _,gy,λy hy=>(by simp at hy),λb o b1 b2 e=>k1 b o b1 (by rw[aj b2];exact e),s1]
 .rintro i Z H2 hi ⟨kvs,x3,rfl,h2,hl,hn,hy,kk,s2⟩;refine #[_,rfl,_,rfl,d,L,rfl,s2,λv H3 v0 v1 k3 s3=>?_];have h3:H3 g=some (.dK kvs):=k3 g _ ngd h2;obtain ⟨p1,p2⟩:=Ji (v:=.bl true) hn hy (x:=.inl v) #[v,rfl,v0,v1];refine #[g,_,rfl,DPut.k (k:=.inl v) (kvs:=kvs) h3 (bh (by lia)),?_];refine #[putK kvs (.inl v) (.bl true),_,rfl,ak,?_,p1,p2,?_,?_]
  .have:=oe kvs (Sum.inl v:Key) (.bl true);lia
  .intro b o b1 b2 e;rw[aj b2];exact k3 b o b1 (kk b o b1 b2 e)
  .exact LS.put hs hg (λb o b1 b2 e=>k3 b o b1 (kk b o b1 b2 e)) s3
 .rintro Z H2 ⟨kvs,x3,rfl,h2,hl,hn,hy,kk,s2⟩;refine #[_,rfl,g,kvs,rfl,h2,λl hl1=>?_];have ei:kvs.map (λkv=>kV kv.1)=((kvs.map (·.1)).map toI).map V.int:=by
   rw[<-B8 hy,iL];rfl
  rw[ei];have e1:=aD hl1 (.lst (((kvs.map (·.1)).map toI).map V.int));refine #[l,_,_,rfl,SqL.of ak,aB.ints,λl2 ws hl2 hw=>?_];rw[hw.toInts];have e2:=aD hl2 (.lst ((dJ ((kvs.map (·.1)).map toI)).map V.int));refine #[l2,_,rfl,.inl #[SqL.of ak,λa ha=>?_]];have e3:=aD ha (.tup ((dJ ((kvs.map (·.1)).map toI)).map V.int));have e13:=e1.trans (e2.trans e3);have free:H a=none:=by
   have z2:H2 a=none:=e1.free (e2.free ha);cases z:H a with
   | none=>rfl
   | some o=>
    by_cases c1:a=d
    .obtain ⟨_,_,_,e,_⟩:=s2.ex;rw[<-c1,z2]at e;cases e
    .by_cases c2:a=g
     .rw[c2,h2]at z2;cases z2
     .rw[kk a o c1 c2 z]at z2;cases z2
  refine q a _ _ free ?_ (λx hx=>?_) ?_ ak (λb o b1 e=>e13 _ _ (kk b o b1 (au e hg) e)) (s2.same e13)
  .exact List.Pairwise.imp (λ{a b} (h:Srt.blt a b=true)=>bM h) (ue (B9 hn hy))
  .rw[oA]at hx;obtain ⟨y,hy2,rfl⟩:=bA.mp hx;obtain ⟨a,rfl,h1,h2⟩:=hy y hy2;exact #[h1,h2]
  .rw[oB,aq,aq];lia
inductive rC (K:Frag)(vs:List V)(H:Hp)(Q:VK)(w_1:XK):Prop
 | c:∀(d L:Addr) (n m:Nat),vs=[.ref d,.int n,.int m]->n<=40->m<=40->LS K L d H->(∀(r:Addr) (as:List Addr) (LA:List (List Int)) (H':Hp),H r=none->bV H' as LA->LA.length=n->bP LA->(∀ row∈LA,row.length<=m)->H' r=some (.tup (as.map V.ref))->Keep d H H'->LS K L d H'->Q (.ref r) H')->rC K vs H Q w_1
def bP.snoc {row:List Int}(R:bP LA)(h1:row.Pairwise (· < ·))(h2:∀ x∈row,-(10^60)<x/\x<10^60):bP (LA++[row]):=by
 refine #[λr hr=>?_,λr hr=>?_]
 .rcases bp.mp hr with z|z
  .exact R.up r z
  .rw[aQ.mp z];exact h1
 .rcases bp.mp hr with z|z
  .exact R.key r z
  .rw[aQ.mp z];exact h2
def Jk (T:Txt K mg)(wY:DF K mg "_law_rows" pA ma)(cj:FC P w K mg base 2 "_law_take" gM (ij K))(KL:FC P w K mg base 4 "_law_row" qx (vz K)):FC P w K mg base 5 "_law_rows" ma (rC K):=by
 refine wY.ok jZ (λvs H Q E h=>?_) (λf cdv A outer s H vs Q E hr h=>?_)
 .obtain ⟨d,L,n,m,rfl,_⟩:=h;rfl
 obtain ⟨d,L,n,m,rfl,hn,hm,hs,q⟩:=h;refine #[_,(ay (aC (i:=3) jZ.nd rfl (ar rfl) (eC ag))
   (ay (bZ PassesOwn.never rfl (ff rfl T.de (aa (pv 1) ag)) (aF (i:=4) jZ.nd rfl (ar rfl)) (ay (aC (i:=5) jZ.nd rfl (ar rfl) (aG KL hr (aa (pv 0) (aa (pv 2) ag))))
   (fU (bR (bg dF (aG cj hr (aa (pv 0) (aa ah ag))) ah (bz _)) (av (aC (i:=5) jZ.nd rfl (ar rfl) (cC ag))) cv)
   (fU (bR (PW.pt (lz (bg nX (pv 4) ah (bz _)) (ly (bg dF (aG cj hr (aa (pv 0) (aa ah ag))) ah (bz _))))) (av (aC (i:=5) jZ.nd rfl (ar rfl) (aH (bC (K:=K)) (pv 3) (aw dv (pv 4) ah) (λ_ _=>rfl)))) cv)
   (av (dX (dY F.plainAttrs_list F.slot_list_append F.type_list_append dH (pv 3) (aa (pv 5) ag))))))))
   (av (aN (fH (oH (K:=K)) rfl T.mQ boot_tuple (aa (pv 3) ag)))))),?_]
 refine #[(by show 0<=sizeLine;decide),λp hp=>?_];have g0:=aD hp (.lst []);have ndT:∀{H':Hp} {a:Addr} {o:List V},LS K L d H'->H' a=some (.tup o)->a≠d:=λ{H' a o} s e z=>by
  obtain ⟨_,_,_,e2,_⟩:=s.ex;rw[<-z,e]at e2;cases e2
 have nd:∀{H':Hp} {a:Addr},LS K L d H'->H' a=none->a≠d:=λ{H' a} s e z=>by
  obtain ⟨_,_,_,e2,_⟩:=s.ex;rw[<-z,e]at e2;cases e2
 have hpd:p≠d:=nd hs hp;refine #[_,rfl,_,rfl,by lia,by lia,?_];rw[fN];refine fg (n:=n) (λi Z H2=>∃(as:List Addr) (LA:List (List Int)) (x4 x5:Option V),Z=[some (.ref d),some (.int n),some (.int m),some (.ref p),x4,x5]/\H2 p=some (.lst (as.map V.ref))/\bV H2 as LA/\LA.length=i/\bP LA/\(∀ row∈LA,row.length<=m)/\(∀ b o,b≠d->b≠p->H b=some o->H2 b=some o)/\LS K L d H2) ?_ ?_ ?_
 .exact #[[],[],_,_,rfl,ak,.nil,rfl,#[(λr hr=>nomatch hr),(λr hr=>nomatch hr)],(λr hr=>nomatch hr),λb o _ n e=>g0 b o e,hs.same g0]
 .rintro i Z H2 hi ⟨as,LA,x4,x5,rfl,h2,hA,hl,hR,hlen,k2,s2⟩;rw[fE];have hal:=hA.length;have old:∀{H3:Hp} {b:Addr} {o:HO},(∀ b o,b≠d->H2 b=some o->H3 b=some o)->b≠d->b≠p->H b=some o->H3 b=some o:=λk n1 n2 e=>k _ _ n1 (k2 _ _ n1 n2 e);refine #[_,rfl,_,rfl,d,L,m,rfl,#[by lia,by lia],s2,λa row H3 ha hup hky hlr h3 k3 s3=>?_];refine #[λZ' H'=>∃(a:Addr) (row:List Int),Z'=[some (.ref d),some (.int n),some (.int m),some (.ref p),some (.int i),some (.ref a)]/\H' a=some (.tup (row.map V.int))/\row.Pairwise (· < ·)/\(∀ x∈row,-(10^60)<x/\x<10^60)/\row.length<=m/\(∀ b o,b≠d->H2 b=some o->H' b=some o)/\LS K L d H',?_,?_]
  .refine #[_,rfl,d,L,4,rfl,by decide,s3,λv H4 _ _ k4 s4=>#[rfl,_,rfl,?_]];have h4:=k4 _ _ (ndT s3 h3) h3;refine ite2 (λ_=>?_) (λ_=>?_)
   .refine #[(by show 0<=sizeLine;decide),λu hu=>?_];have su:=aD hu (.tup []);exact #[u,[],rfl,ak,.nil,(λx hx=>nomatch hx),bK _,λb o n1 e=>su _ _ (k4 _ _ n1 (k3 _ _ n1 e)),s4.same su]
   .exact #[a,row,rfl,h4,hup,hky,by lia,λb o n1 e=>k4 _ _ n1 (k3 _ _ n1 e),s4]
  rintro Z' H4 ⟨a,row,rfl,h4,hup,hky,hlr,k4,s4⟩;refine #[λZ' H'=>∃(a:Addr) (row:List Int),Z'=[some (.ref d),some (.int n),some (.int m),some (.ref p),some (.int i),some (.ref a)]/\H' a=some (.tup (row.map V.int))/\row.Pairwise (· < ·)/\(∀ x∈row,-(10^60)<x/\x<10^60)/\row.length<=m/\(∀ b o,b≠d->H2 b=some o->H' b=some o)/\LS K L d H',?_,?_]
  .refine #[_,rfl,_,_,rfl,rfl,_,rfl,?_];refine ite2 (λc=>?_) (λc=>?_)
   .have c':(0:Int)<(i:Int):=bM c;refine #[_,rfl,d,L,4,rfl,by decide,s4,λv H5 _ _ k5 s5=>#[rfl,_,rfl,?_]];have h5:=k5 _ _ (ndT s4 h4) h4;refine ite2 (λ_=>?_) (λ_=>?_)
    .have h5p:H5 p=some (.lst (as.map V.ref)):=k5 _ _ hpd (k4 _ _ hpd h2);obtain ⟨b,hb1,hb2⟩:=hA.get (k:=i-1) (by lia);have hb5:=k5 _ _ (ndT s4 (k4 _ _ (ndT s2 hb2) hb2)) (k4 _ _ (ndT s2 hb2) hb2);have hat:atI (as.map V.ref) ((i:Int)-1)=some (.ref b):=by
      rw[show (i:Int)-1=((i-1:Nat):Int) by lia];exact eW hb1
     refine #[_,rfl,_,rfl,_,_,rfl,rfl,_,_,_,_,rfl,rfl,SqL.of h5p,hat,?_];have hmem:bU LA (i-1)∈LA:=by
      unfold bU;rw[aE,az (show i-1<LA.length by lia)];exact cU _
     exact #[b,bU LA (i-1),rfl,hb5,hR.up _ hmem,hR.key _ hmem,hlen _ hmem,λb o n1 e=>k5 _ _ n1 (k4 _ _ n1 e),s5]
    .exact #[a,row,rfl,h5,hup,hky,hlr,λb o n1 e=>k5 _ _ n1 (k4 _ _ n1 e),s5]
   .refine iteF ?_;exact #[a,row,rfl,h4,hup,hky,hlr,k4,s4]
  rintro Z' H5 ⟨a,row,rfl,h5,hup,hky,hlr,k5,s5⟩;have h5p:H5 p=some (.lst (as.map V.ref)):=k5 _ _ hpd h2;have keep:∀ b o,b≠p->H5 b=some o->upd H5 p (.lst (as.map V.ref++[.ref a])) b=some o:=λb o n e=>by rw[aj n];exact e
  have ntp:∀{b:Addr} {o:List V},H5 b=some (.tup o)->b≠p:=λ{b o} e z=>by
   rw[z,h5p]at e;cases e
  refine #[_,rfl,.inl #[rfl,_,SqL.of h5p],_,rfl,_,_,_,rfl,rfl,h5p,bh (by rw[aq];lia),?_];refine #[as++[a],LA++[row],_,_,rfl,?_,?_,by rw[bc,fz,hl],hR.snoc hup hky,λr hr=>?_,λb o n1 n2 e=>keep _ _ n2 (k5 _ _ n1 (k2 _ _ n1 n2 e)),?_]
  .rw[ak,bq];rfl
  .refine bV.snoc ?_ (keep _ _ (ntp h5) h5);have hA5:bV H5 as LA:=bV.keep (p:=d) (λa row e=>ndT s2 e) k5 hA;exact bV.keep (p:=p) (d:=p) (λa row e=>ntp e) keep hA5
  .rcases bp.mp hr with z|z
   .exact hlen r z
   .rw[aQ.mp z];exact hlr
  .exact LS.put hs hp (λb o n1 n2 e=>k5 _ _ n1 (k2 _ _ n1 n2 e)) s5
 .rintro Z H2 ⟨as,LA,x4,x5,rfl,h2,hA,hl,hR,hlen,k2,s2⟩;refine #[_,rfl,p,_,rfl,.inl #[SqL.of h2,λt ht=>?_]];have sn:=aD ht (.tup (as.map V.ref));have ht0:H t=none:=by
   cases e:H t with
   | none=>rfl
   | some o=>
    have:=k2 t o (nd s2 ht) (aS (au h2 ht)) e;rw[ht]at this;cases this
  exact q t as LA _ ht0 (hA.ext sn) hl hR hlen ak (λb o n e=>sn _ _ (k2 b o n (au e hp) e)) (s2.same sn)
abbrev En:=Int×Int
def dO (k:Nat)(es:List En):Nat:=(es.filter λe=>decide (e.2=(k:Int))).length
def fZ (k:Nat)(es:List En):List Nat:=(List.range (es.length+1)).map λp=>dO k (es.take p)
def rD (cs:List En)(s:Nat)(e:En):Nat:=if e∈cs then cs.idxOf e+1 else s
def stN (cs es:List En):Nat:=es.foldl (rD cs) 0
def fw (es cs:List En):List Nat:=(List.range (es.length+1)).map λp=>stN cs (es.take p)
def inN (cs es:List En):Nat:=(es.filter λe=>decide (e∈cs)).length
def Ca (h:Rise l):l.Nodup:=List.Pairwise.imp (λ{a b} (q:pLt a b=true) z=>by
 subst z;have:=gk.mp q;lia) h
def vA (h1:Rise l)(h2:Rise m)(h:∀ e,e∈l↔e∈m):l=m:=by
 refine List.Perm.eq_of_pairwise (le:=λa b=>pLt a b=true) (λa b _ _ q1 q2=>?_) h1 h2 ((List.perm_ext_iff_of_nodup (Ca h1) (Ca h2)).mpr h);have:=gk.mp q1;have:=gk.mp q2;lia
def mK (T:aO ps){k:Nat}(hk:k<ps.length+1){e:En}:e∈ab ps LA k↔e∈ownE LA k\/∃ c,par ps c=some k/\e∈cf (ab ps LA c):=by
 rw[iz T hk,oA,nG];unfold gr;constructor
 .rintro ⟨l,hl,he⟩;rcases bp.mp hl with q|q
  .obtain ⟨c,hc,rfl⟩:=bA.mp q;exact .inr #[c,(cO.mp hc).2,he]
  .rw[aQ.mp q]at he;exact .inl he
 .rintro (h|⟨c,hc,h⟩)
  .exact #[_,bp.mpr (.inr (aQ.mpr rfl)),h]
  .exact #[_,bp.mpr (.inl (bA.mpr #[c,cO.mpr #[(bw T hc).2,hc],rfl])),h]
def Jl (T:aO ps)(R:bP LA){k c:Nat}(hk:k<ps.length+1)(hc:par ps c=some k){e:En}:(e∈ab ps LA k/\e∈ab ps LA c)↔e∈cf (ab ps LA c):=by
 have hcn:=(bw T hc).2;constructor
 .rintro ⟨h1,h2⟩;obtain ⟨j,g1,g2,g3,_⟩:=kl T R hcn e h2;rcases (mK T hk).mp h1 with h|⟨d,hd,h⟩
  .have h4:=(mJ hk h).2;have:j=k:=by lia
   subst this;rw[fm T (bw T hc).1]at g2;cases g2
  .by_cases z:d=c
   .rw[z]at h;exact h
   .obtain ⟨i,_,f2,f3,_⟩:=kl T R (bw T hd).2 e ((eU _).mem h);have:i=j:=by lia
    subst this;exact (mq T hd hc z i i (ai _) f2 g2).elim
 .intro h;exact #[(mK T hk).mpr (.inr #[c,hc,h]),(eU _).mem h]
def Cb (T:aO ps)(R:bP LA){k c:Nat}(hk:k<ps.length+1)(hc:par ps c=some k):((ab ps LA k).filter λe=>decide (e∈ab ps LA c))=cf (ab ps LA c):=by
 refine vA (List.Pairwise.filter _ (fq T R hk)) ((fq T R (bw T hc).2).sublist (eU _)) λe=>?_;rw[eJ,decide_eq_true_eq];exact Jl T R hk hc
def Jm {l:List En}{p:Nat}(h:p<l.length):l.take (p+1)=l.take p++[l[p]]:=cF h
def Jn (k:Nat)(es:List En)(e:En):dO k (es++[e])=dO k es+if e.2=(k:Int) then 1 else 0:=by
 unfold dO;rw[c7,bc];congr 1;by_cases h:e.2=(k:Int)
 .rw[ae h,dr (by exact aX h)];rfl
 .rw[af h,eB (by rw[bj h];decide)];rfl
def Jo (cs es:List En)(e:En):inN cs (es++[e])=inN cs es+if e∈cs then 1 else 0:=by
 unfold inN;rw[c7,bc];congr 1;by_cases h:e∈cs
 .rw[ae h,dr (by exact aX h)];rfl
 .rw[af h,eB (by rw[bj h];decide)];rfl
def Cc (cs es:List En)(e:En):stN cs (es++[e])=if e∈cs then cs.idxOf e+1 else stN cs es:=by
 unfold stN;rw[List.foldl_append];rfl
def spL (es:List En):List Nat:=(List.range es.length).filter λj=>(cx es).getD j false
def rE (es:List En):dM (cx es) (spL es):=by
 have:=HI (cx es);rw[jb]at this;exact this
def Cd {es:List En}{ms:List Bool}(hl:es.length=ms.length):∀ i,i<=ms.length->cG (es.take i) (ms.take i)=((List.range i).filter λj=>ms.getD j false).map λj=>es.getD j (0,0)
 | 0,_=>rfl
 | i+1,h=>by
  have ft:((List.range (i+1)).filter λj=>ms.getD j false)=((List.range i).filter λj=>ms.getD j false)++(if ms.getD i false=true then [i] else []):=by
   rw[fQ,c7];congr 1;by_cases h:ms.getD i false=true
   .rw[ae h,dr (p:=λj=>ms.getD j false) (a:=i) h];rfl
   .rw[af h,eB (p:=λj=>ms.getD j false) (a:=i) h];rfl
  rw[rp (show i<es.length by lia),rp (show i<ms.length by lia),vm (by rw[aT,aT];lia),Cd hl i (by lia),ft,bq];congr 1;have e:ms.getD i false=ms[i]'(by lia):=by
   rw[aE,az (show i<ms.length by lia)];rfl
  rw[e];split
  .rw[List.map_singleton,aE,az (show i<es.length by lia)];rfl
  .rfl
def Ce (es:List En):cf es=(spL es).map λj=>es.getD j (0,0):=by
 have hl:=jb es;have:=Cd (es:=es) (ms:=cx es) hl.symm (cx es).length (ai _);rw[bu (ai _),bu (by lia),hl]at this;exact this
def stAt (sp:List Nat)(t:Nat):Nat:=if t=0 then 0 else sp.getD (t-1) 0+1
def Jp {l:List En}(h:l.Nodup){j:Nat}(hj:j<l.length):l.idxOf (l.getD j (0,0))=j:=by
 rw[aE,az hj];exact List.Nodup.idxOf_getElem h j hj
def Jq {P:En->Bool}:∀(l:List En) (p:Nat),(l.take p).filter P=(l.filter P).take ((l.take p).filter P).length:=by
 intro l p;have e:l.filter P=(l.take p).filter P++(l.drop p).filter P:=by rw[<-c7,fb]
 rw[e,List.take_append_of_le_length (ai _),bu (ai _)]
def Cf (T:aO ps)(R:bP LA){k c:Nat}(hk:k<ps.length+1)(hc:par ps c=some k):∀ p,p<=(ab ps LA k).length->stN (ab ps LA c) ((ab ps LA k).take p)=stAt (spL (ab ps LA c)) (inN (ab ps LA c) ((ab ps LA k).take p))
 | 0,_=>rfl
 | p+1,h=>by
  have ih:=Cf T R hk hc p (by lia);have hp:p<(ab ps LA k).length:=by lia
  have hft:=Jq (P:=λe=>decide (e∈ab ps LA c)) (ab ps LA k) (p+1);rw[Cb T R hk hc]at hft;rw[Jm hp]at hft ⊢;rw[Cc,Jo];by_cases z:(ab ps LA k)[p]∈ab ps LA c
  .rw[ae z,ae z];unfold stAt;rw[af (by lia),kQ];congr 1;rw[c7,dr (by exact aX z),nK,bc,fz]at hft;have hin:((ab ps LA k).take p |>.filter λe=>decide (e∈ab ps LA c)).length=inN (ab ps LA c) ((ab ps LA k).take p):=rfl;generalize inN (ab ps LA c) ((ab ps LA k).take p)=t at hin ⊢;have hg:(cf (ab ps LA c))[t]?=some (ab ps LA k)[p]:=by
    have h2:(((ab ps LA k).take p |>.filter λe=>decide (e∈ab ps LA c))++[(ab ps LA k)[p]])[t]?=some (ab ps LA k)[p]:=by
     rw[fM (by lia),hin,Nat.sub_self];rfl
    rw[hft,jv]at h2;split at h2
    .exact h2
    .cases h2
   rw[Ce,bf]at hg;obtain ⟨j,hj,he⟩:=eZ.mp hg;have hjl:j<(ab ps LA c).length:=by
    have:=(rE (ab ps LA c)).lt (cy hj);rw[jb]at this;exact this
   rw[<-he,Jp (vq T R (bw T hc).2) hjl,aE,hj];rfl
  .rw[af z,af z,fc];exact ih
def Jr {es:List En}(he:∀ e∈es,eF 64 e)(hri:Rise es){t:Nat}(ht:t<(spL es).length):stAt (spL es) (t+1)=stAt (spL es) t+2\/stAt (spL es) (t+1)=stAt (spL es) t+3:=by
 have M:=BH he hri;have S:=rE es;have g:∀ i (h:i<(spL es).length),(spL es).getD i 0=(spL es)[i]:=λi h=>by
  rw[aE,az h];rfl
 unfold stAt;rw[af (by lia),kQ];by_cases z:t=0
 .subst z;rw[ae rfl,g 0 ht];have hlen:2<=(cx es).length:=by
   refine cp λy=>?_;have:=S.none M (by lia);rw[this]at ht;simp at ht
  obtain ⟨_,h1,h2⟩:=S.first M hlen;lia
 .rw[af z,g t ht,g (t-1) (by lia)];have:=S.step M (t:=t-1) (by lia);have e:t-1+1=t:=by lia
  have e2:(spL es)[t-1+1]'(by lia)=(spL es)[t]:=by congr 1
  rw[e2]at this;lia
def Js {es:List En}(he:∀ e∈es,eF 64 e)(hri:Rise es):stAt (spL es) (spL es).length<=es.length/\es.length<=stAt (spL es) (spL es).length+1:=by
 have M:=BH he hri;have S:=rE es;have hl:=jb es;unfold stAt;by_cases z:(spL es).length=0
 .rw[ae z];refine #[bK _,?_];refine cp λy=>?_;obtain ⟨h,_⟩:=S.first M (by lia);lia
 .have g:(spL es).getD ((spL es).length-1) 0=(spL es)[(spL es).length-1]'(by lia):=by
   rw[aE,az (by lia)];rfl
  rw[af z,g];have h1:=S.lt (cU (show (spL es).length-1<(spL es).length by lia));refine #[by lia,?_];have hlen:2<=(cx es).length:=cp λy=>z (by rw[S.none M y];rfl);have h2:=S.last M hlen (by lia);lia
def kq {f:Nat->Nat}{i:Nat}:((List.range (i+1)).map f).map nV=(((List.range i).map f)++[f i]).map nV:=by
 rw[fQ,bq];rfl
def vB {us:List Nat}:atI ((us++[c]).map nV) (-1)=some (nV c):=by
 unfold atI ixN;rw[bq];simp;rw[ae (by lia)];show (List.map nV us++[nV c])[(-1+((us.length:Int)+1)).toNat]?=_;rw[show (-1+((us.length:Int)+1)).toNat=us.length by lia,fM (by rw[aq];exact ai _),aq,Nat.sub_self];rfl
inductive vC (K:Frag)(vs:List V)(H:Hp)(Q:VK)(w_1:XK):Prop
 | c:∀(a:Addr) (ws:List V) (es:List En) (k:Nat),vs=[.ref a,.int k]->H a=some (.lst ws)->aB K H es ws->es.length<=900->(∀(p:Addr) (H':Hp),H p=none->Same H H'->H' p=some (.lst ((fZ k es).map nV))->Q (.ref p) H')->vC K vs H Q w_1
def Jt (T:Txt K mg)(wZ:DF K mg "owns_of" o4 qi):FC P w K mg base 1 "owns_of" qi (vC K):=by
 refine wZ.ok uK (λvs H Q E h=>?_) (λf cdv A outer s H vs Q E hr h=>?_)
 .obtain ⟨a,ws,es,k,rfl,_⟩:=h;rfl
 obtain ⟨a,ws,es,k,rfl,ha,hw,hz,q⟩:=h;have hwl:=hw.length;refine #[_,(ay (aC (i:=2) uK.nd rfl (ar rfl) (eC (aa ah ag)))
   (ay (bZ PassesOwn.never rfl (du (pv 0)) (aF (i:=3) uK.nd rfl (ar rfl)) (av (dX (dY F.plainAttrs_list F.slot_list_append F.type_list_append dH (pv 2) (aa (xI (bg dF (aH (bN (K:=K)) (pv 3) ah (λ_ _=>rfl)) (pv 1) (bz _)) (aw bF (aH (bC (K:=K)) (pv 2) (hW hZ ah) (λ_ _=>rfl)) ah) (aH (bC (K:=K)) (pv 2) (hW hZ ah) (λ_ _=>rfl))) ag)))))
   (av (aN (pv 2))))),?_]
 refine #[(by show 1<=sizeLine;decide),λp hp=>?_];have k0:But p H (upd H p (.lst [V.int 0])):=λb o n e=>by rw[aj n];exact e
 have nap:a≠p:=au ha hp;refine #[_,rfl,a,rfl,#[_,SqL.of (k0 _ _ nap ha)],?_];refine jF (xs:=ws) (λi Z H2=>∃ x3:Option V,Z=[some (.ref a),some (.int k),some (.ref p),x3]/\H2 p=some (.lst (((List.range (i+1)).map λp=>dO k (es.take p)).map nV))/\But p H H2) ?_ ?_ ?_ ?_
 .exact #[_,rfl,ak,k0]
 .rintro i Z H2 _ ⟨x3,rfl,_,k2⟩;exact SqL.of (k2 _ _ nap ha)
 .rintro i x Z H2 hx ⟨x3,rfl,h2,k2⟩;obtain ⟨e,he,hhas⟩:=hw.get hx;obtain ⟨b,y1,y2,rfl,hb,hy1,hy2⟩:=(show hasP K H e x from hhas);have hy1:y1=.int e.1:=hy1;have hy2:y2=.int e.2:=hy2;subst hy1 hy2;have h2b:=k2 _ _ (au hb hp) hb;have hi:=(aM.mp he).1;have htk:es.take (i+1)=es.take i++[e]:=by
   rw[cF hi,(aM.mp he).2]
  have hon:=Jn k (es.take i) e;rw[<-htk]at hon;rw[kq]at h2;have hlen:((((List.range i).map λp=>dO k (es.take p))++[dO k (es.take i)]).map nV).length < sizeLine:=bh (by
   rw[aq,bc,aq,cq,fz];lia)
  have fin:∀ v:Nat,v=dO k (es.take (i+1))->upd H2 p (.lst ((((List.range i).map λp=>dO k (es.take p))++[dO k (es.take i)]).map nV++[nV v])) p=some (.lst (((List.range (i+1+1)).map λp=>dO k (es.take p)).map nV)):=λv hv=>by
   rw[ak,kq,bq (l₂:=[dO k (es.take (i+1))]),kq,hv];rfl
  refine #[_,rfl,.inl #[rfl,_,SqL.of h2],?_];refine #[_,rfl,_,_,_,_,rfl,rfl,SqT.of h2b,rfl,_,rfl,rfl,_,rfl,?_];refine ite2 (λc=>?_) (λc=>?_)
  .have c':e.2=(k:Int):=V.int.inj (bM c);rw[ae c']at hon;refine #[_,rfl,_,rfl,_,_,_,_,rfl,rfl,SqL.of h2,vB,_,_,rfl,rfl,_,_,_,rfl,rfl,h2,hlen,?_];refine #[_,rfl,?_,λb o n e=>by rw[aj n];exact k2 b o n e];have:=fin (dO k (es.take i)+1) hon.symm;rw[<-this];rfl
  .have c':¬ e.2=(k:Int):=λz=>c (by rw[z];exact aX rfl);rw[af c',fc]at hon;refine #[_,rfl,_,rfl,_,_,_,_,rfl,rfl,SqL.of h2,vB,_,_,_,rfl,rfl,h2,hlen,?_];exact #[_,rfl,fin _ hon.symm,λb o n e=>by rw[aj n];exact k2 b o n e]
 .rintro Z H2 ⟨x3,rfl,h2,k2⟩;refine #[_,rfl,?_];rw[<-hwl]at h2;exact q p H2 hp (λb o e=>k2 b o (au e hp) e) h2
def kvT:Nat->List En->List (List Key×V)
 | _,[]=>[]
 | o,e::es=>([.inl e.1,.inl e.2],nV (o+1))::kvT (o+1) es
abbrev kE (e:En):List Key:=[.inl e.1,.inl e.2]
def Ju (h:kE e=kE f):e=f:=by
 obtain ⟨a,b⟩:=e;obtain ⟨c,d⟩:=f;injection h with h1 h2;injection h2 with h2 _;have h1:a=c:=Sum.inl.inj h1;have h2:b=d:=Sum.inl.inj h2;rw[h1,h2]
def vD (e:En):∀(o:Nat) (es:List En),valV (kvT o es) (kE e)=if e∈es then some (nV (o+es.idxOf e+1)) else none
 | _,[]=>rfl
 | o,f::es=>by
  show valV ((kE f,nV (o+1))::kvT (o+1) es) (kE e)=_;by_cases z:f=e
  .subst z;rw[dZ rfl,ae bx,List.idxOf_cons_self]
  .rw[c8 (λy=>z (Ju y)),vD e (o+1) es];have hm:(e∈f::es)=(e∈es):=propext #[λh=>(aW.mp h).resolve_left λy=>z y.symm,λh=>bG _ h];by_cases y:e∈es
   .have ei:(f::es).idxOf e=es.idxOf e+1:=by
     rw[List.idxOf_cons,beq_false_of_ne z];rfl
    rw[ae y,ae (by rw[hm];exact y),ei];congr 2;have:o+1+es.idxOf e+1=o+(es.idxOf e+1)+1:=by lia
    rw[this]
   .rw[af y,af (by rw[hm];exact y)]
def Cg (e:En):∀(o:Nat) (es:List En),kvT o (es++[e])=kvT o es++[(kE e,nV (o+es.length+1))]
 | _,[]=>rfl
 | o,f::es=>by
  show (kE f,nV (o+1))::kvT (o+1) (es++[e])=(kE f,nV (o+1))::(kvT (o+1) es++_);rw[Cg e (o+1) es,cE,show o+1+es.length+1=o+(es.length+1)+1 by lia]
def Ci:∀(o:Nat) (es:List En),(kvT o es).length=es.length
 | _,[]=>rfl
 | o,e::es=>by
  show (kvT (o+1) es).length+1=es.length+1;rw[Ci (o+1) es]
inductive vE (K:Frag)(vs:List V)(H:Hp)(Q:VK)(w_1:XK):Prop
 | c:∀(a c:Addr) (ws vs':List V) (es cs:List En),vs=[.ref a,.ref c]->H a=some (.lst ws)->aB K H es ws->es.length<=900->H c=some (.lst vs')->aB K H cs vs'->cs.length<=900->cs.Nodup->(∀(p:Addr) (H':Hp),H p=none->Same H H'->H' p=some (.lst ((fw es cs).map nV))->Q (.ref p) H')->vE K vs H Q w_1
def Jv (T:Txt K mg)(w5:DF K mg "starts_of" o5 qj):FC P w K mg base 1 "starts_of" qj (vE K):=by
 refine w5.ok jW (λvs H Q E h=>?_) (λf cdv A outer s H vs Q E hr h=>?_)
 .obtain ⟨a,c,ws,us,es,cs,rfl,_⟩:=h;rfl
 obtain ⟨a,c,ws,us,es,cs,rfl,ha,hw,hz,hc,hu,hzc,hnd,q⟩:=h;have hwl:=hw.length;have hul:=hu.length;refine #[_,(ay (aC (i:=2) jW.nd rfl (ar rfl) Ej)
   (ay (bZ PassesOwn.never rfl (tZ rfl T.wd (aa (pv 1) ag)) (gF rfl (cB (aF (i:=3) jW.nd rfl (ar rfl)) (cB (aF (i:=4) jW.nd rfl (ar rfl)) fF))) (av (iV (c9 hr) (pv 2) (pv 4) (aw bF (pv 3) ah) rfl)))
   (ay (aC (i:=5) jW.nd rfl (ar rfl) (eC (aa ah ag)))
   (ay (bZ PassesOwn.never rfl (du (pv 0)) (aF (i:=4) jW.nd rfl (ar rfl)) (av (dX (dY F.plainAttrs_list F.slot_list_append F.type_list_append dH (pv 5) (aa (Ep (c9 hr) (pv 2) (pv 4) (aH (bC (K:=K)) (pv 5) (hW hZ ah) (λ_ _=>rfl)) #[rfl,rfl,rfl,rfl]) ag)))))
   (av (aN (pv 5))))))),?_]
 intro D hD;have k0:But D H (upd H D (.dT [])):=λb o n e=>by rw[aj n];exact e
 have naD:a≠D:=au ha hD;have ncD:c≠D:=au hc hD;refine #[_,rfl,c,rfl,#[_,SqL.of (k0 _ _ ncD hc)],?_];refine t6 (xs:=us) (λi Z H2=>∃ x3 x4:Option V,Z=[some (.ref a),some (.ref c),some (.ref D),x3,x4,none]/\H2 D=some (.dT (kvT 0 (cs.take i)))/\But D H H2) ?_ ?_ ?_ ?_
 .exact #[_,_,rfl,ak,k0]
 .rintro i Z H2 _ ⟨x3,x4,rfl,_,k2⟩;exact SqL.of (k2 _ _ ncD hc)
 .rintro i x Z H2 r hx ⟨x3,x4,rfl,h2,k2⟩ hr;obtain ⟨e,he,hhas⟩:=hu.get hx;obtain ⟨b,y1,y2,rfl,hb,hy1,hy2⟩:=(show hasP K H e x from hhas);have hy1:y1=.int e.1:=hy1;have hy2:y2=.int e.2:=hy2;subst hy1 hy2;have hi:=(aM.mp he).1;have htk:cs.take (i+1)=cs.take i++[e]:=by
   rw[cF hi,(aM.mp he).2]
  refine #[r,_,rfl,SqT.of ak,rfl,_,_,rfl,_,_,rfl,rfl,?_];have sr:=aD hr (.tup [.int (i:Int),.ref b]);have h3:=sr _ _ h2;have k3:But D H (upd H2 r (.tup [.int (i:Int),.ref b])):=λb o n e=>sr b o (k2 b o n e);clear sr;generalize upd H2 r (.tup [.int (i:Int),.ref b])=H3 at h3 k3 ⊢;have h3b:=k3 _ _ (au hb hD) hb;have hnot:e∉cs.take i:=λz=>by
   have hn2:=hnd;rw[<-fb (i+1) cs,htk]at hn2;have:=(fP.mp (fP.mp hn2).1).2.2 e z e (aQ.mpr rfl);exact this rfl
  refine #[_,rfl,_,_,rfl,rfl,_,rfl,_,rfl,D,_,rfl,DPut.t (k:=kE e) h3 h3b (bh (by rw[Ci,aT];lia)),?_];refine #[_,_,rfl,?_,λb o n e=>by rw[aj n];exact k3 b o n e];rw[ak,iS _ (by rw[vD,af hnot]),htk,Cg,aT,eh (by lia),fD];rfl
 .rintro Z H2 ⟨x3,x4,rfl,h2,k2⟩;rw[bu (by lia)]at h2;refine #[(by show 1<=sizeLine;decide),λp hp=>?_];have nDp:D≠p:=au h2 hp;have s2:Same H H2:=λb o e=>k2 b o (au e hD) e;have k3:But p H2 (upd H2 p (.lst [V.int 0])):=λb o n e=>by rw[aj n];exact e
  have h2a:=s2 _ _ ha;refine #[_,rfl,a,rfl,#[_,SqL.of (k3 _ _ (au h2a hp) h2a)],?_];refine jF (xs:=ws) (λi Z H4=>∃ x4:Option V,Z=[some (.ref a),some (.ref c),some (.ref D),x3,x4,some (.ref p)]/\H4 p=some (.lst (((List.range (i+1)).map λp=>stN cs (es.take p)).map nV))/\But p H2 H4) ?_ ?_ ?_ ?_
  .exact #[_,rfl,ak,k3]
  .rintro i Z H4 _ ⟨x4,rfl,_,k4⟩;exact SqL.of (k4 _ _ (au h2a hp) h2a)
  .rintro i x Z H4 hx ⟨x4,rfl,h4,k4⟩;obtain ⟨e,he,hhas⟩:=hw.get hx;obtain ⟨b,y1,y2,rfl,hb,hy1,hy2⟩:=(show hasP K H e x from hhas);have hy1:y1=.int e.1:=hy1;have hy2:y2=.int e.2:=hy2;subst hy1 hy2;have h2b:=s2 _ _ hb;have h4b:=k4 _ _ (au h2b hp) h2b;have h4D:=k4 _ _ nDp h2;have hi:=(aM.mp he).1;have htk:es.take (i+1)=es.take i++[e]:=by
    rw[cF hi,(aM.mp he).2]
   have hon:=Cc cs (es.take i) e;rw[<-htk]at hon;rw[kq]at h4;have hlen:((((List.range i).map λp=>stN cs (es.take p))++[stN cs (es.take i)]).map nV).length < sizeLine:=bh (by
    rw[aq,bc,aq,cq,fz];lia)
   refine #[_,rfl,.inl #[rfl,_,SqL.of h4],?_];refine #[_,rfl,D,rfl,.inr #[_,.inl h4D],_,rfl,_,rfl,_,rfl,_,_,_,_,rfl,rfl,SqL.of h4,vB,_,DGet.t (k:=kE e) h4D h4b,?_];have ev:(valV (kvT 0 cs) (kE e)).getD (nV (stN cs (es.take i)))=nV (stN cs (es.take (i+1))):=by
    rw[vD,hon];by_cases z:e∈cs
    .rw[ae z,ae z,fD];rfl
    .rw[af z,af z];rfl
   rw[ev];refine #[_,_,_,rfl,rfl,h4,hlen,?_];refine #[_,rfl,?_,λb o n e=>by rw[aj n];exact k4 b o n e];rw[ak,kq,bq (l₂:=[stN cs (es.take (i+1))]),kq];rfl
  .rintro Z H4 ⟨x4,rfl,h4,k4⟩;refine #[_,rfl,?_];rw[<-hwl]at h4;refine q p H4 (s2.free hp) (s2.trans λb o e=>k4 b o (au e hp) e) h4
def bX {α β:Type}{F G:α->β->Prop}(h:∀ a b,F a b->G a b):∀{l:List α} {m:List β},Paired F l m->Paired G l m
 | _,_,.nil=>.nil
 | _,_,.cons a t=>.cons (h _ _ a) (bX h t)
def iA {α β:Type}{F:α->β->Prop}{a:α}{b:β}:∀{l:List α} {m:List β},Paired F l m->F a b->Paired F (l++[a]) (m++[b])
 | _,_,.nil,h=>.cons h .nil
 | _,_,.cons a t,h=>.cons a (iA t h)
def vF {α β:Type}{F:α->β->Prop}:∀{l:List α} {m:List β} {i:Nat} {a:α},Paired F l m->l[i]?=some a->∃ b,m[i]?=some b/\F a b
 | _,_,i,a,.nil,h=>by simp at h
 | _::_,b::_,0,a,.cons h t,e=>by
  have:=aJ (show some _=some a from e);subst this;exact #[b,rfl,h]
 | _::_,_::_,i+1,a,.cons h t,e=>by
  obtain ⟨q,h1,h2⟩:=vF (i:=i) t (by simpa using e);exact #[q,by simpa using h1,h2]
def gQ {α β:Type}{F:α->β->Prop}:∀{l:List α} {m:List β} {i:Nat} {b:β},Paired F l m->m[i]?=some b->∃ a,l[i]?=some a/\F a b
 | _,_,i,a,.nil,h=>by simp at h
 | a::_,_::_,0,b,.cons h t,e=>by
  have:=aJ (show some _=some b from e);subst this;exact #[a,rfl,h]
 | _::_,_::_,i+1,a,.cons h t,e=>by
  obtain ⟨q,h1,h2⟩:=gQ (i:=i) t (by simpa using e);exact #[q,by simpa using h1,h2]
def cg (Av:List Addr)(H:Hp)(es:List En)(ps:List Nat)(LA:List (List Int))(c:Nat)(x:V):Prop:=∃ j s,x=.ref j/\s∉Av/\H j=some (.tup [.int (c:Int),.ref s])/\H s=some (.lst ((fw es (ab ps LA c)).map nV))
def BrAt (Av:List Addr)(H:Hp)(ps:List Nat)(LA:List (List Int))(k:Nat)(x:V):Prop:=∃ b o j xs,x=.ref b/\o∉Av/\j∉Av/\H b=some (.tup [.int ((ab ps LA k).length:Nat),.ref o,.ref j])/\H o=some (.lst ((fZ k (ab ps LA k)).map nV))/\H j=some (.lst xs)/\Paired (cg Av H (ab ps LA k) ps LA) (aY ps k (ps.length+1)) xs
def cg.same {c:Nat}(e:Same H H')(h:cg Av H es ps LA c x):cg Av H' es ps LA c x:=by
 obtain ⟨j,s,h1,h2,h3,h4⟩:=h;exact #[j,s,h1,h2,e _ _ h3,e _ _ h4]
def cg.but {Av:List Addr}{c:Nat}{zs:List V}(k:But p H H')(hp:p∈Av)(hz:H p=some (.lst zs))(h:cg Av H es ps LA c x):cg Av H' es ps LA c x:=by
 obtain ⟨j,s,h1,h2,h3,h4⟩:=h;exact #[j,s,h1,h2,k _ _ (λz=>by rw[z,hz]at h3;cases h3) h3,k _ _ (λz=>h2 (z ▸ hp)) h4]
def cg.less {Av Av':List Addr}{c:Nat}(s:∀ a∈Av',a∈Av)(h:cg Av H es ps LA c x):cg Av' H es ps LA c x:=by
 obtain ⟨j,q,h1,h2,h3,h4⟩:=h;exact #[j,q,h1,λz=>h2 (s _ z),h3,h4]
def BrAt.same {k:Nat}(e:Same H H')(h:BrAt Av H ps LA k x):BrAt Av H' ps LA k x:=by
 obtain ⟨b,o,j,xs,h1,h2,h3,h4,h5,h6,h7⟩:=h;exact #[b,o,j,xs,h1,h2,h3,e _ _ h4,e _ _ h5,e _ _ h6,bX (λa b=>cg.same e) h7]
def BrAt.but {Av:List Addr}{k:Nat}{zs:List V}(kk:But p H H')(hp:p∈Av)(hz:H p=some (.lst zs))(h:BrAt Av H ps LA k x):BrAt Av H' ps LA k x:=by
 obtain ⟨b,o,j,xs,h1,h2,h3,h4,h5,h6,h7⟩:=h;exact #[b,o,j,xs,h1,h2,h3,kk _ _ (λz=>by rw[z,hz]at h4;cases h4) h4,kk _ _ (λz=>h2 (z ▸ hp)) h5,kk _ _ (λz=>h3 (z ▸ hp)) h6,bX (λa b=>cg.but kk hp hz) h7]
def BrAt.less {k:Nat}(h:BrAt Av H ps LA k x):BrAt [] H ps LA k x:=by
 obtain ⟨b,o,j,xs,h1,h2,h3,h4,h5,h6,h7⟩:=h;exact #[b,o,j,xs,h1,nofun,nofun,h4,h5,h6,bX (λa b=>cg.less (λa z=>absurd z dU)) h7]
inductive spBr (K:Frag)(vs:List V)(H:Hp)(Q:VK)(w_1:XK):Prop
 | c:∀(st:Addr) (ps:List Nat) (LA:List (List Int)) (t rs:Addr) (as:List Addr),vs=[.ref st]->eV H st ps LA t rs as->(∀(p:Addr) (xs:List V) (H':Hp),H p=none->Same H H'->H' p=some (.lst xs)->Paired (BrAt [] H' ps LA) (List.range (ps.length+1)) xs->Q (.ref p) H')->spBr K vs H Q w_1
inductive vG (K:Frag)(vs:List V)(H:Hp)(Q:VK)(w_1:XK):Prop
 | c:∀(st:Addr) (ps:List Nat) (LA:List (List Int)) (t rs:Addr) (as:List Addr) (pf:Addr) (qs:List Addr),vs=[.ref t,.ref pf]->eV H st ps LA t rs as->H pf=some (.lst (qs.map V.ref))->bt K H ps LA (List.range (ps.length+1)) qs->(∀(p:Addr) (xs:List V) (H':Hp),H p=none->Same H H'->H' p=some (.lst xs)->Paired (BrAt [] H' ps LA) (List.range (ps.length+1)) xs->Q (.ref p) H')->vG K vs H Q w_1
def Jw (T:Txt K mg)(w9:DF K mg "bridges_of" o6 ql)(wU:FC P w K mg base 1 "children" l7 (rq K))(KM:FC P w K mg base 1 "starts_of" qj (vE K))(KN:FC P w K mg base 1 "owns_of" qi (vC K)):FC P w K mg base 2 "bridges_of" ql (vG K):=by
 refine w9.ok l4 (λvs H Q E h=>?_) (λf cdv A outer s H vs Q E hr h=>?_)
 .obtain ⟨st,ps,LA,t,rs,as,pf,qs,rfl,_⟩:=h;rfl
 obtain ⟨st,ps,LA,t,rs,as,pf,qs,rfl,S,h1,hF,q⟩:=h;refine #[_,(ay (aC (i:=2) l4.nd rfl (ar rfl) (eC ag))
   (ay (bZ PassesOwn.never rfl (tZ rfl T.wd (aa (pv 1) ag)) (gF rfl (cB (aF (i:=3) l4.nd rfl (ar rfl)) (cB (aF (i:=4) l4.nd rfl (dg rfl)) fF))) (ay (il (i:=5) (N:=["child","full","fulls"]) (own:=1) (cap:=[4,1]) l4.nd rfl rfl rfl (du (aG wU hr (aa (pv 0) (aa (pv 3) ag)))) #[rfl,rfl,rfl,rfl,rfl,rfl] (λ_ _ _ _ _=>(aF (i:=0) (show List.Nodup (["child","full","fulls"]:List Str) by decide +kernel) rfl (ar rfl))) (λ_ _ _ _ _=>dI) (λ_ _ _ _ _=>(cC (aa (pv 0) (aa (aG KM hr (aa (pv 1) (aa (aH (bC (K:=K)) (pv 2) (pv 0) (λ_ _=>rfl)) ag))) ag)))))
   (av (dX (dY F.plainAttrs_list F.slot_list_append F.type_list_append dH (pv 2) (aa (cC (aa (aV (bS (K:=K)) rfl T.bQ bJ (aa (pv 4) ag)) (aa (aG KN hr (aa (pv 4) (aa (pv 3) ag))) (aa (pv 5) ag)))) ag))))))
   (av (aN (pv 2))))),?_]
 have hfew:=S.few;have hkeys:=S.keys;have hql:=hF.length;rw[cq]at hql;refine #[(by show 0<=sizeLine;decide),λp hp=>?_];have k0:But p H (upd H p (.lst [])):=λb o n e=>by rw[aj n];exact e
 have npf:pf≠p:=au h1 hp;refine #[_,rfl,pf,rfl,#[_,SqL.of (k0 _ _ npf h1)],?_];refine t6 (xs:=qs.map V.ref) (λi Z H2=>∃(xs:List V) (x4 x5 x6:Option V),Z=[some (.ref t),some (.ref pf),some (.ref p),x4,x5,x6]/\H2 p=some (.lst xs)/\Paired (BrAt [p] H2 ps LA) (List.range i) xs/\But p H H2) ?_ ?_ ?_ ?_
 .exact #[[],_,_,_,rfl,ak,.nil,k0]
 .rintro i Z H2 _ ⟨xs,x4,x5,x6,rfl,_,_,k2⟩;exact SqL.of (k2 _ _ npf h1)
 .rintro i x Z H2 r hx ⟨xs,x4,x5,x6,rfl,h2,hB,k2⟩ hr;rw[bf]at hx;obtain ⟨qq,hqi,rfl⟩:=eZ.mp hx;have hi:i<ps.length+1:=by
   have:=(aM.mp hqi).1;lia
  have hxl:xs.length=i:=by
   have:=Paired.length hB;rw[cq]at this;exact this.symm
  have noP:∀{b:Addr} {o:HO},H b=some o->b≠p:=λe=>au e hp;have s12:Same H H2:=λb o e=>k2 b o (noP e) e;have S2:=S.same s12;have F2:=hF.same s12;have h2f:=s12 _ _ h1;obtain ⟨q2,hq2,ws,hq3,hw3⟩:=F2.get (i:=i) (j:=i) (gC hi);rw[hqi]at hq2;have:=aJ hq2;subst this;refine #[r,_,rfl,SqT.of ak,rfl,_,_,rfl,_,_,rfl,rfl,?_];have sr:=aD hr (.tup [.int (i:Int),.ref qq]);generalize upd H2 r (.tup [.int (i:Int),.ref qq])=H3 at sr ⊢;refine #[_,rfl,_,rfl,t,ps,i,rfl,sr _ _ S2.tr,by lia,λc H4 hc s4 h4=>?_];have s24:Same H2 H4:=sr.trans s4;refine #[c,rfl,#[_,SqL.of h4],λD hD=>?_];have hpD:p≠D:=au (s24 _ _ h2) hD;have F4:=F2.same s24;have h4q:=s24 _ _ hq3;have h4w:=hw3.mono s24.ext;have hfl:=jc S.T S.len (LA:=LA) hi;refine fI (xs:=(aY ps i (ps.length+1)).map nV) (λm Z H5=>∃(ys:List V) (x0:Option V),Z=[x0,some (.ref qq),some (.ref pf)]/\H5 D=some (.lst ys)/\Paired (cg [p,D] H5 (ab ps LA i) ps LA) ((aY ps i (ps.length+1)).take m) ys/\But D H4 H5) ?_ ?_ ?_ ?_
  .exact #[[],_,rfl,ak,.nil,λb o n e=>by rw[aj n];exact e]
  .rintro m Z H5 _ ⟨ys,x0,rfl,_,_,k5⟩;exact k5.sq (SqL.of h4) hD
  .rintro m u x Z H5 hx hm ⟨ys,x0,rfl,h5,hJ,k5⟩;obtain ⟨hmi,rfl⟩:=mz hx;have hcl:=qY ps i (ps.length+1);have hyl:=Paired.length hJ;rw[aT]at hyl;rw[aq]at hm;have hcm:(aY ps i (ps.length+1))[m]?=some ((aY ps i (ps.length+1)).getD m 0):=by
    rw[aE,az hmi];rfl
   have htk2:(aY ps i (ps.length+1)).take (m+1)=(aY ps i (ps.length+1)).take m++[(aY ps i (ps.length+1)).getD m 0]:=by
    rw[cF hmi,aE,az hmi];rfl
   rw[htk2];generalize (aY ps i (ps.length+1)).getD m 0=ch at hcm ⊢;obtain ⟨hchn,hchp⟩:=cO.mp (cy hcm);have s45:Same H4 H5:=λb o e=>k5 b o (au e hD) e;have F5:=F4.same s45;obtain ⟨qc,hqc,wc,hqc3,hwc⟩:=F5.get (i:=ch) (j:=ch) (gC hchn);have hfc:=jc S.T S.len (LA:=LA) hchn;refine fV ?_;refine #[_,rfl,_,rfl,_,rfl,_,rfl,_,_,_,_,rfl,rfl,SqL.of (s45 _ _ (s24 _ _ h2f)),eW hqc,?_];refine #[qq,qc,ws,wc,ab ps LA i,ab ps LA ch,rfl,s45 _ _ h4q,h4w.mono s45.ext,by lia,hqc3,hwc,by lia,vq S.T S.R hchn,λsa H6 hsa s6 h6=>?_];refine #[(by show 2<=sizeLine;decide),λj hj=>?_];have sj:=aD hj (.tup [.int (ch:Int),.ref sa]);have hjj:upd H6 j (.tup [.int (ch:Int),.ref sa]) j=some (.tup [.int (ch:Int),.ref sa]):=ak;generalize upd H6 j (.tup [.int (ch:Int),.ref sa])=H7 at sj hjj ⊢;have s57:=s6.trans sj;have h7D:=s57 _ _ h5;have nsaD:sa≠D:=aS (au h5 hsa);have nsap:sa≠p:=aS (au (s45 _ _ (s24 _ _ h2)) hsa);have kD:But D H7 (upd H7 D (.lst (ys++[.ref j]))):=λb o n e=>by rw[aj n];exact e
   refine #[_,h7D,bh (by lia),u-1,by lia,by rw[aq];lia,ys++[.ref j],_,rfl,ak,?_,λb o n e=>by rw[aj n];exact s57 _ _ (k5 b o n e)];refine iA (bX (λa b h=>cg.but kD (bG _ bx) h7D (cg.same s57 h)) hJ) ?_;refine cg.but kD (bG _ bx) h7D #[j,sa,rfl,?_,hjj,sj _ _ h6];intro z;rcases aW.mp z with z|z
   .exact nsap z
   .exact nsaD (aQ.mp z)
  .rintro Z H5 ⟨ys,x0,rfl,h5,hJ,k5⟩;rw[aq,bu (ai _)]at hJ;have s45:Same H4 H5:=λb o e=>k5 b o (au e hD) e;have s25:=s24.trans s45;refine #[_,rfl,.inl #[rfl,_,SqL.of (s25 _ _ h2)],_,rfl,_,_,rfl,.inl (SqL.of (s45 _ _ h4q)),?_];have hwl:=h4w.length;refine #[_,rfl,_,rfl,qq,ws,ab ps LA i,i,rfl,s45 _ _ h4q,h4w.mono s45.ext,by lia,λo H6 ho s6 h6=>?_];refine #[_,rfl,(by show 3<=sizeLine;decide),λb hb=>?_];have sb:=aD hb (.tup [.int ((ws.length:Nat):Int),.ref o,.ref D]);have hbb:upd H6 b (.tup [.int ((ws.length:Nat):Int),.ref o,.ref D]) b=some (.tup [.int ((ws.length:Nat):Int),.ref o,.ref D]):=ak;generalize upd H6 b (.tup [.int ((ws.length:Nat):Int),.ref o,.ref D])=H7 at sb hbb ⊢;have s57:=s6.trans sb;have s27:=s25.trans s57;have h7p:=s27 _ _ h2;have kp:But p H7 (upd H7 p (.lst (xs++[.ref b]))):=λb o n e=>by rw[aj n];exact e
   have nop:o≠p:=aS (au (s25 _ _ h2) ho);refine #[_,_,_,rfl,rfl,h7p,bh (by lia),?_];refine #[xs++[.ref b],_,_,_,rfl,ak,?_,λb o n e=>by rw[aj n];exact s27 _ _ (k2 b o n e)];rw[fQ];refine iA (bX (λa b h=>BrAt.but kp bx h7p (BrAt.same s27 h)) hB) ?_;refine BrAt.but kp bx h7p #[b,o,D,ys,rfl,λz=>nop (aQ.mp z),λz=>hpD (aQ.mp z).symm,?_,sb _ _ h6,s57 _ _ h5,?_]
   .rw[hbb,hwl]
   .exact bX (λa b h=>cg.same s57 (cg.less (λa z=>by rw[aQ.mp z];exact bx) h)) hJ
 .rintro Z H2 ⟨xs,x4,x5,x6,rfl,h2,hB,k2⟩;refine #[_,rfl,?_];rw[aq,<-hql]at hB;refine q p xs H2 hp (λb o e=>k2 b o (au e hp) e) h2 (bX (λa b=>BrAt.less) hB)
def Jx (T:Txt K mg)(xa:DF K mg "bridges" o7 qm)(KO:FC P w K mg base 8 "full_rows" qh (vy K))(KP:FC P w K mg base 2 "bridges_of" ql (vG K)):FC P w K mg base 9 "bridges" qm (spBr K):=by
 refine xa.ok GW (λvs H Q E h=>?_) (λf cdv A outer s H vs Q E hr h=>?_)
 .obtain ⟨st,ps,LA,t,rs,as,rfl,_⟩:=h;rfl
 obtain ⟨st,ps,LA,t,rs,as,rfl,S,q⟩:=h;refine #[_,(av (aN (aG KP hr (aa (aH (bN (K:=K)) (pv 0) ah (λ_ _=>rfl)) (aa (aG KO hr (aa (pv 0) ag)) ag))))),?_];refine #[_,rfl,_,_,_,_,rfl,rfl,SqT.of S.st,rfl,?_];refine #[_,rfl,st,ps,LA,t,rs,as,rfl,S,λpf qs H1 hpf s1 h1 hqn hqf hpq hF=>?_];exact #[st,ps,LA,t,rs,as,pf,qs,rfl,S.same s1,h1,hF,λp xs H2 hp s2 h2 hB=>q p xs H2 (s1.free hp) (s1.trans s2) h2 hB]
def Jy {LA:List (List Int)}{row:List Int}(h:row∈LA):row.length<=cL LA:=by
 unfold cL
 induction LA with
 | nil=>cases h
 | cons r LA ih=>
  rw[bI,dD];rcases aW.mp h with e|e
  .rw[e];lia
  .have:=ih e;lia
def aL (es:List (Int×Int))(key:Int):Nat:=(es.filter λe=>decide (e.1<key)).length
def Jz {es:List (Int×Int)}{key:Int}{m:Nat}(hm:m<=es.length)(h1:∀ i,i<m->decide ((es.getD i (0,0)).1<key)=true)(h2:∀ i,m<=i->i<es.length->decide ((es.getD i (0,0)).1<key)=false):aL es key=m:=by
 unfold aL
 conv=>lhs;rw[<-fb m es]
 rw[c7,bc];have e1:(es.take m).filter (λe=>decide (e.1<key))=es.take m:=by
  rw[sT];intro x hx;obtain ⟨i,hi,rfl⟩:=dC hx;rw[aT]at hi;have:=h1 i (by lia);rw[aE,az (by lia)]at this;rw[m9];exact this
 have e2:(es.drop m).filter (λe=>decide (e.1<key))=[]:=by
  rw[iP];intro x hx;obtain ⟨i,hi,rfl⟩:=dC hx;rw[eY]at hi;have:=h2 (m+i) (by lia) (by lia);rw[aE,az (by lia)]at this;rw[List.getElem_drop];intro z;rw[show decide (es[m+i].1<key)=false from this]at z;cases z
 rw[e1,e2,aT,kK];lia
def mM (h:Rise es):es.Pairwise (λa b=>a.1<=b.1):=h.imp λ{a b} h=>by
 have:=gk.mp h;lia
def je (es:List (Int×Int))(key:Int):aL es key<=es.length:=dW _ _
def rF {key:Int}:∀{es:List (Int×Int)},es.Pairwise (λa b=>a.1<=b.1)->(∀ e∈es.take (aL es key),e.1<key)/\∀ e∈es.drop (aL es key),¬ e.1<key
 | [],_=>#[λe he=>(by simp at he),λe he=>(by simp at he)]
 | a::es,h=>by
  rw[sJ]at h;obtain ⟨h1,h2⟩:=rF (key:=key) h.2;by_cases c:a.1<key
  .have e:aL (a::es) key=aL es key+1:=by
    unfold aL;rw[dr (by simpa using c),cE]
   rw[e,List.take_succ_cons,List.drop_succ_cons];refine #[λx hx=>?_,h2];rcases aW.mp hx with z|z
   .rw[z];exact c
   .exact h1 x z
  .have all:∀ x∈a::es,¬ x.1<key:=λx hx=>by
    rcases aW.mp hx with z|z
    .rw[z];exact c
    .have:=h.1 x z;lia
   have e:aL (a::es) key=0:=by
    unfold aL;rw[iP.mpr λx hx=>by simpa using all x hx];rfl
   rw[e];exact #[λx hx=>(by simp at hx),λx hx=>all x (by simpa using hx)]
def Cj {es:List (Int×Int)}{key:Int}(h:es.Pairwise (λa b=>a.1<=b.1)):es.take (aL es key)=es.filter λe=>decide (e.1<key):=by
 obtain ⟨h1,h2⟩:=rF (key:=key) h
 conv=>rhs;rw[<-fb (aL es key) es]
 rw[c7,sT.mpr λe he=>aX (h1 e he),iP.mpr λe he z=>h2 e he (bM z),bY]
def vH {es:List (Int×Int)}{key:Int}(h:es.Pairwise (λa b=>a.1<=b.1)){i:Nat}(hi:i<es.length):(i<aL es key->es[i].1<key)/\(aL es key<=i->¬ es[i].1<key):=by
 obtain ⟨h1,h2⟩:=rF (key:=key) h;refine #[λz=>h1 _ ?_,λz=>h2 _ ?_]
 .exact sS.mpr #[i,by lia,rfl]
 .refine List.mem_drop_iff_getElem.mpr #[i-aL es key,by lia,?_];congr 1;lia
structure JA (C F hd:List (Int×Int))(key:Int)(st:Nat):Prop where
 lo:st<=aL C key
 hi:aL C key<=st+2
 none:st=0->∀ e∈hd,¬ e.1<key
 some:st≠0->∃ h:st-1<C.length,C[st-1]∈hd/\C[st-1].1<key/\C[st-1]∈F
def JB (T:aO ps)(R:bP LA)(few:ps.length<=40){k c:Nat}(hk:k<ps.length+1)(hc:par ps c=some k)(key:Int) :
  JA (ab ps LA c) (ab ps LA k) (cf (ab ps LA c)) key (stN (ab ps LA c) ((ab ps LA k).take (aL (ab ps LA k) key))):=by
 have hcn:=(bw T hc).2;have hst:=Cf T R hk hc (LA:=LA) (aL (ab ps LA k) key) (je _ _);have hF:=mM (fq T R hk);have hC:=mM (fq T R hcn);have hcome:=Cb T R hk hc (LA:=LA);have hgr:=λt=>Jr (rB T R few hcn) (fq T R hcn) (t:=t);have hla:=Js (rB T R few hcn) (fq T R hcn);have hsub:=eU (ab ps LA c);have hpick:=Ce (ab ps LA c);have hspl:∀ j∈spL (ab ps LA c),j<(ab ps LA c).length:=λj hj=>by
  have:=(rE (ab ps LA c)).lt hj;rw[jb]at this;exact this
 have ht:inN (ab ps LA c) ((ab ps LA k).take (aL (ab ps LA k) key))=aL (cf (ab ps LA c)) key:=by
  unfold inN;rw[Cj hF,<-hcome];unfold aL;rw[nM,nM];congr 2
  funext e
  rw[Bool.and_comm]
 rw[hst,ht];have hmem:∀ e∈cf (ab ps LA c),e∈ab ps LA k:=λe he=>by
  rw[<-hcome]at he;exact (eJ.mp he).1
 clear hst ht hcome hF;generalize ab ps LA k=F at hmem ⊢;generalize ab ps LA c=C at *;have hhd:(cf C).Pairwise (λa b=>a.1<=b.1):=hC.sublist hsub;have hlen:(cf C).length=(spL C).length:=by rw[hpick,aq]
 have hti:=je (cf C) key;have hat:∀ i (h:i<(spL C).length),∃(h1:(spL C)[i]<C.length) (h2:i<(cf C).length),(cf C)[i]=C[(spL C)[i]]:=λi h=>by
  have h1:=hspl _ (cU h);refine #[h1,by lia,?_];have e:(cf C)[i]?=some C[(spL C)[i]]:=by
   rw[hpick,bf,az h];show some (C.getD (spL C)[i] (0,0))=_;rw[aE,az h1];rfl
  exact (aM.mp e).2
 have bat:=λi h=>vH (key:=key) hhd (i:=i) h;have cat:=λi h=>vH (key:=key) hC (i:=i) h;have hall:=rF (key:=key) hhd;generalize aL (cf C) key=t at *;have hsp:∀ i (h:i<(spL C).length),stAt (spL C) (i+1)=(spL C)[i]+1:=λi h=>by
  unfold stAt;rw[af (by lia),kQ,aE,az h];rfl
 have before:∀ t',t=t'+1->∃(h:t'<(spL C).length) (h1:(spL C)[t']<C.length),stAt (spL C) t=(spL C)[t']+1/\C[(spL C)[t']]∈cf C/\C[(spL C)[t']].1<key:=λt' e=>by
  have h:t'<(spL C).length:=by lia
  obtain ⟨h1,h2,h3⟩:=hat t' h;refine #[h,h1,by rw[e];exact hsp t' h,?_,?_]
  .rw[<-h3];exact cU h2
  .rw[<-h3];exact (bat t' h2).1 (by lia)
 refine #[?_,?_,?_,?_]
 .cases t with
  | zero=>exact bK _
  | succ t'=>
   obtain ⟨h,h1,e,_,hlt⟩:=before t' rfl;rw[e];refine Nat.succ_le_of_lt (e8 λz=>(cat _ h1).2 z hlt)
 .rcases Nat.lt_or_ge t (spL C).length with z|z
  .obtain ⟨h1,h2,h3⟩:=hat t z;have hge:¬ C[(spL C)[t]].1<key:=by
    rw[<-h3];exact (bat t h2).2 (ai _)
   have hle:aL C key<=(spL C)[t]:=cp λy=>hge ((cat _ h1).1 y);have:=hgr t z;rw[hsp t z]at this;lia
  .have e:t=(spL C).length:=by lia
   rw[e];have:=je C key;lia
 .intro z;cases t with
  | zero=>exact λe he=>hall.2 e (by simpa using he)
  | succ t'=>
   obtain ⟨_,_,e,_⟩:=before t' rfl;lia
 .intro z;cases t with
  | zero=>exact absurd rfl z
  | succ t'=>
   obtain ⟨h,h1,e,hm,hlt⟩:=before t' rfl;have e2:stAt (spL C) (t'+1)-1=(spL C)[t']:=by lia
   refine #[by lia,?_];have e3:C[stAt (spL C) (t'+1)-1]'(by lia)=C[(spL C)[t']]:=by
    congr 1
   rw[e3];exact #[hm,hlt,hmem _ hm]
def gw {β:Type}{F:Nat->β->Prop}{n:Nat}{l:List β}{k:Nat}(h:Paired F (List.range n) l)(hk:k<n):∃ b,l[k]?=some b/\F k b:=vF h (gC hk)
def Ck :∀{cs:List Nat} {xs:List V},Paired (cg Av H es ps LA) cs xs->∃ kvs:List (Key×V),Paired (λ(z:V) (kv:Key×V)=>∃ b,z=.ref b/\H b=some (.tup [kV kv.1,kv.2])) xs kvs/\kvs.map (·.1)=cs.map (λc:Nat=>(Sum.inl (c:Int):Key))/\
  ∀ c∈cs,cs.Nodup->∃ s,valV kvs (.inl (c:Int))=some (.ref s)/\H s=some (.lst ((fw es (ab ps LA c)).map nV))
 | _,_,.nil=>#[[],.nil,rfl,λc hc=>nomatch hc]
 | c0::cs,_,.cons ⟨j,s,e1,_,e3,e4⟩ t=>by
  obtain ⟨kvs,h1,h2,h3⟩:=Ck t;refine #[(.inl (c0:Int),.ref s)::kvs,.cons #[j,e1,e3] h1,by rw[bI,h2];rfl,λc hc hn=>?_];rw[dz]at hn;unfold valV;by_cases z:c=c0
  .subst z;exact #[s,by rw[sV (by simp)];rfl,e4]
  .rw[sW (by simp;lia)];rcases aW.mp hc with y|y
   .exact absurd y z
   .exact h3 c y hn.2
def vI (ps:List Nat)(k n:Nat):(aY ps k n).Nodup:=by
 unfold aY;exact List.Pairwise.filter _ kZ
def figN (n:Nat):Nat:=if h:n=0 then 0 else figN (n/2)+1
termination_by n
decreasing_by exact Nat.div_lt_self (eO h) (by decide)
def rG:figN 0=0:=by
 unfold figN;rfl
def mN {n:Nat}(h:n≠0):figN n=figN (n/2)+1:=by
 rw[figN,dif_neg h]
def Cm:∀(n a b:Nat),b<=n->a<=b->figN a<=figN b
 | 0,a,b,hb,ha=>by
  have e1:a=0:=by lia
  have e2:b=0:=by lia
  rw[e1,e2];exact ai _
 | n+1,a,b,hb,ha=>by
  by_cases z:a=0
  .rw[z,rG];exact bK _
  .rw[mN z,mN (show b≠0 by lia)];exact iJ (Cm n _ _ (by lia) (by lia))
def vJ:∀(n m:Nat),m<=n->figN m<=m
 | 0,m,h=>by
  rw[show m=0 by lia,rG];exact ai _
 | n+1,m,h=>by
  by_cases z:m=0
  .rw[z,rG];exact ai _
  .rw[mN z];have:=vJ n (m/2) (by lia);lia
inductive vK (P:Program)(w:World)(K:Frag)(mg:Str->Option Value)(base:Heap)(vs:List V)(H:Hp)(Q:VK)(w_1:XK):Prop
 | c:∀(n:Nat) (f:Addr) (ps:List Str) (sp:Sp) (b:Nat->Bool) (R:List Nat->Hp->Prop),vs=[.int n,.ref f]->FV P w K mg base 3 f ps sp->R [] H->(∀(i:Nat) (L:List Nat) (H1:Hp) (Q1:VK),i<n->L.length<=figN n->R L H1->(∀ H2,R (L++[i]) H2->Q1 (.bl (b i)) H2)->sp [.int i] H1 Q1 E0)->(∀ i j,i<=j->j<n->b j=true->b i=true)->(∀(m:Nat) (L:List Nat) (H':Hp),m<=n->(∀ i,i<m->b i=true)->(∀ i,m<=i->i<n->b i=false)->L.length<=figN n->L.Nodup->(∀ x∈L,x<n)->R L H'->Q (.int m) H')->vK P w K mg base vs H Q w_1
def JC:L2.St->Hp->Nat:=λZ _=>match Z with
 | [_,_,some (.int lo),some (.int hi),_]=>(hi-lo).toNat
 | _=>0
def JD (T:Txt K mg)(xb:DF K mg "how_many_below" oK pX):FC P w K mg base 4 "how_many_below" pX (vK P w K mg base):=by
 refine xb.ok jV (λvs H Q E h=>?_) (λf cdv A outer s H vs Q E hr h=>?_)
 .obtain ⟨n,f,ps,sp,b,R,rfl,_⟩:=h;rfl
 obtain ⟨n,f,ps,sp,b,R,rfl,hF,hR,hask,hmono,q⟩:=h;refine #[_,(ay (aC (i:=2) jV.nd rfl (ar rfl) ah)
   (ay (aC (i:=3) jV.nd rfl (ar rfl) (pv 0))
   (ay (nT PassesOwn.never (bg fS (pv 2) (pv 3) (bz _)) (ay (aC (i:=4) jV.nd rfl (ar rfl) (aw jG (aw bF (pv 2) (pv 3)) ah))
   (av (bR (hG (uv (kr:=3) hr (pv 1) (aa (pv 4) ag))) (av (aC (i:=2) jV.nd rfl (ar rfl) (aw bF (pv 4) ah))) (av (aC (i:=3) jV.nd rfl (ar rfl) (pv 4)))))))
   (av (aN (pv 2)))))),?_]
 refine #[_,rfl,?_];refine zQ (λZ H2=>∃(lo hi:Nat) (x4:Option V) (L:List Nat),Z=[some (.int n),some (.ref f),some (.int lo),some (.int hi),x4]/\lo<=hi/\hi<=n/\(∀ i,i<lo->b i=true)/\(∀ i,hi<=i->i<n->b i=false)/\L.length+figN (hi-lo)<=figN n/\(L.Nodup/\∀ x∈L,x<n/\(x<lo\/hi<=x))/\R L H2) (λZ H2=>∃(lo:Nat) (x4:Option V) (L:List Nat),Z=[some (.int n),some (.ref f),some (.int lo),some (.int lo),x4]/\lo<=n/\(∀ i,i<lo->b i=true)/\(∀ i,lo<=i->i<n->b i=false)/\L.length<=figN n/\(L.Nodup/\∀ x∈L,x<n)/\R L H2) JC ?_ ?_ ?_ ?_
 .exact #[0,n,_,[],rfl,bK _,ai _,λi h=>absurd h (kM _),λi h1 h2=>absurd h2 (g8.mpr h1),by rw[kK,Nat.sub_zero,fD];exact ai _,#[gy,λ_ z=>nomatch z],hR]
 .rintro Z H2 ⟨lo,hi,x4,L,rfl,h1,h2,hb1,hb2,hL,⟨hN,hM⟩,hR2⟩;refine #[_,rfl,_,rfl,_,_,rfl,rfl,_,rfl,?_];refine ite2 (λc=>?_) (λc=>?_)
  .have c1:(lo:Int)<(hi:Int):=bM c;have em:((lo:Int)+(hi:Int))/2=(((lo+hi)/2:Nat):Int):=by lia
   have m1:lo<=(lo+hi)/2:=by lia
   have m2:(lo+hi)/2<hi:=by lia
   have fst:figN (hi-lo)=figN ((hi-lo)/2)+1:=mN (by lia);have fle:∀ d,d<=(hi-lo)/2->(L++[(lo+hi)/2]).length+figN d<=figN n:=λd hd=>by
    have:=Cm _ d _ (ai _) hd;rw[bc,fz];lia
   have hN2:(L++[(lo+hi) / 2]).Nodup:=fP.mpr #[hN,List.pairwise_singleton _ _,λa ha b hb z=>by
    rw[aQ.mp hb]at z;have:=(hM a ha).2;lia]
   have hM2:∀ x∈L++[(lo+hi)/2],x<n/\(x<lo\/hi<=x\/x=(lo+hi)/2):=λx hx=>by
    rcases bp.mp hx with z|z
    .have:=hM x z;lia
    .have:=aQ.mp z;lia
   refine #[_,rfl,_,rfl,_,_,rfl,rfl,_,_,rfl,rfl,#[by decide,by decide],?_];refine #[_,rfl,f,3,ps,sp,rfl,hF,ai _,_,rfl,?_];show sp [V.int (((lo:Int)+(hi:Int))/2)] H2 _ E0;rw[em];refine hask ((lo+hi)/2) L H2 _ (by lia) (by lia) hR2 λH3 hR3=>#[_,rfl,?_];cases hbm:b ((lo+hi)/2) with
   | true=>
    refine iteT ?_;refine #[_,rfl,_,_,rfl,rfl,#[(lo+hi)/2+1,hi,some (V.int (((lo:Int)+(hi:Int))/2)),_,?_,by lia,h2,λi hi'=>hmono i ((lo+hi)/2) (by lia) (by lia) hbm,hb2,fle _ (by lia),#[hN2,λx hx=>by have:=hM2 x hx;lia],hR3],?_]
    .show [some (V.int n),some (V.ref f),some (V.int (((lo:Int)+(hi:Int))/2+1)),some (V.int hi),some (V.int (((lo:Int)+(hi:Int))/2))]=_;rw[em,Int.natCast_add];rfl
    .show ((hi:Int)-(((lo:Int)+(hi:Int))/2+1)).toNat<((hi:Int)-(lo:Int)).toNat;lia
   | false=>
    refine iteF ?_;refine #[_,rfl,#[lo,(lo+hi)/2,some (V.int (((lo:Int)+(hi:Int))/2)),_,?_,m1,by lia,hb1,λi hi' hin=>?_,fle _ (by lia),#[hN2,λx hx=>by have:=hM2 x hx;lia],hR3],?_]
    .show [some (V.int n),some (V.ref f),some (V.int lo),some (V.int (((lo:Int)+(hi:Int))/2)),some (V.int (((lo:Int)+(hi:Int))/2))]=_;rw[em]
    .cases hbi:b i with
     | false=>rfl
     | true=>
      have:=hmono ((lo+hi)/2) i hi' hin hbi;rw[hbm]at this;cases this
    .show ((((lo:Int)+(hi:Int))/2)-(lo:Int)).toNat<((hi:Int)-(lo:Int)).toNat;lia
  .have c1:¬ (lo:Int)<(hi:Int):=iO (iN.mpr c);have e:hi=lo:=by lia
   subst e;exact #[hi,_,L,rfl,h2,hb1,hb2,by lia,#[hN,λx hx=>(hM x hx).1],hR2]
 .intro Z H Q Q' m h;obtain ⟨y1,e3,y2,e4,i2,j2,f2,g2,b2,e5,q⟩:=h;exact #[y1,e3,y2,e4,i2,j2,f2,g2,b2,e5,m _ _ q]
 rintro Z H2 ⟨lo,x4,L,rfl,h2,hb1,hb2,hL,⟨hN,hM⟩,hR2⟩;refine #[_,rfl,?_];exact q lo L H2 h2 hb1 hb2 hL hN hM hR2
abbrev rH:Str:=(envOfC ("first_place" : Str) (aI jT) 0 0 .none).qual ++ "<lambda>"
abbrev rJ:Pos:=#[111,44,111,73]
def JE (xs:List V)(a:Nat):cutV xs none (some (a:Int))=xs.take a:=by
 unfold cutV;rw[iR,show HT.sIx xs.length 0 none=0 from rfl,ny,Nat.sub_zero];by_cases h:a<=xs.length
 .rw[eh h]
 .rw[iI (by lia),bu (ai _),bu (by lia)]
def JF (xs:List V)(a:Nat):cutV xs (some (a:Int)) none=xs.drop a:=by
 unfold cutV;rw[iR,show HT.sIx xs.length xs.length none=xs.length from rfl];by_cases h:a<=xs.length
 .rw[eh h,bu (by rw[eY];exact ai _)]
 .rw[iI (by lia),eN (ai _),eN (show xs.length<=a by lia),List.take_nil]
def ownB (LA:List (List Int))(k:Nat)(key:Int):Nat:=((bU LA k).filter λx=>decide (x<key)).length
def JG (T:aO ps)(R:bP LA){k:Nat}(hk:k<ps.length+1):((ab ps LA k).filter λe=>decide (e.2=(k:Int)))=ownE LA k:=by
 have hup:=R.at_up k;refine vA ((fq T R hk).filter _) ?_ λe=>?_
 .unfold ownE;refine List.Pairwise.map _ (R:=λa b:Int=>a<b) (λa b (h:a<b)=>gk.mpr (.inl h)) hup
 .rw[eJ];refine #[λzq0=>?_,λh=>#[(mK T hk).mpr (.inl h),aX (mJ hk h).2]];obtain ⟨h1,h2⟩:=zq0;rcases (mK T hk).mp h1 with h|⟨c,hc,h⟩
  .exact h
  .exfalso;have h2:=bM h2;have hcn:=(bw T hc);obtain ⟨j,hj,hb,e2,_⟩:=kl T R hcn.2 e ((eU _).subset h);have ej:j=k:=by lia
   subst ej;have:=fm T hcn.1;rw[hb]at this;cases this
def JH (T:aO ps)(R:bP LA){k:Nat}(hk:k<ps.length+1)(key:Int):dO k ((ab ps LA k).take (aL (ab ps LA k) key))=ownB LA k key:=by
 rw[Cj (mM (fq T R hk))];unfold dO;have e:((ab ps LA k).filter λe=>decide (e.1<key)).filter (λe=>decide (e.2=(k:Int)))=(ownE LA k).filter λe=>decide (e.1<key):=by
  rw[<-JG T R hk,nM,nM];congr 1
  funext e
  rw[Bool.and_comm]
 rw[e];unfold ownE ownB;rw[List.filter_map,aq];rfl
def KpV (Av:List Addr)(H H':Hp):Prop:=∀ b o,b∉Av->H b=some o->H' b=some o
def KpA (Av:List Addr)(mp:Addr)(H H':Hp):Prop:=∀ b o,b∉Av->b≠mp->H b=some o->H' b=some o
def KpA.trans (a:KpA Av mp H H1)(b:KpA Av mp H1 H2):KpA Av mp H H2:=λc o n1 n2 h=>b c o n1 n2 (a c o n1 n2 h)
def KpV.a (a:KpV Av H H1):KpA Av mp H H1:=λc o n1 _ h=>a c o n1 h
def KpA.of (a:Same H H1):KpA Av mp H H1:=λc o _ _ h=>a c o h
def KpA.gro (a:Gro mp H H1):KpA Av mp H H1:=λc o _ n h=>a c o n h
structure AskF (P:Program)(w:World)(K:Frag)(mg:Str->Option Value)(base:Heap)(f:Addr)(Av:List Addr)(mp:Addr)(fp:Addr->Prop)(R:List (Nat×Nat)->Hp->Prop)(ps:List Nat)(LA:List (List Int))(key:Int):Prop where
 keep:∀ L H H',R L H->(∀ b o,(fp b\/∃ us,o=HO.tup us)->H b=some o->H' b=some o)->R L H'
 alloc:∀ L H b,R L H->fp b->H b≠none
 avl:∀ L H,R L H->∀ a∈Av,∃ zs,H a=some (.lst zs)
 nmp:¬ fp mp
 ask:∃(pn:List Str) (sp:Sp),FV P w K mg base 2 f pn sp/\∀(kn i:Nat) (L:List (Nat×Nat)) (H:Hp) (Q:VK),kn<ps.length+1->i<(ab ps LA kn).length->L.length<=9000->R L H->
  (∀ H',R (L++[(kn,i)]) H'->KpV Av H H'->Q (.bl (decide (((ab ps LA kn).getD i (0,0)).1<key))) H')->sp [.int kn,.int i] H Q E0
def AskF.lift {w:World}{K:Frag}{mg:Str->Option Value}{f:Addr}{R:List (Nat×Nat)->Hp->Prop}{key:Int}(A:AskF P w K mg b1 f Av mp fp R ps LA key)(S:Sub K mg b1 b2):AskF P w K mg b2 f Av mp fp R ps LA key:=by
 obtain ⟨a,b,c,d,pn,sp,hF,r⟩:=A;exact #[a,b,c,d,pn,sp,hF.lift S,r]
structure bE (Av:List Addr)(mp:Addr)(R:List (Nat×Nat)->Hp->Prop)(ps:List Nat)(LA:List (List Int))(br:Addr)(xs:List V)(L:List (Nat×Nat))(H:Hp):Prop where
 r:R L H
 avs:∀ a∈Av,∃ zs,H a=some (.lst zs)
 at_:H br=some (.lst xs)
 nb:br∉Av
 ba:Paired (BrAt Av H ps LA) (List.range (ps.length+1)) xs
 tb:cW H mp rJ rH
section
variable {Av:List Addr}{mp:Addr}{R:List (Nat×Nat)->Hp->Prop}{ps:List Nat}{LA:List (List Int)}{br:Addr}{xs:List V}{L L':List (Nat×Nat)}{H H':Hp}
def bE.nm (S:bE Av mp R ps LA br xs L H){b:Addr}{o:HO}(h:H b=some o)(n:∀ tab,o≠.tbl tab):b≠mp:=λz=>by
 obtain ⟨tab,e,_⟩:=S.tb.ex;rw[<-z,h]at e;exact n _ (aJ e)
def bE.na (S:bE Av mp R ps LA br xs L H){b:Addr}{o:HO}(h:H b=some o)(n:∀ zs,o≠.lst zs):b∉Av:=λz=>by
 obtain ⟨zs,e⟩:=S.avs b z;rw[h]at e;exact n _ (aJ e)
def bE.tup (S:bE Av mp R ps LA br xs L H)(k:KpA Av mp H H'){b:Addr}{us:List V}(h:H b=some (.tup us)):H' b=some (.tup us):=k _ _ (S.na h nofun) (S.nm h nofun) h
def bE.lst (S:bE Av mp R ps LA br xs L H)(k:KpA Av mp H H'){b:Addr}{us:List V}(h:H b=some (.lst us))(n:b∉Av):H' b=some (.lst us):=k _ _ n (S.nm h nofun) h
def bE.kp (S:bE Av mp R ps LA br xs L H)(k:KpA Av mp H H')(hT:cW H' mp rJ rH)(hR:R L' H')(ha:∀ a∈Av,∃ zs,H' a=some (.lst zs)):bE Av mp R ps LA br xs L' H':=
 #[hR,ha,S.lst k S.at_ S.nb,S.nb,bX (λj x ⟨b,o,j',ys,h1,h2,h3,h4,h5,h6,h7⟩=>#[b,o,j',ys,h1,h2,h3,S.tup k h4,S.lst k h5 h2,S.lst k h6 h3,bX (λc y ⟨a,s,g1,g2,g3,g4⟩=>#[a,s,g1,g2,S.tup k g3,S.lst k g4 g2]) h7]) S.ba,hT]
def bE.tbv (S:bE Av mp R ps LA br xs L H)(k:KpV Av H H'):cW H' mp rJ rH:=by
 obtain ⟨tab,h1,h2,h3⟩:=S.tb.ex;refine #[tab,k _ _ (S.na h1 nofun) h1,h2,?_];rcases h3 with h3|⟨c,h3,h4⟩
 .exact .inl h3
 .exact .inr #[c,h3,k _ _ (S.na h4 nofun) h4]
end
def jf {K:Frag}{H H':Hp}(k:∀ b us,H b=some (.tup us)->H' b=some (.tup us)):∀{es:List (Int×Int)} {ws:List V},aB K H es ws->aB K H' es ws
 | _,_,.nil=>.nil
 | _,_,.cons h t=>by
  refine .cons ?_ (jf k t);obtain ⟨a,x1,x2,rfl,hT,e1,e2⟩:=(show hasP K H _ _ from h);exact #[a,x1,x2,rfl,k _ _ hT,e1,e2]
def bE.free {R:List (Nat×Nat)->Hp->Prop}(S:bE Av mp R ps LA br xs L H1)(k:KpA Av mp H H1){D:Addr}(h:H1 D=none):H D=none/\D∉Av/\D≠mp:=by
 have n1:D∉Av:=λz=>by
  obtain ⟨zs,e⟩:=S.avs D z;rw[h]at e;cases e
 have n2:D≠mp:=λz=>by
  obtain ⟨tab,e,_⟩:=S.tb.ex;rw[<-z,h]at e;cases e
 refine #[?_,n1,n2];cases e:H D with
 | none=>rfl
 | some o=>
  have:=k _ _ n1 n2 e;rw[h]at this;cases this
def JI (T:aO ps)(R:bP LA){k:Nat}(hk:k<ps.length+1)(key:Int):atI ((fZ k (ab ps LA k)).map nV) ((aL (ab ps LA k) key:Nat):Int)=some (.int ((ownB LA k key:Nat):Int)):=by
 have hle:=je (ab ps LA k) key;refine dG ?_;rw[bf];unfold fZ;rw[bf,gC (by lia),<-JH T R hk key];rfl
def rK (n k:Nat)(L:List (Nat×Nat)):Prop:=∃ A:List Nat,L=A.map (λx=>(k,x))/\A.Nodup/\(∀ x∈A,x<n)/\A.length<=figN n
def mO (n k st:Nat)(L:List (Nat×Nat)):Prop:=∃ A:List Nat,L=A.map (λx=>(k,x))/\A.Nodup/\(∀ x∈A,x<n/\(x=st\/x=st+1))/\A.length<=2
inductive vL (P:Program)(w:World)(K:Frag)(mg:Str->Option Value)(base:Heap)(mp:Addr)(vs:List V)(H:Hp)(Q:VK)(w_1:XK):Prop
 | c:∀(br f:Addr) (xs:List V) (ps:List Nat) (LA:List (List Int)) (k:Nat) (key:Int) (Av:List Addr) (fp:Addr->Prop) (R:List (Nat×Nat)->Hp->Prop) (L:List (Nat×Nat)),vs=[.ref br,.int k,.ref f]->AskF P w K mg base f Av mp fp R ps LA key->bE Av mp R ps LA br xs L H->aO ps->bP LA->k<ps.length+1->L.length<=3000->(ab ps LA k).length<=1000->(∀(H':Hp) (L':List (Nat×Nat)),bE Av mp R ps LA br xs (L++L') H'->KpA Av mp H H'->rK (ab ps LA k).length k L'->Q (.int (aL (ab ps LA k) key:Nat)) H')->vL P w K mg base mp vs H Q w_1
def JJ (T:Txt K mg){mc mp:Addr}(rS:DFT K mg "first_place" jT qo mc mp)(hBM:BMAt mg base)(KQ:∀ b,Sub K mg base b->FC P w K mg b 4 "how_many_below" pX (vK P w K mg b)):FC P w K mg base 5 "first_place" qo (vL P w K mg base mp):=by
 refine rS.ok GX (λvs H Q E h=>?_) (λf A outer s H vs Q E hr h=>?_)
 .obtain ⟨br,f,xs,ps,LA,k,key,Av,fp,R,L,rfl,_⟩:=h;rfl
 obtain ⟨br,f,xs,ps,LA,k,key,Av,fp,R,L,rfl,AF,S,hT,hR,hk,hLn,hFn,q⟩:=h;refine #[_,(av (aN (Gb (kf:=2) KQ hr (aH (bN (K:=K)) (aH (bC (K:=K)) (pv 0) (pv 1) (λ_ _=>rfl)) ah (λ_ _=>rfl)) (Ad (osc:=aI jT) (N:=["bridges","knot","is_below"]) (ps:=["at"]) (caps:=["is_below","knot"]) (cap:=[2,1]) #[rfl,rfl,rfl,by decide +kernel,by decide +kernel,by decide +kernel,by decide +kernel] (by decide +kernel) (by decide +kernel) rfl rfl rfl rfl (λ_ _ _ _ us hl=>match us,hl with|[_],_=>rfl) (λ_=>rfl)) rfl rS.hd hBM (λb _ _ _ _ _ _ _ S hr=>(FZ P w K mg b (kr:=2) hr (pv 1) (aa (pv 2) (aa (pv 0) ag))))))),?_]
 obtain ⟨x,hx,b,o,j,ys,rfl,_,_,hb,ho,hj,hJ⟩:=gw S.ba hk;have hF:=mM (fq hT hR hk (LA:=LA));refine #[_,rfl,_,rfl,_,_,_,_,rfl,rfl,SqL.of S.at_,dG hx,_,_,_,_,rfl,rfl,SqT.of hb,rfl,S.tb,[.ref f,.int k],rfl,?_,λbs g c' H2 hg hT2 hC SB hV=>?_]
 .intro j i v h1 h2;rcases j with _|_|j
  .cases h1;cases h2;rfl
  .cases h1;cases h2;rfl
  .cases h1
 obtain ⟨pn,sp,hFV,hask⟩:=(AF.lift SB).ask;have hR2:R L H2:=AF.keep _ _ _ S.r λb o hb e=>hg _ _ (λz=>hb.elim (λhb=>AF.nmp (z ▸ hb)) λ⟨us,hu⟩=>S.nm e (λtab y=>by rw[hu]at y;cases y) z) e
 have S2:bE Av mp R ps LA br xs L H2:=S.kp (.gro hg) hT2 hR2 (AF.avl _ _ hR2);refine #[(ab ps LA k).length,g,_,_,λi=>decide (((ab ps LA k).getD i (0,0)).1<key),λL1 H1=>R (L++L1.map λi=>(k,i)) H1/\KpV Av H2 H1,rfl,hV,#[by rw[jl,bY];exact hR2,λ_ _ _ h=>h],λi L1 H1 Q1 hi hLi hR1 hQ=>?_,λi j hij hj hb=>?_,λm L1 H' hm hb1 hb2 hL hN hM hR1=>?_]
 .refine #[rfl,hR1.2 _ _ (S2.na hC nofun) hC,?_];refine #[_,rfl,f,2,pn,sp,rfl,hFV,ai _,_,rfl,_,rfl,?_];refine hask k i _ H1 _ hk hi (by have:=vJ _ _ (ai (ab ps LA k).length);rw[bc,aq];lia) hR1.1 λH3 hR3 k3=>hQ _ #[?_,λb o n h=>k3 _ _ n (hR1.2 _ _ n h)];rw[bq,<-dq];exact hR3
 .refine aX ?_;have hb:=bM hb;by_cases e:i=j
  .subst e;exact hb
  .have:=cT.mp hF i j (by lia) hj (by lia);rw[aE,az (by lia)]at hb ⊢;exact Int.lt_of_le_of_lt this hb
 .have e:=Jz hm hb1 hb2;have q2:=q H' _ (S2.kp hR1.2.a (S2.tbv hR1.2) hR1.1 (AF.avl _ _ hR1.1)) (KpA.trans (.gro hg) hR1.2.a) #[L1,rfl,hN,hM,hL];rw[e]at q2;exact q2
def Cn {n k st m:Nat}(h1:m<=2)(h2:m=0\/st+m<=n):mO n k st ((List.range' st m).map λx=>(k,x)):=by
 refine #[_,rfl,List.nodup_range',λx hx=>?_,by rw[List.length_range'];exact h1];have:=List.mem_range'_1.mp hx;lia
inductive vM (P:Program)(w:World)(K:Frag)(mg:Str->Option Value)(base:Heap)(mp:Addr)(vs:List V)(H:Hp)(Q:VK)(w_1:XK):Prop
 | c:∀(br f:Addr) (xs:List V) (ps:List Nat) (LA:List (List Int)) (k st:Nat) (key:Int) (Av:List Addr) (fp:Addr->Prop) (R:List (Nat×Nat)->Hp->Prop) (L:List (Nat×Nat)),vs=[.ref br,.int k,.int st,.ref f]->AskF P w K mg base f Av mp fp R ps LA key->bE Av mp R ps LA br xs L H->aO ps->bP LA->k<ps.length+1->L.length<=8000->st<=aL (ab ps LA k) key->aL (ab ps LA k) key<=st+2->(∀(H':Hp) (L':List (Nat×Nat)),bE Av mp R ps LA br xs (L++L') H'->KpA Av mp H H'->mO (ab ps LA k).length k st L'->Q (.int (aL (ab ps LA k) key:Nat)) H')->vM P w K mg base mp vs H Q w_1
def JK (T:Txt K mg)(xc:DF K mg "next_place" o8 qp):FC P w K mg base 3 "next_place" qp (vM P w K mg base mp):=by
 refine xc.ok pS (λvs H Q E h=>?_) (λf cdv A outer s H vs Q E hr h=>?_)
 .obtain ⟨br,f,xs,ps,LA,k,st,key,Av,fp,R,L,rfl,_⟩:=h;rfl
 obtain ⟨br,f,xs,ps,LA,k,st,key,Av,fp,R,L,rfl,AF,S,hT,hR,hk,hLn,hlo,hhi,q⟩:=h;refine #[_,(ay (aC (i:=4) pS.nd rfl (ar rfl) (aV (DA rfl) rfl T.CS boot_min (aa (aw bF (pv 2) (uh rfl T.Kt)) (aa (aH (bN (K:=K)) (aH (bC (K:=K)) (pv 0) (pv 1) (λ_ _=>rfl)) ah (λ_ _=>rfl)) ag))))
   (ay (aC (i:=5) pS.nd rfl (ar rfl) (pv 2))
   (ay (nT PassesOwn.never (PW.pt (lz (bg fS (pv 5) (pv 4) (bz _)) (ly (hG (uv (kr:=2) hr (pv 3) (aa (pv 1) (aa (pv 5) ag))))))) (av (aC (i:=5) pS.nd rfl (ar rfl) (aw bF (pv 5) ah))))
   (av (aN (pv 5)))))),?_]
 obtain ⟨x,hx,b,o,j,ys,rfl,_,_,hb,ho,hj,hJ⟩:=gw S.ba hk;have hF:=mM (fq hT hR hk (LA:=LA));have hle:=je (ab ps LA k) key;have hat:=λi h=>vH (key:=key) hF (i:=i) h;obtain ⟨pn,sp,hFV,hask⟩:=AF.ask;refine #[_,rfl,_,_,rfl,rfl,_,rfl,_,rfl,_,_,_,_,rfl,rfl,SqL.of S.at_,dG hx,_,_,_,_,rfl,rfl,SqT.of hb,rfl,_,_,rfl,?_];have eb:∃ m:Nat,(if (((ab ps LA k).length:Nat):Int)<(st:Int)+2 then (((ab ps LA k).length:Nat):Int) else (st:Int)+2)=(m:Int)/\m<=(ab ps LA k).length/\m<=st+2/\aL (ab ps LA k) key<=m:=by
  by_cases c:(((ab ps LA k).length:Nat):Int)<(st:Int)+2
  .exact #[_,ae c,ai _,by lia,hle]
  .exact #[st+2,by rw[af c];rfl,by lia,ai _,hhi]
 obtain ⟨m,em,hm1,hm2,hm3⟩:=eb;rw[em];refine #[_,rfl,?_];refine #[λn Z H1=>∃(at_:Nat) (L1:List (Nat×Nat)),Z=[some (.ref br),some (.int k),some (.int st),some (.ref f),some (.int m),some (.int at_)]/\st<=at_/\at_<=aL (ab ps LA k) key/\at_+n=m/\L1=(List.range' st (at_-st)).map (λx=>(k,x))/\bE Av mp R ps LA br xs (L++L1) H1/\KpA Av mp H H1,#[m-st,st,[],rfl,ai _,hlo,by lia,by rw[Nat.sub_self];rfl,by rw[bY];exact S,λ_ _ _ _ h=>h],?_];rintro n Z H1 ⟨at_,L1,rfl,h1,h2,h3,h4,S1,k1⟩;refine #[_,rfl,_,rfl,_,_,rfl,rfl,_,rfl,?_];refine ite2 (λc=>?_) (λc=>?_)
 .have c1:(at_:Int)<(m:Int):=bM c;refine #[_,rfl,f,2,pn,sp,rfl,hFV,ai _,_,rfl,_,rfl,?_];have hll:L1.length=at_-st:=by rw[h4,aq,List.length_range']
  refine hask k at_ _ H1 _ hk (by lia) (by rw[bc];lia) S1.r λH2 hR2 k2=>?_;have S2:=S1.kp k2.a (S1.tbv k2) hR2 (AF.avl _ _ hR2);rw[dq]at S2;have k02:KpA Av mp H H2:=k1.trans k2.a;have hL2:L1++[(k,at_)]=(List.range' st (at_+1-st)).map (λx=>(k,x)):=by
   rw[h4,show at_+1-st=at_-st+1 by lia,List.range'_concat,bq];show _=_++[(k,st+1*(at_-st))];rw[show st+1*(at_-st)=at_ by lia]
  have hge:(ab ps LA k).getD at_ (0,0)=(ab ps LA k)[at_]'(by lia):=by
   rw[aE,az (by lia)];rfl
  refine #[_,rfl,?_];refine ite2 (λc2=>?_) (λc2=>?_)
  .have c3:=bM c2;rw[hge]at c3;have hlt:at_<aL (ab ps LA k) key:=e8 λz=>(hat at_ (by lia)).2 z c3;refine #[λZ' H'=>Z'=[some (.ref br),some (.int k),some (.int st),some (.ref f),some (.int m),some (.int ((at_:Int)+1))]/\H'=H2,?_,?_]
   .rintro Z' H' ⟨rfl,rfl⟩;exact #[n-1,by lia,at_+1,_,rfl,by lia,by lia,by lia,hL2,S2,k02]
   .exact #[_,rfl,_,_,rfl,rfl,rfl,rfl]
  .have hge2:aL (ab ps LA k) key<=at_:=cp λz=>c2 (aX (by rw[hge];exact (hat at_ (by lia)).1 z));have e:at_=aL (ab ps LA k) key:=by lia
   refine #[_,rfl,?_];have q2:=q _ _ S2 k02 (by rw[hL2];exact Cn (by lia) (by lia));rwa[<-e]at q2
 .have c1:¬ (at_:Int)<(m:Int):=iO (iN.mpr c);have e:at_=aL (ab ps LA k) key:=by lia
  refine iteF ?_;refine #[_,rfl,?_];have q2:=q _ _ S1 k1 (by rw[h4];exact Cn (by lia) (by lia));rwa[<-e]at q2
def plcB (ps:List Nat)(k0 e j:Nat):Bool:=isB ps k0 j&&(decide (j=k0)||match par ps j with|some p=>decide (p<e)|none=>false)
def JL (T:aO ps):plcB ps k0 e e=isB ps k0 e:=by
 unfold plcB;cases h:isB ps k0 e with
 | false=>rfl
 | true=>
  rw[nN];by_cases c:e=k0
  .rw[aX c];rfl
  .cases hp:par ps e with
   | none=>
    exfalso;have z:e=0:=by
     cases e with
     | zero=>rfl
     | succ e=>
      have hb:=h;unfold isB wayL at hb;unfold wayF at hb;rw[af c,hp]at hb;cases hb
    rw[z]at h c;have:=fm T (show 0<k0 by lia);rw[h]at this;cases this
   | some p=>
    have:=(bw T hp).1;show (decide (e=k0)||decide (p<e))=true;rw[aX this,Bool.or_true]
def JM (T:aO ps){k0 e j:Nat}(hk:k0<=e)(hp:par ps j=some e):isB ps k0 j=isB ps k0 e:=eR T (λz=>by have:=(bw T hp).1;lia) hp
def JN (T:aO ps){k0 e:Nat}(hk:k0<=e)(j:Nat):plcB ps k0 (e+1) j=(plcB ps k0 e j||(isB ps k0 e&&decide (j∈aY ps e (ps.length+1)))):=by
 unfold plcB;cases hp:par ps j with
 | none=>
  have hn:decide (j∈aY ps e (ps.length+1))=false:=bj λz=>by
   rw[(cO.mp z).2]at hp;cases hp
  rw[hn,iG,jA];simp
 | some p=>
  have hm:j∈aY ps e (ps.length+1)↔p=e:=by
   rw[cO,hp];exact #[λz=>aJ z.2,λz=>#[(bw T hp).2,by rw[z]]]
  by_cases c:p=e
  .subst c;rw[aX (hm.mpr rfl),<-JM T hk hp];cases isB ps k0 j<;>simp
  .rw[bj (λz=>c (hm.mp z)),iG,jA];congr 2;show decide (p<e+1)=decide (p<e);exact decide_eq_decide.mpr (by lia)
def vN (T:aO ps)(j:Nat):plcB ps k0 k0 j=decide (j=k0):=by
 unfold plcB;by_cases c:j=k0
 .subst c;rw[ix,aX rfl];rfl
 .rw[bj c,mX];cases hp:par ps j with
  | none=>rw[iG]
  | some p=>
   show (isB ps k0 j&&decide (p<k0))=false;by_cases d:p<k0
   .rw[eR T c hp,fm T d];rfl
   .rw[bj d,iG]
def vO {P:Nat->Bool}{c:Nat}(hc:P c=false):∀{l:List Nat},l.Nodup->c∈l->(l.filter λj=>P j||decide (j=c)).length=(l.filter P).length+1
 | [],_,h=>absurd h dU
 | a::l,hn,h=>by
  rw[dz]at hn;by_cases e:a=c
  .subst e;rw[dr (by simp),eB (by simp[hc]),cE];congr 2;refine lq λj hj=>?_;have:j≠a:=λz=>hn.1 (z ▸ hj);simp[this]
  .have ih:=vO hc hn.2 ((aW.mp h).resolve_left λz=>e z.symm);cases hp:P a with
   | true=>rw[dr (by simp[hp]),dr hp,cE,cE,ih]
   | false=>rw[eB (by simp[hp,e]),eB (by simp[hp]),ih]
def JO {b:Addr}{o':HO}(x:cW H Pt pos q)(hb:H b=some o')(n1:∀ tab,o'≠.tbl tab)(n2:∀ F,o'≠.ext F):cW (upd H b o) Pt pos q:=by
 obtain ⟨tab,h1,h2,h3⟩:=x.ex;have m1:Pt≠b:=λz=>by
  rw[z,hb]at h1;exact n1 _ (aJ h1)
 refine #[tab,by rw[aj m1];exact h1,h2,?_];rcases h3 with h3|⟨c,h3,h4⟩
 .exact .inl h3
 .refine .inr #[c,h3,?_];have m2:c≠b:=λz=>by
   rw[z]at h4;rw[show H b=_ from h4]at hb;exact n2 _ (aJ hb).symm
  show upd H b o c=_;rw[aj m2];exact h4
section
variable {P:Program}{w:World}{K:Frag}{mg:Str->Option Value}{base:Heap}{f:Addr}{Av:List Addr}{mp:Addr}{fp:Addr->Prop}{R:List (Nat×Nat)->Hp->Prop}{ps:List Nat}{LA:List (List Int)}{key:Int}{br:Addr}{xs:List V}{L L5:List (Nat×Nat)}{H H5 H6:Hp}
def bE.put {b:Addr}{o':HO}(AF:AskF P w K mg base f Av mp fp R ps LA key)(S:bE Av mp R ps LA br xs L H)(S5:bE Av mp R ps LA br xs L5 H5)(k:KpA Av mp H H5)(hb:H b=none)(nf:¬ fp b)(h5:H5 b=some o')(n1:∀ tab,o'≠.tbl tab)(n2:∀ F,o'≠.ext F)(n3:∀ us,o'≠.tup us)(o:HO) :
  bE Av mp R ps LA br xs L5 (upd H5 b o)/\KpA Av mp H (upd H5 b o):=by
 have k':KpA Av mp H (upd H5 b o):=λc u m1 m2 e=>by
  rw[aj (au e hb)];exact k _ _ m1 m2 e
 have hR:R L5 (upd H5 b o):=AF.keep _ _ _ S5.r λc u hc e=>by
  have n:c≠b:=λz=>by
   rw[z]at hc e;rcases hc with hc|⟨us,hc⟩
   .exact nf hc
   .rw[h5]at e;exact n3 us ((aJ e).trans hc)
  rw[aj n];exact e
 exact #[S.kp k' (JO S5.tb h5 n1 n2) hR (AF.avl _ _ hR),k']
def bE.more (AF:AskF P w K mg base f Av mp fp R ps LA key)(S5:bE Av mp R ps LA br xs L5 H5)(s:Same H5 H6):bE Av mp R ps LA br xs L5 H6:=by
 have hR:=AF.keep _ _ _ S5.r λb o _ e=>s b o e;exact S5.kp (.of s) (S5.tb.ext s.ext) hR (AF.avl _ _ hR)
end
abbrev stP (ps:List Nat)(LA:List (List Int))(key:Int)(p c:Nat):Nat:=stN (ab ps LA c) ((ab ps LA p).take (aL (ab ps LA p) key))
structure ModB (ps:List Nat)(LA:List (List Int))(key:Int)(k0:Nat)(P:Nat->Bool)(L:List (Nat×Nat)):Prop where
 nd:L.Nodup
 kn:∀ e∈L,P e.1=true/\e.2<(ab ps LA e.1).length
 fst:(L.filter λe=>decide (e.1=k0)).length<=figN (ab ps LA k0).length
 nxt:∀ e∈L,e.1≠k0->∀ p,par ps e.1=some p->e.2=stP ps LA key p e.1\/e.2=stP ps LA key p e.1+1
def rK.len {n k:Nat}(h:rK n k L):L.length<=figN n:=by
 obtain ⟨A,rfl,_,_,h4⟩:=h;rw[aq];exact h4
def mO.len {n k st:Nat}(h:mO n k st L):L.length<=2:=by
 obtain ⟨A,rfl,_,_,h4⟩:=h;rw[aq];exact h4
def Co {k:Nat}{A:List Nat}(h:A.Nodup):(A.map λx=>(k,x)).Nodup:=iM.mpr (h.imp λ{a b} q z=>q (congrArg Prod.snd z))
def ModB.first {key:Int}{k0:Nat}{P:Nat->Bool}{L:List (Nat×Nat)}(hP:P k0=true)(h:rK (ab ps LA k0).length k0 L):ModB ps LA key k0 P L:=by
 have hl:=h.len;obtain ⟨A,rfl,h2,h3,_⟩:=h;refine #[Co h2,λe he=>?_,ax (dW _ _) hl,λe he n=>?_]
 .obtain ⟨x,hx,rfl⟩:=bA.mp he;exact #[hP,h3 x hx]
 .obtain ⟨x,hx,rfl⟩:=bA.mp he;exact absurd rfl n
def ModB.next {key:Int}{c p:Nat}{P P':Nat->Bool}{L':List (Nat×Nat)}(M:ModB ps LA key k0 P L)(hc:P c=false)(nc:c≠k0)(hp:par ps c=some p)(h:mO (ab ps LA c).length c (stP ps LA key p c) L')(hP:∀ j,P' j=(P j||decide (j=c))):ModB ps LA key k0 P' (L++L'):=by
 obtain ⟨A,rfl,h2,h3,_⟩:=h;refine #[fP.mpr #[M.nd,Co h2,λa ha b hb z=>?_],λe he=>?_,?_,λe he n q hq=>?_]
 .obtain ⟨x,hx,rfl⟩:=bA.mp hb;rw[z]at ha;have:=(M.kn _ ha).1;rw[hc]at this;cases this
 .rw[hP];rcases bp.mp he with z|z
  .rw[(M.kn e z).1];exact #[rfl,(M.kn e z).2]
  .obtain ⟨x,hx,rfl⟩:=bA.mp z;exact #[by rw[aX rfl,Bool.or_true],(h3 x hx).1]
 .rw[c7];have e0:(A.map λx=>(c,x)).filter (λe=>decide (e.1=k0))=[]:=iP.mpr λe he z=>by
   obtain ⟨x,hx,rfl⟩:=bA.mp he;exact nc (bM z)
  rw[e0,bY];exact M.fst
 .rcases bp.mp he with z|z
  .exact M.nxt e z n q hq
  .obtain ⟨x,hx,rfl⟩:=bA.mp z;obtain rfl:=aJ (hp.symm.trans hq);exact (h3 x hx).2
def ModB.imp {key:Int}{P P':Nat->Bool}(M:ModB ps LA key k0 P L)(hP:∀ j,P j=true->P' j=true):ModB ps LA key k0 P' L:=#[M.nd,λe he=>#[hP _ (M.kn e he).1,(M.kn e he).2],M.fst,M.nxt]
def ku (H:Hp)(ps:List Nat)(LA:List (List Int))(key:Int)(k:Nat)(z:V):Prop:=∃ t,z=.ref t/\H t=some (.tup [.int (k:Nat),.int ((aL (ab ps LA k) key:Nat):Int),.int ((ownB LA k key:Nat):Int)])
def rL {H H':Hp}{key:Int}{ks:List Nat}{zs:List V}(k:∀ b us,H b=some (.tup us)->H' b=some (.tup us))(h:Paired (ku H ps LA key) ks zs):Paired (ku H' ps LA key) ks zs:=bX (λ_ _ ⟨t,e1,e2⟩=>#[t,e1,k _ _ e2]) h
inductive vP (P:Program)(w:World)(K:Frag)(mg:Str->Option Value)(base:Heap)(mp:Addr)(vs:List V)(H:Hp)(Q:VK)(w_1:XK):Prop
 | c:∀(br f:Addr) (xs:List V) (ps:List Nat) (LA:List (List Int)) (k0:Nat) (key:Int) (Av:List Addr) (fp:Addr->Prop) (R:List (Nat×Nat)->Hp->Prop) (L:List (Nat×Nat)),vs=[.ref br,.int k0,.ref f]->AskF P w K mg base f Av mp fp R ps LA key->bE Av mp R ps LA br xs L H->aO ps->bP LA->ps.length<=40->k0 < ps.length+1->L.length<=1000->(∀ k,k < ps.length+1->(ab ps LA k).length<=1000)->(∀(D:Addr) (zs:List V) (H':Hp) (L':List (Nat×Nat)),bE Av mp R ps LA br xs (L++L') H'->KpA Av mp H H'->H D=none->H' D=some (.lst zs)->Paired (ku H' ps LA key) (benL ps k0 (ps.length+1)) zs->
  L'.length<=figN (ab ps LA k0).length+2*((benL ps k0 (ps.length+1)).length-1)->ModB ps LA key k0 (isB ps k0) L'->Q (.ref D) H')->vP P w K mg base mp vs H Q w_1
def JP (T:Txt K mg)(xf:DF K mg "search_beneath" o9 qr)(KR:FC P w K mg base 5 "first_place" qo (vL P w K mg base mp))(KS:FC P w K mg base 3 "next_place" qp (vM P w K mg base mp)):FC P w K mg base 6 "search_beneath" qr (vP P w K mg base mp):=by
 refine xf.ok jX (λvs H Q E h=>?_) (λf cdv A outer s H vs Q E hr h=>?_)
 .obtain ⟨br,f,xs,ps,LA,k0,key,Av,fp,R,L,rfl,_⟩:=h;rfl
 obtain ⟨br,f,xs,ps,LA,k0,key,Av,fp,R,L,rfl,AF,S,hT,hR,few,hk0,hLn,hFn,q⟩:=h;refine #[_,(ay (aC (i:=3) jX.nd rfl (ar rfl) (yU (og (pv 1) (aG KR hr (aa (pv 0) (aa (pv 1) (aa (pv 2) ag)))) yR) rfl rfl (by simp) (by decide)))
   (ay (aC (i:=4) jX.nd rfl (ar rfl) (eC ag))
   (ay (bZ PassesOwn.never rfl (jC rfl T.de (aa (pv 1) (aa (aV (bS (K:=K)) rfl T.bQ bJ (aa (pv 0) ag)) ag))) (aF (i:=5) jX.nd rfl (ar rfl)) (av (bR (bg (Gp (c9 hr)) (pv 5) (pv 3) (by with_unfolding_all rfl)) (ay (aC (i:=6) jX.nd rfl (ar rfl) (gb (c9 hr) (pv 3) (pv 5) (λ_ _=>rfl)))
   (ay (dX (dY F.plainAttrs_list F.slot_list_append F.type_list_append dH (pv 4) (aa (cC (aa (pv 5) (aa (pv 6) (aa (aH (bC (K:=K)) (aH (bN (K:=K)) (aH (bC (K:=K)) (pv 0) (pv 5) (λ_ _=>rfl)) ah (λ_ _=>rfl)) (pv 6) (λ_ _=>rfl)) ag)))) ag)))
   (av (bZ PassesOwn.never rfl (du (aH (bN (K:=K)) (aH (bC (K:=K)) (pv 0) (pv 5) (λ_ _=>rfl)) ah (λ_ _=>rfl))) (aF (i:=7) jX.nd rfl (ar rfl)) (av (iV (c9 hr) (pv 3) (aH (bN (K:=K)) (pv 7) ah (λ_ _=>rfl)) (aG KS hr (aa (pv 0) (aa (aH (bN (K:=K)) (pv 7) ah (λ_ _=>rfl)) (aa (aH (bC (K:=K)) (aH (bN (K:=K)) (pv 7) ah (λ_ _=>rfl)) (pv 6) (λ_ _=>rfl)) (aa (pv 2) ag))))) rfl)))))) cv)))
   (av (aN (pv 4)))))),?_]
 have hxl:=Paired.length S.ba;rw[cq]at hxl;intro pl hpl;have spl:=aD hpl (.dK []);obtain ⟨_,npA,npm⟩:=S.free (λ_ _ _ _ h=>h) hpl;have nfp:¬ fp pl:=λz=>AF.alloc _ _ _ S.r z hpl;refine #[_,rfl,_,rfl,_,rfl,_,rfl,br,f,xs,ps,LA,k0,key,Av,fp,R,L,rfl,AF,S.more AF spl,hT,hR,hk0,by lia,hFn _ hk0,λH1 L1 S1 k1 hL1=>?_];have hl1:=hL1.len;have h1p:H1 pl=some (.dK []):=k1 _ _ npA npm ak;refine #[h1p,[(.inl (k0:Int),.int ((aL (ab ps LA k0) key:Nat):Int))],rfl,by show 1<=15;decide,?_];have k01:KpA Av mp H H1:=KpA.trans (.of spl) k1;obtain ⟨S2,k02⟩:=bE.put AF S S1 k01 hpl nfp h1p nofun nofun nofun (.dK (fT [] [(.inl (k0:Int),.int ((aL (ab ps LA k0) key:Nat):Int))]));have h2p:upd H1 pl (.dK (fT [] [(.inl (k0:Int),.int ((aL (ab ps LA k0) key:Nat):Int))])) pl=some (.dK [(.inl (k0:Int),.int ((aL (ab ps LA k0) key:Nat):Int))]):=ak;generalize upd H1 pl (.dK (fT [] [(.inl (k0:Int),.int ((aL (ab ps LA k0) key:Nat):Int))]))=H2 at S2 k02 h2p ⊢;refine #[(by show 0<=sizeLine;decide),λD hD=>?_];have sD:=aD hD (.lst []);obtain ⟨hDn,nDA,nDm⟩:=S2.free k02 hD;have nfD:¬ fp D:=λz=>AF.alloc _ _ _ S2.r z hD;have npD:pl≠D:=au h2p hD;have S3:=S2.more AF sD;have k03:KpA Av mp H _:=k02.trans (.of sD);have h3p:=sD _ _ h2p;have h3D:upd H2 D (.lst []) D=some (.lst []):=ak;generalize upd H2 D (.lst [])=H3 at S3 k03 h3p h3D ⊢;refine #[_,rfl,_,rfl,_,_,rfl,.inl (SqL.of S3.at_),k0,_,rfl,#[by lia,by lia,by lia,by lia],?_];have en:(((xs.length:Nat):Int)-(k0:Int)).toNat=ps.length+1-k0:=by lia
 rw[en];refine fg (n:=ps.length+1 - k0) (λi Z H5=>∃(x5 x6 x7:Option V) (kvs:List (Key×V)) (zs:List V) (L5:List (Nat×Nat)),Z=[some (.ref br),some (.int k0),some (.ref f),some (.ref pl),some (.ref D),x5,x6,x7]/\H5 pl=some (.dK kvs)/\(∀ j:Nat,valV kvs (.inl (j:Int))=if plcB ps k0 (k0+i) j=true then some (.int ((aL (ab ps LA j) key:Nat):Int)) else none)/\kvs.length=((List.range (ps.length+1)).filter (plcB ps k0 (k0+i))).length/\
  H5 D=some (.lst zs)/\Paired (ku H5 ps LA key) (benL ps k0 (k0+i)) zs/\bE Av mp R ps LA br xs (L++L5) H5/\KpA Av mp H H5/\L5.length+2<=figN (ab ps LA k0).length+2*kvs.length/\ModB ps LA key k0 (plcB ps k0 (k0+i)) L5) ?_ ?_ ?_
 .refine #[_,_,_,_,[],L1,rfl,h3p,λj=>?_,?_,h3D,?_,S3,k03,by show _<=_+2*1;lia,.first (by rw[fc,vN hT,aX rfl]) hL1]
  .rw[fc,vN hT];unfold valV;by_cases c:j=k0
   .subst c;rw[aX rfl,sV (by simp)];rfl
   .rw[bj c,sW (by simp;lia)];rfl
  .have e:(List.range (ps.length+1)).filter (plcB ps k0 (k0+0))=(List.range (ps.length+1)).filter λj=>(λ_=>false) j||decide (j=k0):=lq λj _=>by rw[fc,vN hT,mX]
   rw[e,vO rfl kZ (cZ.mpr hk0),iP.mpr (λ_ _=>by simp)];rfl
  .have e:benL ps k0 (k0+0)=[]:=iP.mpr λj hj=>by
    have:=cZ.mp hj;rw[fm hT (by lia)];decide
   rw[e];exact .nil
 .rintro i Z H5 hi ⟨x5,x6,x7,kvs,zs,L5,rfl,h5p,hval,hkl,h5D,hTr,S5,k05,hL5,hM5⟩;have ee:(k0:Int)+(i:Int)=((k0+i:Nat):Int):=by lia
  rw[ee];have he:k0+i<ps.length+1:=by lia
  have hke:k0<=k0+i:=by lia
  have hsucc:=JN hT hke;have hself:=JL hT (k0:=k0) (e:=k0+i);have hev:=hval (k0+i);have hbs:benL ps k0 (k0+(i+1))=benL ps k0 (k0+i)++(if isB ps k0 (k0+i)=true then [k0+i] else []):=mj
  have hcn:=vI ps (k0+i) (ps.length+1);have hcm:=λj=>cO (ps:=ps) (k:=k0+i) (n:=ps.length+1) (j:=j);have ec:k0+(i+1)=k0+i+1:=by lia
  rw[ec]at hbs;rw[ec];generalize k0+i=e at *;have hg:=DGet.k (k:=(.inl (e:Int))) h5p;rw[hev,hself]at hg;refine #[_,rfl,_,rfl,pl,_,rfl,hg,_,rfl,?_];cases hB:isB ps k0 e with
  | false=>
   refine iteF ?_;refine #[_,_,_,kvs,zs,L5,rfl,h5p,λj=>?_,?_,h5D,?_,S5,k05,hL5,hM5.imp λj hj=>by rw[hsucc j,hj];rfl]
   .rw[hval j,hsucc j,hB,Bool.false_and,jA]
   .rw[hkl];congr 1;exact lq λj _=>by rw[hsucc j,hB,Bool.false_and,jA]
   .rw[hbs,hB,af (by decide),bY];exact hTr
  | true=>
   rw[hB]at hg hbs;rw[ae rfl]at hg hbs;refine iteT ?_;refine #[_,rfl,_,rfl,pl,_,rfl,hg,?_];obtain ⟨x,hx,b,o,jj,ys,rfl,_,njA,hb,ho,hj,hJ⟩:=gw S5.ba he;have hzl:=Paired.length hTr;have hbl:=mn ps k0 e;refine #[_,rfl,.inl #[rfl,_,SqL.of h5D],_,rfl,_,rfl,_,rfl,_,rfl,_,_,_,_,rfl,rfl,SqL.of S5.at_,dG hx,_,_,_,_,rfl,rfl,SqT.of hb,rfl,_,rfl,_,_,_,_,rfl,rfl,SqL.of ho,JI hT hR he key,(by show 3<=sizeLine;decide),λt ht=>?_];have s6:=aD ht (.tup [.int (e:Int),.int ((aL (ab ps LA e) key:Nat):Int),.int ((ownB LA e key:Nat):Int)]);have S6:=S5.more AF s6;have k06:KpA Av mp H _:=k05.trans (.of s6);have h6t:upd H5 t (.tup [.int (e:Int),.int ((aL (ab ps LA e) key:Nat):Int),.int ((ownB LA e key:Nat):Int)]) t=_:=ak;have h6D:=s6 _ _ h5D;have h6p:=s6 _ _ h5p;have hTr6:=rL (λb us h=>s6 b _ h) hTr;have h6b:=s6 _ _ hb;have h6j:=s6 _ _ hj;have hJ6:=bX (λ_ _ h=>cg.same s6 h) hJ;generalize upd H5 t (.tup [.int (e:Int),.int ((aL (ab ps LA e) key:Nat):Int),.int ((ownB LA e key:Nat):Int)])=H6 at S6 k06 h6t h6D h6p hTr6 h6b h6j hJ6 ⊢;refine #[_,_,_,rfl,rfl,h6D,bh (by lia),?_];obtain ⟨S7,k07⟩:=bE.put AF S S6 k06 hDn nfD h6D nofun nofun nofun (.lst (zs++[.ref t]));have nD:∀{x:Addr} {us:List V},H6 x=some (.tup us)->x≠D:=λ{x us} h z=>by
    rw[z,h6D]at h;cases h
   have hTr7:Paired (ku (upd H6 D (.lst (zs++[.ref t]))) ps LA key) (benL ps k0 (e+1)) (zs++[.ref t]):=by
    rw[hbs];exact iA (rL (λb us h=>by rw[aj (nD h)];exact h) hTr6) #[t,rfl,by rw[aj (nD h6t)];exact h6t]
   have h7D:upd H6 D (.lst (zs++[.ref t])) D=some (.lst (zs++[.ref t])):=ak;have h7p:upd H6 D (.lst (zs++[.ref t])) pl=some (.dK kvs):=by rw[aj npD];exact h6p
   generalize upd H6 D (.lst (zs++[.ref t]))=H7 at S7 k07 hTr7 h7D h7p ⊢;clear hJ6 h6j h6b hTr6 h6p h6D h6t k06 S6 s6 ht hJ hj hb ho hx;obtain ⟨x,hx,b,o,jj,ys,rfl,_,njA,hb,ho,hj,hJ⟩:=gw S7.ba he;have hyl:=Paired.length hJ;have hcl:=qY ps e (ps.length+1);refine #[_,rfl,_,rfl,_,_,_,_,rfl,rfl,SqL.of S7.at_,dG hx,_,_,_,_,rfl,rfl,SqT.of hb,rfl,jj,rfl,#[_,SqL.of hj],?_];have npj:jj≠pl:=λz=>by
    rw[z,h7p]at hj;cases hj
   refine jF (xs:=ys) (λm Z H8=>∃(x7:Option V) (kvs:List (Key×V)) (L8:List (Nat×Nat)),Z=[some (.ref br),some (.int k0),some (.ref f),some (.ref pl),some (.ref D),some (.int e),some (.int ((aL (ab ps LA e) key:Nat):Int)),x7]/\H8 pl=some (.dK kvs)/\(∀ j:Nat,valV kvs (.inl (j:Int))=if (plcB ps k0 e j || decide (j∈(aY ps e (ps.length+1)).take m))=true then some (.int ((aL (ab ps LA j) key:Nat):Int)) else none)/\kvs.length=((List.range (ps.length+1)).filter λj=>plcB ps k0 e j || decide (j∈(aY ps e (ps.length+1)).take m)).length/\
    bE Av mp R ps LA br xs (L++L8) H8/\KpA Av mp H H8/\L8.length+2<=figN (ab ps LA k0).length+2*kvs.length/\ModB ps LA key k0 (λj=>plcB ps k0 e j||decide (j∈(aY ps e (ps.length+1)).take m)) L8/\∀ b o,b∉Av->b≠mp->b≠pl->H7 b=some o->H8 b=some o) ?_ ?_ ?_ ?_
   .refine #[_,kvs,L5,rfl,h7p,λj=>?_,?_,S7,k07,hL5,hM5.imp λj hj=>by rw[hj];rfl,λ_ _ _ _ _ h=>h]
    .rw[hval j];simp
    .rw[hkl];simp
   .rintro m Z H8 _ ⟨x7,kvs,L8,rfl,_,_,_,_,_,_,_,k78⟩;exact SqL.of (k78 _ _ njA (S7.nm hj nofun) npj hj)
   .rintro m x Z H8 hxm ⟨x7,kvs,L8,rfl,h8p,hval8,hkl8,S8,k08,hL8,hM8,k78⟩;obtain ⟨c,hc,a,sa,rfl,nsA,ha,hsa⟩:=gQ hJ hxm;have hmi:=(aM.mp hc).1;have hcm2:=(hcm c).mp (cy hc);have hpar:=hcm2.2;have hec:=(bw hT hpar).1;have npt:∀{x:Addr} {us:List V},H7 x=some (.tup us)->x≠pl:=λ{x us} h z=>by
     rw[z,h7p]at h;cases h
    have h8a:=k78 _ _ (S7.na ha nofun) (S7.nm ha nofun) (npt ha) ha;have h8s:=k78 _ _ nsA (S7.nm hsa nofun) (λz=>by rw[z,h7p]at hsa;cases hsa) hsa
    have NO:=JB hT hR few he hpar (LA:=LA) key;have hle:=je (ab ps LA e) key;have hat:atI ((fw (ab ps LA e) (ab ps LA c)).map nV) ((aL (ab ps LA e) key:Nat):Int)=some (nV (stN (ab ps LA c) ((ab ps LA e).take (aL (ab ps LA e) key)))):=dG (by
     rw[bf];unfold fw;rw[bf,gC (by lia)];rfl)
    have hno:(plcB ps k0 e c||decide (c∈(aY ps e (ps.length+1)).take m))=false:=by
     have h1:plcB ps k0 e c=false:=by
      unfold plcB;rw[hpar,bj (show ¬ c=k0 by lia)];show (isB ps k0 c&&(false||decide (e<e)))=false;rw[bj (dQ _),jA,iG]
     have h2:decide (c∈(aY ps e (ps.length+1)).take m)=false:=bj λz=>by
      obtain ⟨i',hi',hi2⟩:=dC z;rw[aT]at hi';rw[m9]at hi2;have h3:=(aM.mp hc).2;exact cT.mp hcn i' m (by lia) hmi (by lia) (hi2.trans h3.symm)
     rw[h1,h2];rfl
    have hnone:=hval8 c;rw[hno,af (by decide)]at hnone;refine #[_,rfl,_,rfl,_,_,_,_,rfl,rfl,SqT.of h8a,rfl,_,rfl,_,_,_,_,rfl,rfl,SqT.of h8a,rfl,_,rfl,_,_,_,_,rfl,rfl,SqL.of h8s,hat,_,rfl,br,f,xs,ps,LA,c,_,key,Av,fp,R,_,rfl,AF,S8,hT,hR,hcm2.1,(by have:=vJ _ _ (ai (ab ps LA k0).length);have:=hFn _ hk0;have h9:kvs.length<=ps.length+1:=by { rw[hkl8];exact ax (dW _ _) (by rw[cq];exact ai _) };rw[bc];lia),NO.lo,NO.hi,λH9 L9 S9 k9 hL9=>?_];have hl9:=hL9.len;have k09:=k08.trans k9;have h9p:=k9 _ _ npA npm h8p;have h9a:=S8.tup k9 h8a;have hkl9:kvs.length<=ps.length+1:=by
     rw[hkl8];exact ax (dW _ _) (by rw[cq];exact ai _)
    obtain ⟨S10,k010⟩:=bE.put AF S S9 k09 hpl nfp h9p nofun nofun nofun (.dK (putK kvs (.inl (c:Int)) (.int ((aL (ab ps LA c) key:Nat):Int))));refine #[_,rfl,_,rfl,_,_,_,_,rfl,rfl,SqT.of h9a,rfl,pl,_,rfl,DPut.k (k:=.inl (c:Int)) h9p (bh (by lia)),?_];have htk:(aY ps e (ps.length+1)).take (m+1)=(aY ps e (ps.length+1)).take m++[c]:=by
     rw[cF hmi,(aM.mp hc).2]
    have hor:∀ j,(plcB ps k0 e j||decide (j∈(aY ps e (ps.length+1)).take (m+1)))=((plcB ps k0 e j||decide (j∈(aY ps e (ps.length+1)).take m))||decide (j=c)):=λj=>by
     rw[htk,Bool.or_assoc];congr 1;simp
    refine #[_,_,L8++L9,rfl,ak,λj=>?_,?_,by rw[<-dq];exact S10,k010,?_,hM8.next hno (by lia) hpar hL9 hor,λb o n1 n2 n3 h=>?_]
    .rw[D7,hor j];by_cases z:j=c
     .subst z;rw[ae rfl,aX rfl,Bool.or_true,ae rfl]
     .rw[af (λy=>z (by have:=Sum.inl.inj y;lia)),hval8 j,bj z,jA]
    .rw[iS _ hnone,bc,fz,hkl8];have e2:((List.range (ps.length+1)).filter λj=>plcB ps k0 e j||decide (j∈(aY ps e (ps.length+1)).take (m+1)))=(List.range (ps.length+1)).filter λj=>(λj=>plcB ps k0 e j||decide (j∈(aY ps e (ps.length+1)).take m)) j||decide (j=c):=lq λj _=>hor j;rw[e2,vO (P:=λj=>plcB ps k0 e j||decide (j∈(aY ps e (ps.length+1)).take m)) hno kZ (cZ.mpr hcm2.1)]
    .rw[iS _ hnone,bc,bc,fz];lia
    .rw[aj n3];exact k9 _ _ n1 n2 (k78 _ _ n1 n2 n3 h)
   .rintro Z H8 ⟨x7,kvs,L8,rfl,h8p,hval8,hkl8,S8,k08,hL8,hM8,k78⟩;rw[bu (by lia)]at hkl8;refine #[_,_,_,kvs,_,L8,rfl,h8p,λj=>?_,?_,k78 _ _ nDA nDm (aS npD) h7D,?_,S8,k08,hL8,hM8.imp λj hj=>?_]
    .rw[hval8 j,bu (by lia),hsucc j,hB,nN]
    .rw[hkl8];congr 1;exact lq λj _=>by rw[hsucc j,hB,nN]
    .exact rL (λb us h=>k78 _ _ (S7.na h nofun) (S7.nm h nofun) (λz=>by rw[z,h7p]at h;cases h) h) hTr7
    .rw[bu (by lia)]at hj;rw[hsucc j,hB,nN];exact hj
 rintro Z H5 ⟨x5,x6,x7,kvs,zs,L5,rfl,h5p,hval,hkl,h5D,hTr,S5,k05,hL5,hM5⟩;have en2:k0+(ps.length+1-k0)=ps.length+1:=by lia
 rw[en2]at hTr hkl hM5;refine #[_,rfl,q D zs H5 L5 S5 k05 hDn h5D hTr ?_ (hM5.imp λj hj=>(Bool.and_eq_true_iff.mp hj).1)];have hle:((List.range (ps.length+1)).filter (plcB ps k0 (ps.length+1))).length<=(benL ps k0 (ps.length+1)).length:=by
  unfold benL;rw[<-List.countP_eq_length_filter,<-List.countP_eq_length_filter];refine List.countP_mono_left λj _ hj=>?_;unfold plcB at hj;exact (Bool.and_eq_true_iff.mp hj).1
 lia
def Kp0 (H H':Hp):Prop:=∀ b o,(∀ tab,o≠.tbl tab)->H b=some o->H' b=some o
def Cp {K:Frag}(k:Kp0 H H'):∀{es:List (Int×Int)} {ws:List V},aB K H es ws->aB K H' es ws
 | _,_,.nil=>.nil
 | _,_,.cons h t=>by
  refine .cons ?_ (Cp k t);obtain ⟨a,x1,x2,rfl,hT,e1,e2⟩:=(show hasP K H _ _ from h);exact #[a,x1,x2,rfl,k _ _ nofun hT,e1,e2]
def Cq {K:Frag}{js:List Nat}{qs:List Addr}(k:Kp0 H H')(h:bt K H ps LA js qs):bt K H' ps LA js qs:=bX (λj q ⟨ws,h1,h2⟩=>#[ws,k _ _ (λ_ z=>by cases z) h1,Cp k h2]) h
def Cr {Z:L2.St}{H:Hp}{Q:Bool->Hp->Prop}(h:Q true H):tYes Z H Q:=h
def Kp0.trans (a:Kp0 H H1)(b:Kp0 H1 H2):Kp0 H H2:=λc o n h=>b c o n (a c o n h)
def Kp0.of (a:Same H H1):Kp0 H H1:=λc o _ h=>a c o h
def Kp0.tup {H H1:Hp}(a:Kp0 H H1){b:Addr}{us:List V}(h:H b=some (.tup us)):H1 b=some (.tup us):=a _ _ nofun h
def Kp0.lst {H H1:Hp}(a:Kp0 H H1){b:Addr}{us:List V}(h:H b=some (.lst us)):H1 b=some (.lst us):=a _ _ nofun h
def JQ (s:LS K L d H)(g:Kp0 H H'):LS K L d H':=by
 obtain ⟨ns,a,l,e,q⟩:=s.ex;refine #[ns,a,l,g _ _ nofun e,?_];rcases q with (q|⟨o,q⟩)|q
 .exact .inl (.inl (g _ _ nofun q))
 .exact .inl (.inr #[o,g _ _ nofun q])
 .exact .inr q
def Cs {LA:List (List Int)}{r:List Int}(h:r∈LA):r.length<=cL LA:=by
 unfold cL
 induction LA with
 | nil=>cases h
 | cons a l ih=>
  rw[bI,dD];rcases aW.mp h with z|z
  .rw[z];lia
  .have:=ih z;lia
def Ct {LA:List (List Int)}{k:Nat}(h:k<LA.length):bU LA k∈LA:=by
 unfold bU;rw[aE,az h];exact cU h
def JR (T:Txt K mg)(xh:DF K mg "_law_beneath" pO qL):FC P w K mg base 1 "_law_beneath" qL (mI K):=by
 refine xh.ok uO (λvs H Q E h=>?_) (λf cdv A outer s H vs Q E hr h=>?_)
 .obtain ⟨t,ps,k,rfl,_⟩:=h;rfl
 obtain ⟨t,ps,k,rfl,ht,hT,hk,hz,q⟩:=h;refine #[_,(ay (aC (i:=2) uO.nd rfl (ar rfl) (eC (aa (pv 1) ag)))
   (ay (bZ PassesOwn.never rfl (jC rfl T.de (aa (aw bF (pv 1) ah) (aa (aV (bS (K:=K)) rfl T.bQ bJ (aa (pv 0) ag)) ag))) (aF (i:=3) uO.nd rfl (ar rfl)) (av (bR (bg (zR (K:=K)) (aH (bN (K:=K)) (pv 0) (pv 3) (λ_ _=>rfl)) (pv 2) (by with_unfolding_all rfl)) (av (dX (dY F.plainAttrs_list F.slot_list_append F.type_list_append dH (pv 2) (aa (pv 3) ag)))) cv)))
   (av (aN (pv 2))))),?_]
 refine #[_,rfl,(by show 1<=sizeLine;decide),λp hp=>?_];have k0:But p H (upd H p (.lst [.int (k:Int)])):=λb o n e=>by rw[aj n];exact e
 have ntp:t≠p:=au ht hp;refine #[_,rfl,_,_,rfl,rfl,_,rfl,_,_,rfl,.inr (SqT.of (k0 _ _ ntp ht)),_,_,rfl,#[by lia,by lia,by lia,by rw[cK];lia],?_];have en:((((bO ps).length:Nat):Int)-((k:Int)+1)).toNat=ps.length-k:=by rw[cK];lia
 rw[en];refine fg (n:=ps.length-k) (λi Z H3=>∃ x3:Option V,Z=[some (.ref t),some (.int k),some (.ref p),x3]/\H3 p=some (.lst ((benL ps k (k+1+i)).map nV))/\But p H H3) ?_ ?_ ?_
 .refine #[_,rfl,?_,k0];rw[ak,fc,Bv hT];rfl
 .rintro i Z H3 hi ⟨x3,rfl,h3,k3⟩;have ek:(k:Int)+1+(i:Int)=((k+1+i:Nat):Int):=by lia
  rw[ek];have hj:k+1+i<ps.length+1:=by lia
  have hj1:1<=k+1+i:=by lia
  have hjk:k+1+i≠k:=by lia
  have ei:k+1+(i+1)=k+1+i+1:=by lia
  rw[ei];generalize k+1+i=j at h3 hj hj1 hjk ⊢;obtain ⟨u,hu⟩:=qW hj1 hj;have h3t:=k3 _ _ ntp ht;have hat:=mH hj;rw[kh hu]at hat;have hlen:=mn ps k j;refine #[_,rfl,_,rfl,_,_,_,_,rfl,rfl,SqT.of h3t,hat,_,rfl,_,_,rfl,.inl (SqL.of h3),rfl,rf _,_,rfl,?_];show if inV (.int (u:Int)) ((benL ps k j).map nV)=true then _ else _
  rw[rg];have hB:isB ps k j=isB ps k u:=eR hT hjk hu;have hult:=(bw hT hu).1;refine ite2 (λc=>?_) (λc=>?_)
  .have c':isB ps k u=true:=(fo.mp (bM c)).2;refine #[_,rfl,.inl #[rfl,_,SqL.of h3],_,rfl,_,_,_,rfl,rfl,h3,bh (by rw[aq];lia),?_];refine #[_,rfl,?_,λb o n e=>by rw[aj n];exact k3 b o n e];rw[ak,mj,hB,ae c',bq];rfl
  .have c':¬ isB ps k u=true:=λz=>c (aX (fo.mpr #[hult,z]));refine #[_,rfl,?_,k3];rw[h3,mj,hB,af c',bY]
 .rintro Z H3 ⟨x3,rfl,h3,k3⟩;refine #[_,rfl,?_];rw[show k+1+(ps.length-k)=ps.length+1 by lia]at h3;exact q p H3 hp (λb o e=>k3 b o (au e hp) e) h3
def accL (ps:List Nat)(LA:List (List Int)):Nat->Nat->List En
 | 0,j=>ownE LA j
 | i+1,j=>accL ps LA i j++(if par ps (ps.length-i)=some j then cf (ab ps LA (ps.length-i)) else [])
def vQ (T:aO ps){e:En}:∀ i,i<=ps.length->(e∈accL ps LA i j↔e∈ownE LA j\/∃ c,ps.length-i<c/\par ps c=some j/\e∈cf (ab ps LA c))
 | 0,_=>by
  unfold accL;constructor
  .exact .inl
  .rintro (h|⟨c,h1,h2,_⟩)
   .exact h
   .have:=(bw T h2).2;lia
 | i+1,hi=>by
  unfold accL;rw[bp,vQ T i (by lia)];constructor
  .rintro ((h|⟨c,h1,h2,h3⟩)|h)
   .exact .inl h
   .exact .inr #[c,by lia,h2,h3]
   .by_cases z:par ps (ps.length-i)=some j
    .rw[ae z]at h;exact .inr #[_,by lia,z,h]
    .rw[af z]at h;cases h
  .rintro (h|⟨c,h1,h2,h3⟩)
   .exact .inl (.inl h)
   .by_cases z:c=ps.length-i
    .subst z;rw[ae h2];exact .inr h3
    .exact .inl (.inr #[c,by lia,h2,h3])
def Cu (T:aO ps)(R:bP LA){j:Nat}(hj:j<ps.length+1):∀ i,i<=ps.length->(accL ps LA i j).Nodup
 | 0,_=>BU R j
 | i+1,hi=>by
  unfold accL;have ih:=Cu T R hj i (by lia);by_cases z:par ps (ps.length-i)=some j
  .rw[ae z,fP];have hc:=(bw T z).2;refine #[ih,(vq T R hc).sublist (eU _),λa ha b hb hab=>?_];subst hab;obtain ⟨u,_,g2,g3,_⟩:=kl T R hc a ((eU _).mem hb);rcases (vQ T i (by lia)).mp ha with h|⟨c,h1,h2,h3⟩
   .have:=(mJ hj h).2;have:u=j:=by lia
    subst this;rw[fm T (bw T z).1]at g2;cases g2
   .obtain ⟨v,_,f2,f3,_⟩:=kl T R (bw T h2).2 a ((eU _).mem h3);have:u=v:=by lia
    subst this;exact mq T h2 z (by lia) u u (ai _) f2 g2
  .rw[af z,bY];exact ih
def vR (T:aO ps)(R:bP LA){k:Nat}(hk:k<ps.length+1):dJ (accL ps LA (ps.length-k) k)=ab ps LA k:=by
 refine vA (ue (Cu T R hk _ (by lia))) (fq T R hk) λe=>?_;rw[oA,vQ T _ (by lia),mK T hk];constructor
 .rintro (h|⟨c,_,h2,h3⟩)
  .exact .inl h
  .exact .inr #[c,h2,h3]
 .rintro (h|⟨c,h2,h3⟩)
  .exact .inl h
  .exact .inr #[c,by have:=(bw T h2).1;lia,h2,h3]
def Cv {j:Nat}(i:Nat):∀ d,(accL ps LA i j).length<=(accL ps LA (i+d) j).length
 | 0=>ai _
 | d+1=>by
  refine ax (Cv i d) ?_;show _<=(accL ps LA (i+d) j++_).length;rw[bc];lia
def JS (T:aO ps)(R:bP LA)(hl:LA.length=ps.length+1){i j:Nat}(hj:j<ps.length+1)(hi:i<=ps.length-j):(accL ps LA i j).length<=cL LA:=by
 obtain ⟨d,hd⟩:∃ d,ps.length-j=i+d:=#[ps.length-j-i,by lia];have h:=vR T R hj;rw[hd]at h;have h2:=congrArg List.length h;rw[oB]at h2;exact ax (Cv i d) (by rw[h2];exact jc T hl hj)
def valL (ps:List Nat)(LA:List (List Int))(i j:Nat):List En:=if ps.length-i<j then ab ps LA j else accL ps LA i j
structure FA (K:Frag)(H:Hp)(p:Addr)(qs:List Addr)(n:Nat)(f:Nat->List En):Prop where
 at_:H p=some (.lst (qs.map V.ref))
 len:qs.length=n
 nd:qs.Nodup
 np:p∉qs
 get:∀(j:Nat) (q:Addr),qs[j]?=some q->∃ ws,H q=some (.lst ws)/\aB K H (f j) ws
section
variable {K:Frag}{H H':Hp}{p:Addr}{qs:List Addr}{n:Nat}{f g:Nat->List En}
def FA.ext (h:FA K H p qs n f)(e:Ext H H'):FA K H' p qs n f:=
 #[e _ _ h.at_ (λ_ z=>nomatch z),h.len,h.nd,h.np,λj q hq=>by
  obtain ⟨ws,h1,h2⟩:=h.get j q hq;exact #[ws,e _ _ h1 nofun,h2.mono e]]
def FA.congr (h:FA K H p qs n f)(e:∀ j,j<n->f j=g j):FA K H p qs n g:=
 #[h.at_,h.len,h.nd,h.np,λj q hq=>by
  rw[<-e j (by have:=(aM.mp hq).1;have:=h.len;lia)];exact h.get j q hq]
def FA.set (h:FA K H p qs n f){k:Nat}{q':Addr}{l:List En}{ws:List V}(hq:H q'=some (.lst ws))(hw:aB K H l ws)(hn:q'∉qs)(hp:q'≠p):FA K (upd H p (.lst ((qs.map V.ref).set k (.ref q')))) p (qs.set k q') n (λj=>if j=k then l else f j):=by
 refine #[?_,by rw[mV];exact h.len,?_,λz=>?_,λj q hj=>?_]
 .rw[ak,jz]
 .show List.Pairwise _ _;rw[cT];intro i j hi hj hij;rw[mV]at hi hj;rw[List.getElem_set,List.getElem_set];have old:=cT.mp h.nd i j hi hj hij;split
  .rw[af (by lia)];exact λz=>hn (z ▸ cU hj)
  .split
   .exact λz=>hn (z ▸ cU hi)
   .exact old
 .rcases lx z with y|y
  .exact h.np y
  .exact hp y.symm
 .rw[lg]at hj;show ∃ ws,_/\aB K _ (if j=k then l else f j) ws
  by_cases c:k=j
  .rw[ae c]at hj;by_cases c2:k<qs.length
   .rw[ae c2]at hj;have:=aJ hj;subst this;rw[ae c.symm];exact #[ws,by rw[aj hp];exact hq,d7 h.at_ hw]
   .rw[af c2]at hj;cases hj
  .rw[af c]at hj;rw[af (λz=>c z.symm)];obtain ⟨us,h1,h2⟩:=h.get j q hj;have hqp:q≠p:=λz=>h.np (by rw[<-z];exact cy hj);exact #[us,by rw[aj hqp];exact h1,d7 h.at_ h2]
def FA.put (h:FA K H p qs n f){k:Nat}{q:Addr}{ws:List V}{e:En}{x:V}(hk:qs[k]?=some q)(hq:H q=some (.lst ws))(hx:Rep.has K H e x):FA K (upd H q (.lst (ws++[x]))) p qs n (λj=>if j=k then f j++[e] else f j):=by
 have hqp:p≠q:=λz=>h.np (z ▸ cy hk);refine #[by rw[aj hqp];exact h.at_,h.len,h.nd,h.np,λj q2 hj=>?_];obtain ⟨us,h1,h2⟩:=h.get j q2 hj;show ∃ ws,_/\aB K _ (if j=k then f j++[e] else f j) ws
 by_cases c:j=k
 .subst c;rw[hk]at hj;have:=aJ hj;subst this;rw[hq]at h1;cases h1
  rw[ae rfl];exact #[_,ak,(d7 hq h2).append (d7 hq (.one hx))]
 .rw[af c];have hne:q2≠q:=λz=>by
   subst z;obtain ⟨i1,e1⟩:=aM.mp hj;obtain ⟨i2,e2⟩:=aM.mp hk;have old:=cT.mp h.nd;rcases Nat.lt_or_gt_of_ne c with z|z
   .exact old j k i1 i2 z (e1.trans e2.symm)
   .exact old k j i2 i1 z (e2.trans e1.symm)
  exact #[us,by rw[aj hne];exact h1,d7 hq h2]
def FA.at (h:FA K H p qs n f){k:Nat}(hk:k<n):∃ q ws,qs[k]?=some q/\H q=some (.lst ws)/\aB K H (f k) ws:=by
 have e:qs[k]?=some (qs[k]'(by have:=h.len;lia)):=az _;obtain ⟨ws,h1,h2⟩:=h.get k _ e;exact #[_,ws,e,h1,h2]
end
inductive vS (K:Frag)(vs:List V)(H:Hp)(Q:VK)(w_1:XK):Prop
 | c:∀(t r:Addr) (ps:List Nat) (LA:List (List Int)) (as:List Addr),vs=[.ref t,.ref r]->H t=some (.tup (bO ps))->H r=some (.tup (as.map V.ref))->bV H as LA->LA.length=ps.length+1->aO ps->bP LA->ps.length<=40->cL LA<=400->(∀(p:Addr) (qs:List Addr) (H':Hp),H p=none->Same H H'->FA K H' p qs (ps.length+1) (ab ps LA)->(∀ q∈qs,H q=none)->Q (.ref p) H')->vS K vs H Q w_1
def JT (T:Txt K mg)(xi:DF K mg "_law_fulls" pF qC)(KU:FC P w K mg base 2 "_law_marks" qB (mE K)):FC P w K mg base 3 "_law_fulls" qC (vS K):=by
 refine xi.ok j5 (λvs H Q E h=>?_) (λf cdv A outer s H vs Q E hr h=>?_)
 .obtain ⟨t,r,ps,LA,as,rfl,_⟩:=h;rfl
 obtain ⟨t,r,ps,LA,as,rfl,ht,hr0,hA,hlen,hT,hR,hfew,hkeys,q⟩:=h;refine #[_,(cP (FH "_law_k" (i:=2) (N:=["_law_k","_law_rows_here"]) (own:=1) (cap:=[1]) j5.nd rfl rfl rfl (ff rfl T.de (aa (aV (bS (K:=K)) rfl T.bQ bJ (aa (pv 0) ag)) ag)) #[rfl,rfl,rfl,rfl,rfl,rfl,rfl] (λ_ _ _ _ _=>(aF (i:=0) (show List.Nodup (["_law_k","_law_rows_here"]:List Str) by decide +kernel) rfl (dg rfl))) (λ_ _ _ _ _=>dI) (λ_ _ _ _ _=>(d4 (N:=["_law_key_here","_law_k"]) (own:=1) (cap:=[0]) rfl (FD (K:=K) (aH (bN (K:=K)) (pv 1) (pv 0) (λ_ _=>rfl))) #[rfl,rfl,rfl,rfl,rfl,rfl] (λ_ _ _ _ _=>(aF (i:=0) (show List.Nodup (["_law_key_here","_law_k"]:List Str) by decide +kernel) rfl (ar rfl))) (λ_ _ _ _ _=>dI) (λ_ _ _ _ _=>(cC (aa (pv 0) (aa (pv 1) ag)))))))
   (cP (bZ PassesOwn.never rfl (FM rfl T.de (aa (aw dv (aV (bS (K:=K)) rfl T.bQ bJ (aa (pv 0) ag)) ah) (aa ah (aa (hW hZ ah) ag)))) (aF (i:=3) j5.nd rfl (ar rfl)) (cP (gG (aV (oC (Int×Int)) rfl T.rR boot_sorted (aa (aH (bC (K:=K)) (pv 2) (pv 3) (λ_ _=>rfl)) ag)) (jB (pv 2) (pv 3) jI))
   (cP (aC (i:=4) j5.nd rfl (ar rfl) (aH (bN (K:=K)) (pv 0) (pv 3) (λ_ _=>rfl)))
   (av (bZ PassesOwn.never rfl (t7 rfl T.wg (aa (aH (bC (K:=K)) (pv 2) (pv 3) (λ_ _=>rfl)) (aa (aG KU hr (aa (aH (bC (K:=K)) (pv 2) (pv 3) (λ_ _=>rfl)) ag)) ag))) (gF rfl (cB (aF (i:=5) j5.nd rfl (ar rfl)) (cB (aF (i:=6) j5.nd rfl (ar rfl)) fF))) (av (bR (hG (pv 6)) (av (dX (dY F.plainAttrs_list F.slot_list_append F.type_list_append dH (aH (bC (K:=K)) (pv 2) (pv 4) (λ_ _=>rfl)) (aa (pv 5) ag)))) cv)))))))
   (cP (gG (aV (oC (Int×Int)) rfl T.rR boot_sorted (aa (aH (bC (K:=K)) (pv 2) ah (λ_ _=>rfl)) ag)) (jB (pv 2) ah jI))
   (av (aN (pv 2)))))),?_]
 intro N0 n0;have el:((((bO ps).length:Nat):Int)).toNat=ps.length+1:=by rw[cK,fN]
 refine #[_,rfl,_,_,rfl,.inr (SqT.of ht),_,rfl,by lia,by rw[cK];lia,λD hD=>?_];rw[el];refine jQ (n:=ps.length+1) (λi Z H2=>∃(qs:List Addr) (x0:Option V),Z=[x0,some (.ref r)]/\FA K H2 D qs i (ownE LA)/\(∀ q∈qs,H q=none)/\But D H H2) ?_ ?_ ?_
 .exact #[[],_,rfl,#[ak,rfl,gy,nofun,λj q e=>by simp at e],(λq z=>nomatch z),λb o n e=>by rw[aj n];exact e]
 .rintro i m Z H2 hm hi ⟨qs,x0,rfl,h2,hqs,k2⟩;rw[fE];have s2:Same H H2:=λb o e=>k2 b o (au e hD) e;obtain ⟨b,hb1,hb2⟩:=(hA.ext s2).get (k:=i) (by rw[hlen];exact hi);refine fV ?_;refine #[_,rfl,_,rfl,_,_,_,_,rfl,rfl,SqT.of (s2 _ _ hr0),eW hb1,b,rfl,#[_,SqT.of hb2],λD3 hD3=>?_];refine lT (xs:=(bU LA i).map V.int) (λm Z H5=>∃(us:List V) (x0:Option V),Z=[x0,some (.int i)]/\H5 D3=some (.lst us)/\aB K H5 ((ownE LA i).take m) us/\But D3 H2 H5) ?_ ?_ ?_ ?_
  .exact #[[],_,rfl,ak,.nil,λb o n e=>by rw[aj n];exact e]
  .rintro m Z H5 _ ⟨us,x0,rfl,_,_,k5⟩;exact SqT.of (k5 _ _ (au hb2 hD3) hb2)
  .rintro j m' x Z H5 hx hm' ⟨us,x0,rfl,h5,hw5,k5⟩;rw[bf]at hx;obtain ⟨y,hy,rfl⟩:=eZ.mp hx;have hlow:=(aM.mp hy).1;have htk3:(ownE LA i).take (j+1)=(ownE LA i).take j++[(y,(i:Int))]:=by
    unfold ownE;rw[<-g9,<-g9,cF hlow,bq];rw[(aM.mp hy).2];rfl
   have hul:=hw5.length;rw[aT]at hul;rw[aq]at hm';have hrl:(bU LA i).length<=cL LA:=by
    refine Jy ?_;unfold bU;rw[aE,az (show i<LA.length by lia)];exact cU _
   refine fV ?_;refine #[_,rfl,_,rfl,(by show 2<=sizeLine;decide),λu hu=>?_];have su:=aD hu (.tup [.int y,.int (i:Int)]);have h6:=su _ _ h5;have hut:upd H5 u (.tup [.int y,.int (i:Int)]) u=some (.tup [.int y,.int (i:Int)]):=ak;have k6:=k5.new' hu (.tup [.int y,.int (i:Int)]);have hw6:=hw5.mono su.ext;generalize upd H5 u (.tup [.int y,.int (i:Int)])=H6 at su h6 hut k6 hw6 ⊢;refine #[_,h6,bh (by lia),m'-1,by lia,by rw[aq];lia,us++[.ref u],_,rfl,ak,?_,λb o n e=>by rw[aj n];exact k6 b o n e];rw[htk3];exact (d7 h6 hw6).append (d7 h6 (.cons #[u,.int y,.int (i:Int),rfl,hut,rfl,rfl] .nil))
  rintro Z H5 ⟨us,x0,rfl,h5,hw5,k5⟩;rw[aq,bu (by unfold ownE;rw[aq];exact ai _)]at hw5;have s5:Same H2 H5:=λx o e=>k5 x o (au e hD3) e;have F5:=h2.ext s5.ext;have hqn:D3∉qs:=λz=>by
   obtain ⟨j,hj,e⟩:=dC z;obtain ⟨ws,w1,_⟩:=h2.get j D3 (by rw[az hj,e]);rw[hD3]at w1;cases w1
  have hDD:D3≠D:=λz=>by
   have:=h2.at_;rw[<-z,hD3]at this;cases this
  have hql:=h2.len;refine #[_,F5.at_,bh (by rw[aq];lia),m-1,by lia,by lia,qs++[D3],_,rfl,#[?_,by rw[bc,fz,hql],?_,?_,?_],?_,?_]
  .rw[ak,bq];rfl
  .rw[fP];refine #[h2.nd,dz.mpr #[nofun,gy],λa ha b hb e=>?_];rw[aQ.mp hb]at e;exact hqn (e ▸ ha)
  .intro z;rcases bp.mp z with y|y
   .exact h2.np y
   .exact hDD (aQ.mp y).symm
  .intro j q0 hj;by_cases c:j<qs.length
   .rw[gS c]at hj;obtain ⟨ws,w1,w2⟩:=F5.get j q0 hj;have hne:q0≠D:=λz=>h2.np (by rw[<-z];exact cy hj);exact #[ws,by rw[aj hne];exact w1,d7 F5.at_ w2]
   .rw[fM (by lia)]at hj;have hj0:j-qs.length=0:=by
     have:=(aM.mp hj).1;rw[fz]at this;lia
    rw[hj0]at hj;have:=aJ (show some D3=some q0 from hj);subst this;have:j=i:=by lia
    subst this;exact #[us,by rw[aj hDD];exact h5,d7 F5.at_ hw5]
  .intro q0 hq0;rcases bp.mp hq0 with y|y
   .exact hqs q0 y
   .rw[aQ.mp y];exact s2.free hD3
  .exact λb o n e=>by
    rw[aj n];exact s5 _ _ (k2 b o n e)
 rintro Z H2 ⟨qs,x0,rfl,F2,hqs2,k2⟩;refine n0 _ _ ?_;intro N1 n1;have s2:Same H H2:=λb o e=>k2 b o (au e hD) e;have hD0:=hD;clear k2;have F0:FA K H2 D qs (ps.length+1) (valL ps LA 0):=F2.congr λj hj=>by
  unfold valL accL;rw[af (by lia)]
 clear F2;have h2t:=s2 _ _ ht;refine #[_,rfl,_,_,rfl,.inr (SqT.of h2t),_,_,rfl,rfl,?_];refine #[_,rfl,_,_,rfl,#[by rw[cK];lia,by rw[cK];lia,by lia,by lia],?_];have en:((((bO ps).length:Nat):Int)-1-0).toNat=ps.length:=by rw[cK];lia
 rw[en];refine FN (n:=ps.length) (λi Z H3=>∃(qs:List Addr) (x3 x4 x5 x6:Option V),Z=[some (.ref t),some (.ref r),some (.ref D),x3,x4,x5,x6]/\FA K H3 D qs (ps.length+1) (valL ps LA i)/\(∀ q∈qs,H q=none)/\Same H H3) ?_ ?_ ?_
 .exact #[qs,_,_,_,_,rfl,F0,hqs2,s2]
 .rintro i Z H3 hi ⟨qs,x3,x4,x5,x6,rfl,F3,hqs,s3⟩;have ek:(((bO ps).length:Nat):Int)-1-(i:Int)=((ps.length-i:Nat):Int):=by rw[cK];lia
  rw[ek];have eI:i=ps.length-(ps.length-i):=by lia
  obtain ⟨k,hk⟩:∃ k,k=ps.length-i:=#[_,rfl];rw[<-hk]at eI ⊢;refine BA λN B R hN hB hR'=>?_;intro N2 n2;have hkn:k<ps.length+1:=by lia
  have hk1:1<=k:=by lia
  obtain ⟨q0,ws,hq0,hq1,hq2⟩:=F3.at hkn;have ev:valL ps LA i k=accL ps LA i k:=by
   unfold valL;rw[af (by lia)]
  rw[ev]at hq2;have hfl:=ax (jc hT hlen hkn (LA:=LA)) hkeys;refine #[_,rfl,_,rfl,_,_,_,_,rfl,rfl,SqL.of F3.at_,eW hq0,q0,ws,_,rfl,SqL.of hq1,hq2,λl us hl hus=>?_];have hsort:dJ (accL ps LA i k)=ab ps LA k:=by
   rw[eI];exact vR hT hR hkn
  rw[hsort]at hus;have sl:=aD hl (.lst us);have F4:=F3.ext sl.ext;have hl4:upd H3 l (.lst us) l=some (.lst us):=ak;have hus4:=hus.mono sl.ext;have s4:=s3.trans sl;have hlq:l∉qs:=λz=>by
   obtain ⟨j,hj,e⟩:=dC z;obtain ⟨ws,w1,_⟩:=F3.get j l (by rw[az hj,e]);rw[hl]at w1;cases w1
  have hlD:l≠D:=λz=>by
   have:=F3.at_;rw[<-z,hl]at this;cases this
  have hl0:H l=none:=s3.free hl;clear sl;generalize upd H3 l (.lst us)=H4 at F4 hl4 hus4 s4 ⊢;refine #[_,rfl,_,rfl,_,_,_,k,rfl,rfl,F4.at_,kg (by rw[aq,F4.len];exact hkn),n2 _ _ ?_];intro N3 n3;have F5:=F4.set (k:=k) hl4 hus4 hlq hlD;have hl5:upd H4 D (.lst ((qs.map V.ref).set k (.ref l))) l=some (.lst us):=by rw[aj hlD];exact hl4
  have hus5:aB K (upd H4 D (.lst ((qs.map V.ref).set k (.ref l)))) (ab ps LA k) us:=d7 F4.at_ hus4;have s5:Same H (upd H4 D (.lst ((qs.map V.ref).set k (.ref l)))):=λb o e=>by
   rw[aj (au e hD)];exact s4 _ _ e
  have hqs5:∀ q∈qs.set k l,H q=none:=λq hq=>by
   rcases lx hq with y|y
   .exact hqs q y
   .rw[y];exact hl0
  have hqk:(qs.set k l)[k]?=some l:=by
   rw[lg,ae rfl,ae (by rw[F4.len];exact hkn)]
  generalize upd H4 D (.lst ((qs.map V.ref).set k (.ref l)))=H5 at F5 hl5 hus5 s5 ⊢;generalize qs.set k l=qs' at F5 hqs5 hqk ⊢;obtain ⟨u,hu⟩:=qW (ps:=ps) (k:=k) (by lia) hkn;have hlt:=(bw hT hu).1;refine #[_,rfl,_,rfl,_,_,_,_,rfl,rfl,SqT.of (s5 _ _ ht),mH hkn,?_];rw[kh hu];refine n3 _ _ ?_;refine #[_,rfl,_,rfl,_,_,_,_,rfl,rfl,SqL.of F5.at_,eW hqk,?_];refine #[_,rfl,_,rfl,_,_,_,_,rfl,rfl,SqL.of F5.at_,eW hqk,?_];refine #[l,us,ab ps LA k,rfl,hl5,hus5,by lia,rB hT hR (by lia) hkn,fq hT hR hkn,λpm H6 hpm s6 h6=>?_];refine #[l,pm,rfl,#[_,SqL.of (s6 _ _ hl5)],#[_,SqL.of h6],?_];have hul:=hus5.length;have hml:=jb (ab ps LA k);have F6:=F5.ext s6.ext;have s06:=s5.trans s6;have hl6:=s6 _ _ hl5;have hus6:=hus5.mono s6.ext;have hpmq:pm∉qs':=λz=>by
   obtain ⟨j,hj,e⟩:=dC z;obtain ⟨ws,w1,_⟩:=F5.get j pm (by rw[az hj,e]);rw[hpm]at w1;cases w1
  have F6':FA K H6 D qs' (ps.length+1) (λj=>if j=u then accL ps LA i u++cG ((ab ps LA k).take 0) ((cx (ab ps LA k)).take 0) else if j=k then ab ps LA k else valL ps LA i j):=F6.congr λj hj=>by
   show (if j=k then _ else _)=_
   by_cases c:j=u
   .subst c;rw[ae rfl,af (by lia)];unfold valL;rw[af (by lia)];show _=_++[];rw[bY]
   .rw[af c]
  clear F5 F6;refine Fk (xs:=us) (ys:=(cx (ab ps LA k)).map V.bl) (by rw[aq,hml];exact hul.symm) (λm Z H7=>∃ x5 x6:Option V,Z=[some (.ref t),some (.ref r),some (.ref D),some (.int k),some (.int u),x5,x6]/\FA K H7 D qs' (ps.length+1) (λj=>if j=u then accL ps LA i u++cG ((ab ps LA k).take m) ((cx (ab ps LA k)).take m) else if j=k then ab ps LA k else valL ps LA i j)/\H7 l=some (.lst us)/\aB K H7 (ab ps LA k) us/\H7 pm=some (.lst ((cx (ab ps LA k)).map V.bl))/\Same H H7) ?_ ?_ ?_ ?_
  .exact #[_,_,rfl,F6',hl6,hus6,h6,s06]
  .rintro m Z H7 _ ⟨x5,x6,rfl,F7,hl7,hus7,hm7,s7⟩;exact #[SqL.of hl7,SqL.of hm7]
  .rintro m x y Z H7 rr hx hy ⟨x5,x6,rfl,F7,hl7,hus7,hm7,s7⟩ hrr;obtain ⟨e,he,hex⟩:=hus7.get hx;rw[bf]at hy;obtain ⟨b,hb,rfl⟩:=eZ.mp hy;have hme:=(aM.mp he).1;have hmb:=(aM.mp hb).1;have tke:(ab ps LA k).take (m+1)=(ab ps LA k).take m++[e]:=by rw[cF hme,(aM.mp he).2]
   have tkb:(cx (ab ps LA k)).take (m+1)=(cx (ab ps LA k)).take m++[b]:=by rw[cF hmb,(aM.mp hb).2]
   have hhs:cG ((ab ps LA k).take (m+1)) ((cx (ab ps LA k)).take (m+1))=cG ((ab ps LA k).take m) ((cx (ab ps LA k)).take m)++(if b=true then [e] else []):=by
    rw[tke,tkb];exact vm (by rw[aT,aT];lia)
   rw[hhs];have sr:=aD hrr (.tup [x,.bl b]);refine #[rr,_,rfl,SqT.of ak,rfl,_,_,rfl,_,_,rfl,rfl,?_];refine HU λN4 B4 R4 hN4 hB4 hR4=>?_;have F8:=F7.ext sr.ext;have hl8:=sr _ _ hl7;have hus8:=hus7.mono sr.ext;have hm8:=sr _ _ hm7;have s8:=s7.trans sr;have hex8:=Rep.mono sr.ext hex;clear sr F7 hl7 hus7 hm7 s7 hex;generalize upd H7 rr (.tup [x,.bl b])=H8 at F8 hl8 hus8 hm8 s8 hex8 ⊢;refine #[_,rfl,b,rfl,?_];cases b with
   | false=>
    refine iteF ?_;refine hN4 _ _ #[_,_,rfl,?_,hl8,hus8,hm8,s8];rw[af cm,bY];exact F8
   | true=>
    refine iteT ?_;obtain ⟨qu,wu,hqu,hqu1,hqu2⟩:=F8.at (k:=u) (by lia);have hqu2:aB K H8 (accL ps LA i u++cG ((ab ps LA k).take m) ((cx (ab ps LA k)).take m)) wu:=by
     have z:=hqu2;rw[ae rfl]at z;exact z
    have hwl:=hqu2.length;have hal:=ax (JS hT hR hlen (i:=i) (j:=u) (by lia) (by lia)) hkeys;have hhl:=BK ((ab ps LA k).take m) ((cx (ab ps LA k)).take m);rw[aT]at hhl;rw[bc]at hwl;have hlu:l≠qu:=λz=>by
     subst z;obtain ⟨i1,e1⟩:=aM.mp hqk;obtain ⟨i2,e2⟩:=aM.mp hqu;exact cT.mp F8.nd u k i2 i1 hlt (e2.trans e1.symm)
    have hpu:pm≠qu:=λz=>hpmq (by rw[z];exact cy hqu);have hu0:=hqs5 qu (cy hqu);have F9:=F8.put hqu hqu1 hex8;refine #[_,rfl,_,rfl,_,_,_,_,rfl,rfl,SqL.of F8.at_,eW hqu,.inl #[rfl,_,SqL.of hqu1],_,rfl,_,_,_,rfl,rfl,hqu1,bh (by lia),?_];refine hN4 _ _ #[_,_,rfl,F9.congr λj hj=>?_,by rw[aj hlu];exact hl8,d7 hqu1 hus8,by rw[aj hpu];exact hm8,λb o e=>by rw[aj (au e hu0)];exact s8 _ _ e];show (if j=u then (if j=u then _ else _)++[e] else (if j=u then _ else _))=_
    by_cases c:j=u
    .rw[ae c,ae c,ae c,ae rfl,dq]
    .rw[af c,af c,af c]
  rintro Z H7 ⟨x5,x6,rfl,F7,hl7,hus7,hm7,s7⟩;refine hN _ _ #[qs',_,_,_,_,rfl,F7.congr λj hj=>?_,hqs5,s7];rw[<-hul,bu (ai _),bu (by rw[hml];exact ai _)];unfold valL;have e1:ps.length-(i+1)=k-1:=by lia
  have e2:ps.length-i=k:=by lia
  have eacc:accL ps LA (i+1) j=accL ps LA i j++(if par ps k=some j then cf (ab ps LA k) else []):=by
   rw[accL,e2]
  rw[e1,e2,eacc,hu];by_cases c:j=u
  .subst c;rw[ae rfl,af (by lia),ae rfl];rfl
  .rw[af c];by_cases c2:j=k
   .rw[ae c2,ae (by lia),c2]
   .rw[af c2];by_cases c3:k<j
    .rw[ae c3,ae (by lia)]
    .rw[af c3,af (by lia),af (λz=>c (aJ z).symm),bY]
 rintro Z H3 ⟨qs,x3,x4,x5,x6,rfl,F3,hqs,s3⟩;refine n1 _ _ ?_;intro N5 n5;obtain ⟨q0,ws,hq0,hq1,hq2⟩:=F3.at (k:=0) (by lia);have ev:valL ps LA ps.length 0=accL ps LA ps.length 0:=by
  unfold valL;rw[af (by lia)]
 rw[ev]at hq2;refine #[_,rfl,_,_,_,_,rfl,rfl,SqL.of F3.at_,eW hq0,q0,ws,_,rfl,SqL.of hq1,hq2,λl us hl hus=>?_];have hsort:dJ (accL ps LA ps.length 0)=ab ps LA 0:=vR hT hR (k:=0) (by lia);rw[hsort]at hus;have sl:=aD hl (.lst us);have F4:=F3.ext sl.ext;have hl4:upd H3 l (.lst us) l=some (.lst us):=ak;have hus4:=hus.mono sl.ext;have s4:=s3.trans sl;have hlq:l∉qs:=λz=>by
  obtain ⟨j,hj,e⟩:=dC z;obtain ⟨ws,w1,_⟩:=F3.get j l (by rw[az hj,e]);rw[hl]at w1;cases w1
 have hlD:l≠D:=λz=>by
  have:=F3.at_;rw[<-z,hl]at this;cases this
 have hl0:H l=none:=s3.free hl;clear sl;generalize upd H3 l (.lst us)=H4 at F4 hl4 hus4 s4 ⊢;refine #[_,rfl,_,_,_,0,rfl,rfl,F4.at_,kg (k:=0) (by rw[aq,F4.len];exact dR _),n5 _ _ ?_];refine #[_,rfl,?_];refine q D (qs.set 0 l) _ hD0 (λb o e=>by rw[aj (au e hD)];exact s4 _ _ e) ((F4.set (k:=0) hl4 hus4 hlq hlD).congr λj hj=>?_) λq hq=>?_
 .show (if j=0 then _ else _)=_
  by_cases c:j=0
  .rw[ae c,c]
  .rw[af c];unfold valL;rw[ae (by lia)]
 .rcases lx hq with y|y
  .exact hqs q y
  .rw[y];exact hl0
inductive vT (K:Frag)(vs:List V)(H:Hp)(Q:VK)(w_1:XK):Prop
 | c:∀(n:Nat),vs=[.int n]->Q (.int (figN n:Nat)) H->vT K vs H Q w_1
def JU (T:Txt K mg)(xj:DF K mg "_law_figures" pK qH):FC P w K mg base 1 "_law_figures" qH (vT K):=by
 refine xj.ok pU (λvs H Q E h=>?_) (λf cdv A outer s H vs Q E hr h=>?_)
 .obtain ⟨n,rfl,_⟩:=h;rfl
 obtain ⟨n,rfl,q⟩:=h;refine #[_,(ay (aC (i:=1) pU.nd rfl (ar rfl) ah)
   (ay (nT PassesOwn.never (bg nX (pv 0) ah (bz _)) (ay (aC (i:=0) pU.nd rfl (ar rfl) (aw jG (pv 0) ah))
   (av (aC (i:=1) pU.nd rfl (ar rfl) (aw bF (pv 1) ah)))))
   (av (aN (pv 1))))),?_]
 refine zQ (λZ H'=>∃ m c:Nat,Z=[some (.int m),some (.int c)]/\c+figN m=figN n/\H=H') (λZ H'=>Z=[some (.int 0),some (.int (figN n:Nat))]/\H=H') (λZ _=>match Z with|[some (.int m),_]=>m.toNat|_=>0) ?_ ?_ ?_ ?_
 .exact #[n,0,rfl,fD _,rfl]
 .rintro Z H' ⟨m,c,rfl,e,rfl⟩;refine #[_,rfl,_,_,rfl,rfl,_,rfl,?_];refine ite2 (λz=>?_) (λz=>?_)
  .have z:(m:Int)>0:=bM z;refine #[_,rfl,_,_,rfl,rfl,#[by decide,by decide],?_];refine #[_,rfl,_,_,rfl,rfl,#[m/2,c+1,?_,?_,rfl],?_]
   .show [some (V.int ((m:Int)/2)),some (V.int ((c:Int)+1))]=_;rw[show ((m/2:Nat):Int)=(m:Int)/2 by lia,show ((c+1:Nat):Int)=(c:Int)+1 by lia]
   .rw[mN (show m≠0 by lia)]at e;lia
   .show ((m:Int)/2).toNat<(m:Int).toNat;lia
  .have z:¬ (m:Int)>0:=iO (iN.mpr z);have m0:m=0:=by lia
   subst m0;rw[rG,fc]at e;rw[e];exact #[rfl,rfl]
 .intro Z H Q Q' m h;obtain ⟨y1,e1,i2,j2,f2,g2,b2,e5,q⟩:=h;exact #[y1,e1,i2,j2,f2,g2,b2,e5,m _ _ q]
 rintro Z H' ⟨rfl,rfl⟩;exact #[_,rfl,q]
inductive rM (K:Frag)(vs:List V)(H:Hp)(Q:VK)(w_1:XK):Prop
 | c:∀(ad pf:Addr) (zs:List V) (qs:List Addr) (ps:List Nat) (LA:List (List Int)) (key:Int) (kn i:Nat),vs=[.ref ad,.ref pf,.int key,.int kn,.int i]->H ad=some (.lst zs)->zs.length<=9000->H pf=some (.lst (qs.map V.ref))->bt K H ps LA (List.range (ps.length+1)) qs->kn<ps.length+1->i<(ab ps LA kn).length->ad≠pf->ad∉qs->(∀ t,H t=none->Q (.bl (decide (((ab ps LA kn).getD i (0,0)).1<key))) (upd (upd H t (.tup [nV kn,nV i])) ad (.lst (zs++[.ref t]))))->rM K vs H Q w_1
def JV (T:Txt K mg)(xk:DF K mg "_law_asked" pJ qG):FC P w K mg base 1 "_law_asked" qG (rM K):=by
 refine xk.ok G0 (λvs H Q E h=>?_) (λf cdv A outer s H vs Q E hr h=>?_)
 .obtain ⟨ad,pf,zs,qs,ps,LA,key,kn,i,rfl,_⟩:=h;rfl
 obtain ⟨ad,pf,zs,qs,ps,LA,key,kn,i,rfl,ha,hz,hp,hF,hkn,hi,n1,n2,q⟩:=h;refine #[_,(ay (dX (dY F.plainAttrs_list F.slot_list_append F.type_list_append dH (pv 0) (aa (cC (aa (pv 3) (aa (pv 4) ag))) ag)))
   (av (aN (xH (Dy xY fS ah (pv 4) (aV (bS (K:=K)) rfl T.bQ bJ (aa (aH (bC (K:=K)) (pv 1) (pv 3) (λ_ _=>rfl)) ag))) (xG (Dx fS (aH (bN (K:=K)) (aH (bC (K:=K)) (aH (bC (K:=K)) (pv 1) (pv 3) (λ_ _=>rfl)) (pv 4) (λ_ _=>rfl)) ah (λ_ _=>rfl)) (pv 2) (bz _))))))),?_]
 refine #[_,rfl,.inl #[rfl,_,SqL.of ha],_,rfl,_,rfl,(by show 2<=sizeLine;decide),λt ht=>?_];have st:=aD ht (.tup [nV kn,nV i]);have q1:=q t ht;have hat:=st _ _ ha;refine #[_,_,_,rfl,rfl,hat,cN hz (by decide),?_];obtain ⟨qk,hqk,wk,hwk,hak⟩:=gw hF hkn;have hge:(ab ps LA kn)[i]?=some ((ab ps LA kn).getD i (0,0)):=by
  rw[aE,az hi];rfl
 obtain ⟨v,hv,bb,x1,x2,rfl,hb,e1,e2⟩:∃ v,wk[i]?=some v/\hasP K H ((ab ps LA kn).getD i (0,0)) v:=vF hak hge;have e1':x1=.int ((ab ps LA kn).getD i (0,0)).1:=e1;subst e1';have hwl:=hak.length;have kk:∀{b:Addr} {o:HO},b≠ad->H b=some o->upd (upd H t (.tup [nV kn,nV i])) ad (.lst (zs++[.ref t])) b=some o:=λn e=>by
  rw[aj n];exact st _ _ e
 have hp':=kk (aS n1) hp;have hw':=kk (λz=>n2 (z ▸ cy hqk)) hwk;have hb':=kk (λz=>by rw[z,ha]at hb;cases hb) hb
 refine #[_,rfl,_,_,rfl,rfl,_,rfl,?_];refine tT (by lia) ?_;refine #[_,rfl,_,rfl,_,_,_,_,rfl,rfl,SqL.of hp',dG (v:=.ref qk) (by rw[bf,hqk];rfl),_,_,rfl,.inl (SqL.of hw'),_,_,rfl,rfl,_,rfl,?_];refine tT (by lia) ?_;refine #[_,rfl,_,rfl,_,_,_,_,rfl,rfl,SqL.of hp',dG (v:=.ref qk) (by rw[bf,hqk];rfl),_,rfl,_,_,_,_,rfl,rfl,SqL.of hw',dG hv,_,_,_,_,rfl,rfl,SqT.of hb',rfl,_,rfl,_,_,rfl,rfl,?_];exact q1
def rN {m:Nat}:∀{LA:List (List Int)},(∀ row∈LA,row.length<=m)->cL LA<=LA.length*m
 | [],_=>bK _
 | r::LA,h=>by
  have h1:=h r bx;have h2:=rN (m:=m) (LA:=LA) λx hx=>h x (bG _ hx);unfold cL at h2 ⊢;rw[bI,dD,cE,Nat.succ_mul];lia
inductive vU (K:Frag)(vs:List V)(H:Hp)(Q:VK)(w_1:XK):Prop
 | c:∀(d L:Addr) (m kk:Nat),vs=[.ref d,.int m,.int kk]->0<m->m<=40->kk<=10->LS K L d H->(∀(st:Addr) (ps:List Nat) (LA:List (List Int)) (t rs:Addr) (as:List Addr) (H':Hp),H st=none->eV H' st ps LA t rs as->ps.length<m->(∀ row∈LA,row.length<=kk)->Keep d H H'->LS K L d H'->Q (.ref st) H')->vU K vs H Q w_1
def JW (T:Txt K mg)(xn:DF K mg "_law_stand" pG qD)(KW:FC P w K mg base 3 "_law_tree" qw (vp K))(xo:FC P w K mg base 5 "_law_rows" ma (rC K)):FC P w K mg base 6 "_law_stand" qD (vU K):=by
 refine xn.ok AV (λvs H Q E h=>?_) (λf cdv A outer s H vs Q E hr h=>?_)
 .obtain ⟨d,L,m,kk,rfl,_⟩:=h;rfl
 obtain ⟨d,L,m,kk,rfl,hm0,hm,hkk,hs,q⟩:=h;refine #[_,(ay (aC (i:=3) AV.nd rfl (ar rfl) (aG KW hr (aa (pv 0) (aa (pv 1) ag))))
   (av (aN (cC (aa (pv 3) (aa (aG xo hr (aa (pv 0) (aa (aV (bS (K:=K)) rfl T.bQ bJ (aa (pv 3) ag)) (aa (pv 2) ag)))) ag)))))),?_]
 refine #[_,rfl,_,rfl,d,L,m,rfl,#[by lia,by lia],hs,λt ps H1 ht hT hl h1 k1 s1=>?_];refine #[_,rfl,_,rfl,_,rfl,_,_,rfl,.inr (SqT.of h1),_,rfl,?_];refine #[d,L,(bO ps).length,kk,rfl,by rw[cK];lia,by lia,s1,λr as LA H2 hr2 hA hrl hR hlen h2 k2 s2=>?_];rw[cK]at hrl;have ntd:t≠d:=λz=>by
  obtain ⟨_,_,_,e,_⟩:=s1.ex;rw[<-z,h1]at e;cases e
 refine #[(by show 2<=sizeLine;decide),λst hst=>?_];have ss:=aD hst (.tup [.ref t,.ref r]);have hk:=rN hlen;have hk2:LA.length*kk<=40*10:=Nat.mul_le_mul (by lia) hkk;have std:st≠d:=λz=>by
  obtain ⟨_,_,_,e,_⟩:=s2.ex;rw[<-z,hst]at e;cases e
 refine q st ps LA t r as _ ?_ #[ak,ss _ _ (k2 _ _ ntd h1),ss _ _ h2,hA.ext ss,hrl,hT,hR,by lia,by lia] (by lia) hlen (λb o n e=>ss _ _ (k2 _ _ n (k1 _ _ n e))) (s2.same ss);cases e:H st with
 | none=>rfl
 | some o=>
  have:=k2 _ _ std (k1 _ _ std e);rw[hst]at this;cases this
section
variable {K:Frag}{H:Hp}{a b:Addr}{xs ys:List V}{n:Nat}{Q:VK}
def vV (h:H a=some (.tup xs))(q:∀ v H',Same H H'->H' v=some (.tup (xs.take n))->Q (.ref v) H'):rSlX K (.ref a) none (some (n:Int)) H Q:=
 #[a,xs,rfl,SqT.of h,λz=>q a H (λ_ _ e=>e) (by
  have:=z.2;rw[iR]at this;rw[bu (by lia)];exact h),λ_ p hp=>q p _ (aD hp _) (by rw[ak,JE])]
def JX (h:H a=some (.tup xs))(q:∀ v H',Same H H'->H' v=some (.tup (xs.drop n))->Q (.ref v) H'):rSlX K (.ref a) (some (n:Int)) none H Q:=
 #[a,xs,rfl,SqT.of h,λz=>q a H (λ_ _ e=>e) (by
  have:=z.1;rw[iR]at this;have e:xs.drop n=xs:=by
   rcases Nat.eq_zero_or_pos n with y|y
   .rw[y];rfl
   .have:xs=[]:=List.length_eq_zero_iff.mp (by lia);rw[this];exact List.drop_nil
  rw[e];exact h),λ_ p hp=>q p _ (aD hp _) (by rw[ak,JF])]
def JY (ha:H a=some (.tup xs))(hb:H b=some (.tup ys))(hy:ys≠[])(hl:xs.length+ys.length<=sizeLine)(q:∀ v H',Same H H'->H' v=some (.tup (xs++ys))->Q (.ref v) H'):ui K (.ref a) (.ref b) H Q:=
 #[a,b,xs,ys,rfl,rfl,SqT.of ha,SqT.of hb,hy,hl,λz=>q b H (λ_ _ e=>e) (by rw[z];exact hb),λ_ p hp=>q p _ (aD hp _) ak]
def JZ (ha:H a=some (.tup xs))(hb:H b=some (.tup ys))(hx:xs≠[])(hl:xs.length+ys.length<=sizeLine)(q:∀ v H',Same H H'->H' v=some (.tup (xs++ys))->Q (.ref v) H'):oa K (.ref a) (.ref b) H Q:=
 #[a,b,xs,ys,rfl,rfl,SqT.of ha,SqT.of hb,hx,hl,λz=>q a H (λ_ _ e=>e) (by rw[z,bY];exact ha),λ_ p hp=>q p _ (aD hp _) ak]
end
def Cw {H:Hp}{v:Addr}{r:List Int}(hv:H v=some (.tup (r.map V.int))):∀{as:List Addr} {LA:List (List Int)} (kn:Nat),bV H as LA->bV H (as.set kn v) (LA.set kn r)
 | _,_,_,.nil=>.nil
 | _,_,0,.cons _ t=>.cons hv t
 | _,_,kn+1,.cons h t=>.cons h (Cw hv kn t)
def hu8 {k:Nat}(hr:Room k A):A.units+8<cLine:=cN (cz (by decide:8<=64) _) hr.units
def hu16 {k:Nat}(hr:Room k A):A.units+16<cLine:=cN (cz (by decide:16<=64) _) hr.units
def J0 {K:Frag}(hl:PE X l tl)(h:X.K=K:=by rfl):PI X tg l (xN K tl):=by
 subst h;exact du hl
def J1 {K:Frag}{H:Hp}{b D:Addr}{row:List Int}{key:Int}{Z:L2.St}{Q:Hp->Prop}(hb:H b=some (.tup (row.map V.int)))(hD:H D=none)(hz:row.length<=999)(hst:Z=[none,some (.int key)])(q:∀ H',Same H H'->H' D=some (.lst ((row.filter λx=>decide (x<key)).map V.int))->Q H') :
  ∃ W:Nat->Nat->L2.St->Hp->Prop,(∃ m,W 0 m Z (upd H D (.lst [])))/\∀ i m Z H,W i m Z H->((Itt K b).stop i H/\Q H)\/((Itt K b).go i H/\∀ x H',(Itt K b).yld i H x H'->gE 0 x Z H' λZ2 H2=>tq (tOp (rI0 λi j=>.bl (decide (i<j))) (tVar 0) (tVar 1)) Z2 H2 λb H3=>if b=true then tVar 0 Z2 H3 λy H4=>∃ xs,H4 D=some (.lst xs)/\xs.length<sizeLine/\∃ m',m'<m/\W (i+1) m' Z2 (upd H4 D (.lst (xs++[y]))) else ∃ m',m'<m/\W (i+1) m' Z2 H3):=by
 rw[hst];refine lT (xs:=row.map V.int) (λj Z H5=>∃(x0:Option V),Z=[x0,some (.int key)]/\H5 D=some (.lst (((row.take j).filter λx=>decide (x<key)).map V.int))/\But D H H5) ?_ ?_ ?_ ?_
 .exact #[_,rfl,ak,λb o n e=>by rw[aj n];exact e]
 .rintro j Z H5 _ ⟨x0,rfl,_,k5⟩;exact SqT.of (k5 _ _ (au hb hD) hb)
 .rintro j m x Z H5 hx hm ⟨x0,rfl,h5,k5⟩;rw[bf]at hx;obtain ⟨y,hy,rfl⟩:=eZ.mp hx;have hj:=(aM.mp hy).1;rw[aq]at hm;have htk:row.take (j+1)=row.take j++[y]:=by rw[cF hj,(aM.mp hy).2]
  have hsl:((row.take j).filter λx=>decide (x<key)).length<=j:=ax (dW _ _) (by rw[aT];lia);refine #[_,rfl,_,rfl,_,_,rfl,rfl,_,rfl,?_];refine ite2 (λc=>?_) (λc=>?_)
  .refine #[_,rfl,_,h5,bh (by rw[aq];lia),m-1,by lia,by rw[aq];lia,_,rfl,?_,λb o n e=>by rw[aj n];exact k5 b o n e];rw[ak,htk,c7,dr (p:=λx=>decide (x<key)) c,bq];rfl
  .refine #[m-1,by lia,by rw[aq];lia,_,rfl,?_,k5];rw[htk,c7,eB (p:=λx=>decide (x<key)) c,nK,bY];exact h5
 rintro Z H5 ⟨y0,rfl,h5,k5⟩;rw[aq,bu (ai _)]at h5;exact q H5 (λb o e=>k5 b o (au e hD) e) h5
inductive vW (K:Frag)(vs:List V)(H:Hp)(Q:VK)(w_1:XK):Prop
 | c:∀(br:Addr) (ps:List Nat) (LA:List (List Int)) (xs:List V) (k c m:Nat),vs=[.ref br,.int k,.int c,.int m]->H br=some (.lst xs)->Paired (BrAt [] H ps LA) (List.range (ps.length+1)) xs->aO ps->k<ps.length+1->par ps c=some k->m<=(ab ps LA k).length->(∀ H',Same H H'->Q (.int (stN (ab ps LA c) ((ab ps LA k).take m):Nat)) H')->vW K vs H Q w_1
def J2 (T:Txt K mg)(xp:DF K mg "_law_start" pN qK):FC P w K mg base 1 "_law_start" qK (vW K):=by
 refine xp.ok G2 (λvs H Q E h=>?_) (λf cdv A outer s H vs Q E hr h=>?_)
 .obtain ⟨br,ps,LA,xs,k,c,m,rfl,_⟩:=h;rfl
 obtain ⟨br,ps,LA,xs,k,c,m,rfl,hbr,hB,hT,hk,hc,hm,q⟩:=h;obtain ⟨x,hx,b,o,j,ys,rfl,_,_,hb,ho,hj,hJ⟩:=gw hB hk;obtain ⟨kvs,h1,h2,h3⟩:=Ck hJ;have hcm:c∈aY ps k (ps.length+1):=cO.mpr #[(bw hT hc).2,hc];obtain ⟨sa,hv,hsa⟩:=h3 c hcm (vI _ _ _);refine #[_,(av (aN (aH (bC (K:=K)) (gb (c9 hr) (fH (Am rfl) rfl T.CQ boot_dict (aa (aH (bN (K:=K)) (aH (bC (K:=K)) (pv 0) (pv 1) (λ_ _=>rfl)) ah (λ_ _=>rfl)) ag)) (pv 2) (λ_ _=>rfl)) (pv 3) (λ_ _=>rfl)))),?_];refine #[_,rfl,_,rfl,_,_,_,_,rfl,rfl,SqL.of hbr,dG hx,_,_,_,_,rfl,rfl,SqT.of hb,rfl,?_];refine #[j,ys,kvs,rfl,SqL.of hj,h1,?_,λd hd=>?_]
 .rw[h2];exact List.Pairwise.map (R:=λa b:Nat=>a≠b) _ (λa b (n:a≠b) z=>n (by have:=Sum.inl.inj z;lia)) (vI ps k _)
 have sd:=aD hd (.dK kvs);refine #[_,rfl,d,.ref sa,rfl,?_,?_]
 .have:=DGet.k (k:=(.inl (c:Int))) (ak (H:=H) (a:=d) (o:=.dK kvs));rw[hv]at this;exact this
 refine #[_,rfl,_,_,_,_,rfl,rfl,SqL.of (sd _ _ hsa),dG (v:=nV (stN (ab ps LA c) ((ab ps LA k).take m))) ?_,q _ sd];rw[bf];unfold fw;rw[bf,gC (by lia)];rfl
abbrev dueF (ps:List Nat)(LA:List (List Int))(key:Int)(k:Nat):Int×Int:=(((aL (ab ps LA k) key:Nat):Int),((ownB LA k key:Nat):Int))
inductive vX (K:Frag)(vs:List V)(H:Hp)(Q:VK)(w_1:XK):Prop
 | c:∀(pf r:Addr) (kn:Nat) (key:Int) (qs as:List Addr) (ps:List Nat) (LA:List (List Int)),vs=[.ref pf,.ref r,.int kn,.int key]->H pf=some (.lst (qs.map V.ref))->bt K H ps LA (List.range (ps.length+1)) qs->H r=some (.tup (as.map V.ref))->bV H as LA->LA.length=ps.length+1->kn<ps.length+1->(ab ps LA kn).length<=999->(bU LA kn).length<=999->(∀(u:Addr) (H':Hp),Same H H'->H' u=some (.tup [.int (dueF ps LA key kn).1,.int (dueF ps LA key kn).2])->Q (.ref u) H')->vX K vs H Q w_1
def J4 (T:Txt K mg)(xq:DF K mg "_law_placed" pL qI):FC P w K mg base 1 "_law_placed" qI (vX K):=by
 refine xq.ok AW (λvs H Q E h=>?_) (λf cdv A outer s H vs Q E hr h=>?_)
 .obtain ⟨pf,r,kn,key,qs,as,ps,LA,rfl,_⟩:=h;rfl
 obtain ⟨pf,r,kn,key,qs,as,ps,LA,rfl,hpf,hF,hr0,hR,hl,hk,hf1,hf2,q⟩:=h;refine #[_,(ay (aC (i:=4) AW.nd rfl (ar rfl) (aV (bS (K:=K)) rfl T.bQ bJ (aa (d4 (N:=["_law_entry","_law_key_here"]) (own:=1) (cap:=[3]) rfl (du (aH (bC (K:=K)) (pv 0) (pv 2) (λ_ _=>rfl))) #[rfl,rfl,rfl,rfl,rfl,rfl] (λ_ _ _ _ _=>(aF (i:=0) (show List.Nodup (["_law_entry","_law_key_here"]:List Str) by decide +kernel) rfl (ar rfl))) (λ_ _ _ _ _=>(ik (bg fS (aH (bN (K:=K)) (pv 0) ah (λ_ _=>rfl)) (pv 1) (bz _)))) (λ_ _ _ _ _=>(pv 0))) ag)))
   (av (aN (cC (aa (pv 4) (aa (aV (bS (K:=K)) rfl T.bQ bJ (aa (d4 (N:=["_law_one","_law_key_here"]) (own:=1) (cap:=[3]) rfl (gH (aH (bN (K:=K)) (pv 1) (pv 2) (λ_ _=>rfl))) #[rfl,rfl,rfl,rfl,rfl,rfl] (λ_ _ _ _ _=>(aF (i:=0) (show List.Nodup (["_law_one","_law_key_here"]:List Str) by decide +kernel) rfl (ar rfl))) (λ_ _ _ _ _=>(ik (bg fS (pv 0) (pv 1) (bz _)))) (λ_ _ _ _ _=>(pv 0))) ag)) ag)))))),?_]
 obtain ⟨qk,hqk,wk,hwk,hak⟩:=gw hF hk;obtain ⟨b,hb1,hb2⟩:=hR.get (k:=kn) (by rw[hl];exact hk);have hwk':=hak.length;refine #[_,rfl,_,rfl,_,_,_,_,rfl,rfl,SqL.of hpf,eW hqk,qk,rfl,#[_,SqL.of hwk],λD2 hD2=>?_];refine fI (xs:=wk) (λj Z H5=>∃(x0:Option V) (vs:List V),Z=[x0,some (.int key)]/\H5 D2=some (.lst vs)/\vs.length=(((ab ps LA kn).take j).filter λe=>decide (e.1<key)).length/\But D2 H H5) ?_ ?_ ?_ ?_
 .exact #[_,[],rfl,ak,rfl,λb o n e=>by rw[aj n];exact e]
 .rintro j Z H5 _ ⟨x0,vs,rfl,_,_,k5⟩;exact SqL.of (k5 _ _ (au hwk hD2) hwk)
 .rintro j m x Z H5 hx hm ⟨x0,vs,rfl,h5,hu,k5⟩;have hj:=(aM.mp hx).1;obtain ⟨e,he,bb,x1,x2,rfl,hb,e1,e2⟩:∃ e,(ab ps LA kn)[j]?=some e/\hasP K H e x:=gQ hak hx;have e1':x1=.int e.1:=e1;subst e1';have htk:(ab ps LA kn).take (j+1)=(ab ps LA kn).take j++[e]:=by rw[cF (by lia),(aM.mp he).2]
  have hsl:(((ab ps LA kn).take j).filter λe=>decide (e.1<key)).length<=j:=ax (dW _ _) (by rw[aT];lia);refine #[_,rfl,_,_,_,_,rfl,rfl,SqT.of (k5 _ _ (au hb hD2) hb),rfl,_,rfl,_,_,rfl,rfl,_,rfl,?_];refine ite2 (λc=>?_) (λc=>?_)
  .refine #[_,rfl,_,h5,bh (by lia),m-1,by lia,by lia,_,_,rfl,ak,?_,λb o n e=>by rw[aj n];exact k5 b o n e];rw[htk,c7,dr (p:=λe:Int×Int=>decide (e.1<key)) c,bc,bc,hu];rfl
  .refine #[m-1,by lia,by lia,_,_,rfl,h5,?_,k5];rw[htk,c7,eB (p:=λe:Int×Int=>decide (e.1<key)) c,nK,bY];exact hu
 rintro Z H5 ⟨x0,vs,rfl,h5,hu,k5⟩;rw[<-hwk',bu (ai _)]at hu;have s5:Same H H5:=λb o e=>k5 b o (au e hD2) e;refine #[_,_,rfl,.inl (SqL.of h5),_,rfl,_,rfl,_,rfl,_,_,_,_,rfl,rfl,SqT.of (s5 _ _ hr0),eW hb1,b,rfl,#[_,SqT.of (s5 _ _ hb2)],λD3 hD3=>?_];refine J1 (s5 _ _ hb2) hD3 hf2 rfl λH6 s6 h6=>?_;refine #[_,_,rfl,.inl (SqL.of h6),(by show 2<=sizeLine;decide),λu hu'=>?_];rw[aq,hu];exact q u _ (s5.trans (s6.trans (aD hu' _))) ak
inductive vY (K:Frag)(vs:List V)(H:Hp)(Q:VK)(w_1:XK):Prop
 | c:∀(a b:Addr) (ns:List Int),vs=[.ref a,.ref b]->H a=some (.tup (ns.map V.int))->H b=some (.tup (ns.map V.int))->ns.length<=900->(∀ H',Same H H'->Q (.bl true) H')->vY K vs H Q w_1
def J5 (T:Txt K mg)(xt:DF K mg "_law_wholes" pM qJ):FC P w K mg base 1 "_law_wholes" qJ (vY K):=by
 refine xt.ok G1 (λvs H Q E h=>?_) (λf cdv A outer s H vs Q E hr h=>?_)
 .obtain ⟨a,b,ns,rfl,_⟩:=h;rfl
 obtain ⟨a,b,ns,rfl,ha,hb,hn,q⟩:=h;refine #[_,(fU (bR (PW.pt (lA (lB (hG (aV (oD (K:=K)) rfl T.rQ boot_isinstance (aa (pv 0) (aa (nR (v:=.ty "tuple") rfl T.mQ boot_tuple rfl) ag))))) (nS (bg (zB (Tup Int) (huD hr)) (pv 0) (pv 1) (bz _))))) (av (aN dE)) cv)
   (av (aN (aV (zP rfl) rfl T.CP boot_all (aa (d4 (N:=["_law_one"]) (own:=1) (cap:=[]) rfl (gH (pv 0)) #[rfl,rfl,rfl,rfl,rfl,rfl] (λ_ _ _ _ _=>(aF (i:=0) (show List.Nodup (["_law_one"]:List Str) by decide +kernel) rfl (ar rfl))) (λ_ _ _ _ _=>dI) (λ_ _ _ _ _=>(xH (aV (oD (K:=K)) rfl T.rQ boot_isinstance (aa (pv 0) (aa (nR (v:=.ty "int") rfl T.Ko boot_int rfl) ag))) (xG (Dj (aV (oD (K:=K)) rfl T.rQ boot_isinstance (aa (pv 0) (aa (nR (v:=.ty "bool") rfl T.Kn boot_bool rfl) ag)))))))) ag))))),?_]
 refine #[λZ' H'=>Z'=[some (.ref a),some (.ref b)]/\H=H',?_,?_]
 .refine #[_,rfl,_,_,_,_,rfl,.tup ha,Fp,_,rfl,iteF ?_];exact #[_,rfl,_,rfl,(#[ns]:Tup Int),(#[ns]:Tup Int),#[a,_,rfl,SqT.of ha,aB.ints],#[b,_,rfl,SqT.of hb,aB.ints],_,rfl,lH rfl #[rfl,rfl]]
 rintro _ _ ⟨rfl,rfl⟩;refine #[_,rfl,a,rfl,#[_,SqT.of ha],λD hD=>?_];refine lT (xs:=ns.map V.int) (λi Z H2=>∃ x0:Option V,Z=[x0]/\H2 D=some (.lst ((List.replicate i true).map V.bl))/\But D H H2) ?_ ?_ ?_ ?_
 .exact #[_,rfl,ak,λb o n e=>by rw[aj n];exact e]
 .rintro i Z H2 _ ⟨x0,rfl,_,k2⟩;exact SqT.of (k2 _ _ (au ha hD) ha)
 .rintro i m v Z H2 hv hm ⟨x0,rfl,h2,k2⟩;have hi:=(aM.mp hv).1;rw[aq]at hi hm;obtain ⟨z,_,rfl⟩:=bA.mp (cy hv);refine #[_,rfl,_,_,_,_,rfl,.int _,E2,?_];refine #[true,rfl,iteT ?_];refine #[_,rfl,_,_,_,_,rfl,.int _,E3,?_];refine #[false,rfl,_,h2,?_,m-1,?_,?_,_,rfl,?_,λb o n e=>by rw[aj n];exact k2 b o n e]
  .rw[aq,cR];exact bh (by lia)
  .omega
  .rw[aq];lia
  rw[ak,nI,bq];rfl
 rintro Z H2 ⟨x0,rfl,h2,k2⟩;have ea:(List.replicate (ns.map V.int).length true).all id=true:=eA.mpr λx hx=>(List.eq_of_mem_replicate hx:x=true);refine #[D,_,rfl,SqL.of h2,?_];rw[ea];exact q _ (λb o e=>k2 b o (au e hD) e)
def Cy :∀{as:List Addr} {LA:List (List Int)} (n:Nat),bV H as LA->bV H (as.take n) (LA.take n)
 | _,_,0,_=>by
  rw[gY,gY];exact .nil
 | _,_,_+1,.nil=>by
  rw[List.take_nil,List.take_nil];exact .nil
 | _,_,n+1,.cons h t=>.cons h (Cy n t)
def Cz {w:List Int}:∀{LA:List (List Int)} (k:Nat),cL (LA.set k w)<=cL LA+w.length
 | [],_=>bK _
 | r::LA,0=>by
  show w.length+cL LA<=r.length+cL LA+w.length;lia
 | r::LA,k+1=>by
  have:=Cz (w:=w) (LA:=LA) k;show r.length+cL (LA.set k w)<=r.length+cL LA+w.length;lia
def d8 (a b:Int)(n:Nat):List Int:=(List.range n).map λk=>a+b*(k:Nat)
def CA {a:Int}:(d8 a b n).length=n:=by
 unfold d8;rw[aq,cq]
def J6 {a:Int}:d8 a b (n+1)=d8 a b n++[a+b*(n:Nat)]:=by
 unfold d8;rw[fQ,bq];rfl
def J7 {a b:Int}(hb:0<b):(d8 a b n).Pairwise (· < ·):=by
 unfold d8;refine List.Pairwise.map _ (R:=λi j:Nat=>i<j) (λi j h=>?_) lh;have:=Int.mul_lt_mul_of_pos_left (show (i:Int)<j by lia) hb;show a+b*(i:Nat)<a+b*(j:Nat);lia
def J8 {a b:Int}{n:Nat}(h0:-1000<=a)(h1:a<1000000)(hb:0<b)(hb2:b<10)(hn:n<=300):∀ x∈d8 a b n,-(10^60)<x/\x<10^60:=by
 intro x hx;obtain ⟨k,hk,rfl⟩:=bA.mp hx;have:=cZ.mp hk;have h2:0<=b*(k:Nat):=Int.mul_nonneg (by lia) (by lia);have h3:b*(k:Nat)<=10*300:=Int.mul_le_mul (by lia) (by lia) (by lia) (by lia);have h4:(10:Int)^60=1000000000000000000000000000000000000000000000000000000000000:=by decide +kernel
 show -(10^60)<a+b*(k:Nat)/\a+b*(k:Nat)<10^60;lia
inductive vZ (K:Frag)(vs:List V)(H:Hp)(Q:VK)(w_1:XK):Prop
 | c:∀(d L:Addr) (ps:List Nat) (LA:List (List Int)) (t rs:Addr) (as:List Addr),vs=[.ref d,.ref t,.ref rs]->H t=some (.tup (bO ps))->H rs=some (.tup (as.map V.ref))->bV H as LA->LA.length=ps.length+1->aO ps->bP LA->(∀ row∈LA,row.length<=7)->LS K L d H->(∀(st:Addr) (ps:List Nat) (LA:List (List Int)) (t rs:Addr) (as:List Addr) (H':Hp),eV H' st ps LA t rs as->ps.length<10->Keep d H H'->LS K L d H'->Q (.ref st) H')->vZ K vs H Q w_1
def J9 (T:Txt K mg)(xu:DF K mg "_law_wide" pH qE)(cj:FC P w K mg base 2 "_law_take" gM (ij K)):FC P w K mg base 3 "_law_wide" qE (vZ K):=by
 refine xu.ok j6 (λvs H Q E h=>?_) (λf cdv A outer s H vs Q E hr h=>?_)
 .obtain ⟨d,L,ps,LA,t,rs,as,rfl,_⟩:=h;rfl
 obtain ⟨d,L,ps,LA,t,rs,as,rfl,ht,hrs,hA,hl,hT,hR,hlen,hs,q⟩:=h;refine #[_,(ay (Dm (i:=1) (j:=2) rfl j6.nd rfl rfl (by decide) rfl rfl (aa (gK (oG (K:=K)) (pv 1) nZ (eQ ah)) (aa (gK (oG (K:=K)) (pv 2) nZ (eQ ah)) ag)) rfl)
   (ay (aC (i:=3) j6.nd rfl (ar rfl) (aG cj hr (aa (pv 0) (aa (aV (bS (K:=K)) rfl T.bQ bJ (aa (pv 1) ag)) ag))))
   (ay (aC (i:=4) j6.nd rfl (dg rfl) (aw dv (aG cj hr (aa (pv 0) (aa (aw jH ah ah) ag))) ah))
   (ay (aC (i:=5) j6.nd rfl (dg rfl) (aw bF ah (aG cj hr (aa (pv 0) (aa ah ag)))))
   (ay (aC (i:=6) j6.nd rfl (ar rfl) (fH (oH (K:=K)) rfl T.mQ boot_tuple (aa (d4 (N:=["_law_k","_law_first","_law_step"]) (own:=1) (cap:=[4,5]) rfl (ff rfl T.de (aa (aw bF ah (aG cj hr (aa (pv 0) (aa ah ag)))) ag)) #[rfl,rfl,rfl,rfl,rfl,rfl] (λ_ _ _ _ _=>(aF (i:=0) (show List.Nodup (["_law_k","_law_first","_law_step"]:List Str) by decide +kernel) rfl (ar rfl))) (λ_ _ _ _ _=>dI) (λ_ _ _ _ _=>(aw bF (pv 1) (aw dh (pv 2) (pv 0))))) ag)))
   (av (aN (cC (aa (pv 1) (aa (aw tE (aw Fy (gK (oG (K:=K)) (pv 2) nZ (eQ (pv 3))) (cC (aa (pv 6) ag))) (gK (oG (K:=K)) (pv 2) (eQ (aw bF (pv 3) ah)) nZ)) ag)))))))))),?_]
 have hal:=hA.length;have k3:(bO ps).take 3=bO (ps.take 2):=by
  unfold bO;rw[g9];rfl
 have ntd:∀{b:Addr} {xs:List V},H b=some (.tup xs)->b≠d:=λe z=>by
  obtain ⟨_,_,_,e2,_⟩:=hs.ex;rw[<-z,e]at e2;cases e2
 refine #[_,rfl,3,rfl,vV (n:=3) ht λt1 H1 s1 h1=>?_];rw[k3]at h1;refine #[_,rfl,3,rfl,vV (n:=3) (s1 _ _ hrs) λr2 H2 s2 h2=>?_];rw[<-g9]at h2;have s12:=s1.trans s2;have h2t:=s2 _ _ h1;have hA2:=Cy 3 (hA.ext s12);have hl2:(LA.take 3).length=(ps.take 2).length+1:=by rw[aT,aT];lia
 refine #[_,_,rfl,_,rfl,_,rfl,_,_,rfl,.inr (SqT.of h2t),d,L,_,rfl,#[?_,?_],hs.same s12,λn1 H3 a0 a1 k3 ss3=>?_]
 .rw[cK];lia
 .rw[cK,aT];lia
 rw[cK]at a1;obtain ⟨at1,rfl⟩:=Int.eq_ofNat_of_zero_le a0;refine #[_,rfl,_,_,rfl,rfl,(by unfold CPow;decide),d,L,_,rfl,#[by decide,by decide],ss3,λn2 H4 b0 b1 k4 ss4=>?_];refine #[_,_,rfl,rfl,_,rfl,d,L,_,rfl,#[by decide,by decide],ss4,λn3 H5 c0 c1 k5 ss5=>?_];refine #[_,_,rfl,rfl,?_];refine #[_,rfl,d,L,_,rfl,#[by decide,by decide],ss5,λn4 H6 d0 d1 k6 ss6=>?_];have b1':n2<1000000:=b1;obtain ⟨n4',rfl⟩:=Int.eq_ofNat_of_zero_le d0;refine #[_,_,rfl,rfl,_,rfl,(by lia),(by lia),λD hD=>?_];have el:(100+(n4':Int)).toNat=100+n4':=by lia
 rw[el];refine jQ (n:=100+n4') (λm Z H7=>∃ x0:Option V,Z=[x0,some (.int (n2-1000)),some (.int (1+n3))]/\H7 D=some (.lst ((d8 (n2-1000) (1+n3) m).map V.int))/\But D H6 H7) ?_ ?_ ?_
 .exact #[_,rfl,ak,λb o n e=>by rw[aj n];exact e]
 .rintro i m Z H7 hm hi ⟨x0,rfl,h7,k7⟩;refine #[_,rfl,_,rfl,_,rfl,_,_,rfl,rfl,(.inl #[by lia,by lia]),_,_,rfl,rfl,_,h7,?_,m-1,by lia,by lia,_,rfl,?_,λb o n e=>by rw[aj n];exact k7 b o n e]
  .rw[aq,CA];exact bh (by lia)
  rw[ak,J6,bq,fE];rfl
 rintro Z H7 ⟨x0,rfl,h7,k7⟩;have w7:H7 D=some (.lst ((d8 (n2-1000) (1+n3) (100+n4')).map V.int)):=h7;refine #[D,_,rfl,.inl #[SqL.of w7,λl hl7=>?_]];have K6:Keep d H2 H6:=λb o n e=>k6 b o n (k5 b o n (k4 b o n (k3 b o n e)));have s67:Same H6 H7:=λb o e=>k7 b o (au e hD) e;have s78:=aD hl7 (.tup ((d8 (n2-1000) (1+n3) (100+n4')).map V.int));have h8w:upd H7 l (.tup ((d8 (n2-1000) (1+n3) (100+n4')).map V.int)) l=some (.tup ((d8 (n2-1000) (1+n3) (100+n4')).map V.int)):=ak;generalize upd H7 l (.tup ((d8 (n2-1000) (1+n3) (100+n4')).map V.int))=H8 at s78 h8w ⊢;have K8:Keep d H H8:=λb o n e=>s78 _ _ (s67 _ _ (K6 _ _ n (s12 _ _ e)));have ss8:=(ss6.same s67).same s78;have ntd2:∀{b:Addr} {xs:List V},H2 b=some (.tup xs)->b≠d:=λe z=>by
  obtain ⟨_,_,_,e2,_⟩:=(hs.same s12).ex;rw[<-z,e]at e2;cases e2
 have h8t:=s78 _ _ (s67 _ _ (K6 _ _ (ntd2 h2t) h2t));have h8r:=s78 _ _ (s67 _ _ (K6 _ _ (ntd2 h2) h2));have hA8:bV H8 (as.take 3) (LA.take 3):=bX (λ(a:Addr) (row:List Int) (e:H2 a=some (.tup (row.map V.int)))=>s78 _ _ (s67 _ _ (K6 _ _ (ntd2 e) e))) hA2;have hal2:=hA8.length;refine #[_,rfl,_,rfl,_,rfl,_,rfl,vV (n:=at1) h8r λv9 H9 s9 h9=>?_];refine #[_,rfl,(by show 1<=sizeLine;decide),λv10 hv10=>?_];have s10:=aD hv10 (.tup [.ref l]);have h10:upd H9 v10 (.tup [.ref l]) v10=some (.tup [.ref l]):=ak;generalize upd H9 v10 (.tup [.ref l])=H10 at s10 h10 ⊢;have hal3:(as.take 3).length<=3:=by rw[aT];lia
 refine JY (s10 _ _ h9) h10 nofun (aZ (bh (by rw[aT,aq];show _+1<=1000;lia))) λv11 H11 s11 h11=>?_;refine #[_,rfl,_,rfl,_,_,rfl,rfl,_,rfl,JX (n:=at1+1) (s11 _ _ (s10 _ _ (s9 _ _ h8r))) λv12 H12 s12' h12=>?_];refine JZ (s12' _ _ h11) h12 (λz=>by cases List.append_eq_nil_iff.mp z |>.2) (aZ (bh (by rw[bc,aT,eY,aq];show _+1+_<=1000;lia))) λv13 H13 s13 h13=>?_;refine #[(by show 2<=sizeLine;decide),λst hst=>?_];have s14:=aD hst (.tup [.ref t1,.ref v13]);have h14:upd H13 st (.tup [.ref t1,.ref v13]) st=some (.tup [.ref t1,.ref v13]):=ak;generalize upd H13 st (.tup [.ref t1,.ref v13])=H14 at s14 h14 ⊢;have s9E:Same H8 H14:=s9.trans (s10.trans (s11.trans (s12'.trans (s13.trans s14))));have ev:((as.take 3).map V.ref).take at1++[V.ref l]++((as.take 3).map V.ref).drop (at1+1)=((as.take 3).set at1 l).map V.ref:=by
  rw[jz,List.set_eq_take_append_cons_drop,ae (by rw[aq];lia),dq];rfl
 rw[ev]at h13;have hw:=J8 (a:=n2-1000) (b:=1+n3) (n:=100+n4') (by lia) (by lia) (by lia) (by lia) (by lia);have hkr:cL (LA.take 3)<=(LA.take 3).length*7:=rN λrow hx=>hlen row (iK hx);have hk2:=Cz (w:=d8 (n2-1000) (1+n3) (100+n4')) (LA:=LA.take 3) at1;rw[CA]at hk2;refine q st (ps.take 2) ((LA.take 3).set at1 (d8 (n2-1000) (1+n3) (100+n4'))) t1 v13 _ H14 #[h14,s9E _ _ h8t,s14 _ _ h13,Cw (s9E _ _ h8w) at1 (hA8.ext s9E),?_,?_,#[?_,?_],?_,?_] ?_ (λb o n e=>s9E _ _ (K8 b o n e)) (ss8.same s9E)
 .rw[mV];exact hl2
 .intro i hi;have hi':i<ps.length:=by rw[aT]at hi;lia
  rw[m9];exact hT i hi'
 .intro row hrow;rcases lx hrow with e|e
  .exact hR.up row (iK e)
  .rw[e];exact J7 (by lia)
 .intro row hrow;rcases lx hrow with e|e
  .exact hR.key row (iK e)
  .rw[e];exact hw
 .rw[aT];lia
 .have:(LA.take 3).length<=3:=by rw[aT];lia
  lia
 .rw[aT];lia
inductive v3 (K:Frag)(vs:List V)(H:Hp)(Q:VK)(w_1:XK):Prop
 | c:∀(p:Addr) (ps:List Nat) (LA:List (List Int)) (xs:List V),vs=[.ref p]->H p=some (.lst xs)->Paired (BrAt [] H ps LA) (List.range (ps.length+1)) xs->ps.length<=40->(∀ k,k<ps.length+1->(ab ps LA k).length<=400)->(∀(q:Addr) (ys:List V) (H':Hp),Same H H'->H' q=some (.lst ys)->Paired (BrAt [] H' ps LA) (List.range (ps.length+1)) ys->Q (.ref q) H')->v3 K vs H Q w_1
def Ka (T:Txt K mg)(xv:DF K mg "_law_copied" pI qF):FC P w K mg base 1 "_law_copied" qF (v3 K):=by
 refine xv.ok GZ (λvs H Q E h=>?_) (λf cdv A outer s H vs Q E hr h=>?_)
 .obtain ⟨p,ps,LA,xs,rfl,_⟩:=h;rfl
 obtain ⟨p,ps,LA,xs,rfl,hp,hB,hn,hf,q⟩:=h;refine #[_,(av (aN (d4 (N:=["_law_one"]) (own:=1) (cap:=[]) rfl (du (pv 0)) #[rfl,rfl,rfl,rfl,rfl,rfl] (λ_ _ _ _ _=>(aF (i:=0) (show List.Nodup (["_law_one"]:List Str) by decide +kernel) rfl (ar rfl))) (λ_ _ _ _ _=>dI) (λ_ _ _ _ _=>(cC (aa (aH (bN (K:=K)) (pv 0) ah (λ_ _=>rfl)) (aa (fH (oE (K:=K)) rfl T.kG boot_list (aa (aH (bN (K:=K)) (pv 0) ah (λ_ _=>rfl)) ag)) (aa (d4 (N:=["_law_child","_law_starts"]) (own:=2) (cap:=[]) rfl (J0 (K:=K) (aH (bN (K:=K)) (pv 0) ah (λ_ _=>rfl))) #[rfl,rfl,rfl,rfl,rfl,rfl] (λ_ _ _ _ _=>(oF (K:=K) (n:=2) rfl (cB (aF (i:=0) (show List.Nodup (["_law_child","_law_starts"]:List Str) by decide +kernel) rfl (ar rfl)) (cB (aF (i:=1) (show List.Nodup (["_law_child","_law_starts"]:List Str) by decide +kernel) rfl (ar rfl)) fF)))) (λ_ _ _ _ _=>dI) (λ_ _ _ _ _=>(cC (aa (pv 0) (aa (fH (oE (K:=K)) rfl T.kG boot_list (aa (pv 1) ag)) ag))))) ag)))))))),?_];have hxl:=hB.length;rw[cq]at hxl;refine #[_,rfl,p,rfl,#[_,SqL.of hp],λD hD=>?_];refine fI (xs:=xs) (λj Z H5=>∃(x0:Option V) (us:List V),Z=[x0]/\H5 D=some (.lst us)/\Paired (BrAt [D] H5 ps LA) (List.range j) us/\But D H H5) ?_ ?_ ?_ ?_
 .exact #[_,[],rfl,ak,.nil,λb o n e=>by rw[aj n];exact e]
 .rintro j Z H5 _ ⟨x0,us,rfl,_,_,k5⟩;exact SqL.of (k5 _ _ (au hp hD) hp)
 .rintro j m x Z H5 hx hm ⟨x0,us,rfl,h5,hu,k5⟩;have hj:=(aM.mp hx).1;obtain ⟨x',hx',hb'⟩:=gw hB (k:=j) (by lia);have:x'=x:=aJ (hx'.symm.trans hx);subst this;have s5:Same H H5:=λb o e=>k5 b o (au e hD) e;obtain ⟨b,o,jj,ys,rfl,_,_,hb,ho,hjj,hJ⟩:=BrAt.same s5 hb';have hcl:=hJ.length;have hcn:(aY ps j (ps.length+1)).length<=41:=by
   unfold aY;exact ax (dW _ _) (by rw[cq];lia)
  refine #[_,rfl,_,_,_,_,rfl,rfl,SqT.of hb,rfl,?_];refine #[_,rfl,_,_,_,_,rfl,rfl,SqT.of hb,rfl,_,_,rfl,.inl (SqL.of ho),λl6 hl6=>?_];have s6:=aD hl6 (.lst ((fZ j (ab ps LA j)).map nV));have h6l:upd H5 l6 (.lst ((fZ j (ab ps LA j)).map nV)) l6=some (.lst ((fZ j (ab ps LA j)).map nV)):=ak;have nl6:l6≠D:=λz=>by rw[z,h5]at hl6;cases hl6
  generalize upd H5 l6 (.lst ((fZ j (ab ps LA j)).map nV))=H6 at s6 h6l ⊢;refine #[_,rfl,_,_,_,_,rfl,rfl,SqT.of (s6 _ _ hb),rfl,jj,rfl,#[_,SqL.of (s6 _ _ hjj)],λD2 hD2=>?_];have nD2:D2≠D:=λz=>by rw[z,s6 _ _ h5]at hD2;cases hD2
  refine fI (xs:=ys) (λi Z H7=>∃(y0 y1:Option V) (vs:List V),Z=[y0,y1]/\H7 D2=some (.lst vs)/\Paired (cg [D2,D] H7 (ab ps LA j) ps LA) ((aY ps j (ps.length+1)).take i) vs/\But D2 H6 H7) ?_ ?_ ?_ ?_
  .exact #[_,_,[],rfl,ak,.nil,λb o n e=>by rw[aj n];exact e]
  .rintro i Z H7 _ ⟨y0,y1,vs,rfl,_,_,k7⟩;exact SqL.of (k7 _ _ (au (s6 _ _ hjj) hD2) (s6 _ _ hjj))
  .rintro i m7 y Z H7 hy hm7 ⟨y0,y1,vs,rfl,h7,hv,k7⟩;have hi:=(aM.mp hy).1;have s7:Same H6 H7:=λb o e=>k7 b o (au e hD2) e;obtain ⟨c,hc,a,sa,rfl,_,ha,hsa⟩:∃ c,(aY ps j (ps.length+1))[i]?=some c/\cg [] H5 (ab ps LA j) ps LA c y:=gQ hJ hy;have hvl:=hv.length;rw[aT,eh (by lia)]at hvl;have s57:Same H5 H7:=s6.trans s7;have nD7:H7 D=some (.lst us):=s57 _ _ h5;refine #[_,_,rfl,SqT.of (s57 _ _ ha),rfl,_,_,rfl,_,_,rfl,rfl,_,rfl,_,rfl,_,_,rfl,.inl (SqL.of (s57 _ _ hsa)),λl8 hl8=>?_];have s8:=aD hl8 (.lst ((fw (ab ps LA j) (ab ps LA c)).map nV));have h8l:upd H7 l8 (.lst ((fw (ab ps LA j) (ab ps LA c)).map nV)) l8=some (.lst ((fw (ab ps LA j) (ab ps LA c)).map nV)):=ak;have n8:l8∉[D2,D]:=λz=>by
    rcases aW.mp z with e|e
    .rw[e,h7]at hl8;cases hl8
    .rw[aQ.mp e,nD7]at hl8;cases hl8
   generalize upd H7 l8 (.lst ((fw (ab ps LA j) (ab ps LA c)).map nV))=H8 at s8 h8l ⊢;refine #[(by show 2<=sizeLine;decide),λb9 hb9=>?_];have s9:=aD hb9 (.tup [.int (c:Int),.ref l8]);have h9:upd H8 b9 (.tup [.int (c:Int),.ref l8]) b9=some (.tup [.int (c:Int),.ref l8]):=ak;generalize upd H8 b9 (.tup [.int (c:Int),.ref l8])=H9 at s9 h9 ⊢;have s79:Same H7 H9:=s8.trans s9;have h9D:=s79 _ _ h7;have kk:∀ o,But D2 H9 (upd H9 D2 o):=λo b o' n e=>by rw[aj n];exact e
   refine #[vs,h9D,bh (by lia),m7-1,by lia,by lia,_,_,vs++[.ref b9],rfl,ak,?_,λb o n e=>by rw[aj n];exact s79 _ _ (k7 b o n e)];rw[cF (by lia),(aM.mp hc).2];refine iA (bX (λa b h=>cg.but (kk _) bx h9D (cg.same s79 h)) hv) ?_;exact cg.but (kk _) bx h9D #[b9,l8,rfl,n8,h9,s9 _ _ h8l]
  rintro Z H7 ⟨y0,y1,vs,rfl,h7,hv,k7⟩;rw[<-hcl,bu (ai _)]at hv;have s7:Same H6 H7:=λb o e=>k7 b o (au e hD2) e;have hul:=hu.length;rw[cq]at hul;refine #[(by show 3<=sizeLine;decide),λb8 hb8=>?_];have s8:=aD hb8 (.tup [.int ((ab ps LA j).length:Nat),.ref l6,.ref D2]);have h8:upd H7 b8 (.tup [.int ((ab ps LA j).length:Nat),.ref l6,.ref D2]) b8=some (.tup [.int ((ab ps LA j).length:Nat),.ref l6,.ref D2]):=ak;generalize upd H7 b8 (.tup [.int ((ab ps LA j).length:Nat),.ref l6,.ref D2])=H8 at s8 h8 ⊢;have s58:Same H5 H8:=s6.trans (s7.trans s8);have h8D:=s58 _ _ h5;have kk:∀ o,But D H8 (upd H8 D o):=λo b o' n e=>by rw[aj n];exact e
  refine #[us,h8D,bh (by lia),m-1,by lia,by lia,_,us++[.ref b8],rfl,ak,?_,λb o n e=>by rw[aj n];exact s58 _ _ (k5 b o n e)];rw[fQ];refine iA (bX (λa b h=>BrAt.but (kk _) bx h8D (BrAt.same s58 h)) hu) ?_;refine BrAt.but (kk _) bx h8D #[b8,l6,D2,vs,rfl,λz=>nl6 (aQ.mp z),λz=>nD2 (aQ.mp z),h8,s8 _ _ (s7 _ _ h6l),s8 _ _ h7,?_];exact bX (λa b h=>cg.same s8 (cg.less (λx z=>bG _ z) h)) hv
 rintro Z H5 ⟨x0,us,rfl,h5,hu,k5⟩;rw[<-hxl]at hu;exact q D us H5 (λb o e=>k5 b o (au e hD) e) h5 (bX (λa b=>BrAt.less) hu)
def Kb (n:Int)(xs:List Int):inV (.int n) (xs.map V.int)=decide (n∈xs):=by
 unfold inV
 induction xs with
 | nil=>rfl
 | cons x xs ih=>
  rw[bI,gx,ih];show (x==n||decide (n∈xs))=decide (n∈x::xs);by_cases h:x=n
  .subst h;simp
  .have h2:¬ n=x:=λz=>h z.symm;simp[h,h2]
abbrev iiL (L:List (Nat×Nat)):List (Int×Int):=L.map λe=>((e.1:Int),(e.2:Int))
def CB (T:aO ps)(h:isB ps k0 j=true)(c:j≠k0):∃ p,par ps j=some p/\isB ps k0 p=true:=by
 cases hp:par ps j with
 | none=>
  exfalso;cases j with
  | zero=>
   have:=fm T (show 0<k0 by lia);rw[h]at this;cases this
  | succ e=>
   have hb:=h;unfold isB wayL at hb;unfold wayF at hb;rw[af c,hp]at hb;cases hb
 | some p=>exact #[p,rfl,by rw[<-eR T c hp];exact h]
inductive v5 (K:Frag)(vs:List V)(H:Hp)(Q:VK)(w_1:XK):Prop
 | c:∀(br t pf sa ad:Addr) (ps:List Nat) (LA:List (List Int)) (key:Int) (k0:Nat) (L:List (Nat×Nat)) (xs zs:List V) (qs:List Addr) (kvs:List (Key×V)),vs=[.ref br,.ref t,.ref pf,.int k0,.ref sa,.ref ad]->H br=some (.lst xs)->Paired (BrAt [] H ps LA) (List.range (ps.length+1)) xs->aO ps->H t=some (.tup (bO ps))->H pf=some (.lst (qs.map V.ref))->bt K H ps LA (List.range (ps.length+1)) qs->k0<ps.length+1->H sa=some (.dK kvs)->(∀ j:Nat,j<ps.length+1->isB ps k0 j=true->valV kvs (.inl (j:Int))=some (.int ((aL (ab ps LA j) key:Nat):Int)))->H ad=some (.lst zs)->aB K H (iiL L) zs->L.length<=76->ModB ps LA key k0 (isB ps k0) L->(∀ H',Same H H'->Q (.bl true) H')->v5 K vs H Q w_1
def Kc (T:Txt K mg)(xw:DF K mg "_law_modest" pP qM)(KY:FC P w K mg base 1 "_law_figures" qH (vT K))(KZ:FC P w K mg base 1 "_law_start" qK (vW K)):FC P w K mg base 2 "_law_modest" qM (v5 K):=by
 refine xw.ok pV (λvs H Q E h=>?_) (λf cdv A outer s H vs Q E hr h=>?_)
 .obtain ⟨br,t,pf,sa,ad,ps,LA,key,k0,L,xs,zs,qs,kvs,rfl,_⟩:=h;rfl
 obtain ⟨br,t,pf,sa,ad,ps,LA,key,k0,L,xs,zs,qs,kvs,rfl,hbr,hB,hT,htr,hpf,hF,hk0,hsa,hval,had,hzs,hL,M,q⟩:=h;refine #[_,(iy (bR (bg nW (aV GJ rfl T.bQ bJ (aa (fH (GI rfl (hu8 hr)) rfl T.Kq boot_set (aa (pv 5) ag)) ag)) (aV (bS (K:=K)) rfl T.bQ bJ (aa (pv 5) ag)) (bz _)) (av (aN dE)) cv)
   (iy (bR (bg nX (aV (bS (K:=K)) rfl T.bQ bJ (aa (d4 (N:=["_law_one","_law_top"]) (own:=1) (cap:=[3]) rfl (du (pv 5)) #[rfl,rfl,rfl,rfl,rfl,rfl] (λ_ _ _ _ _=>(aF (i:=0) (show List.Nodup (["_law_one","_law_top"]:List Str) by decide +kernel) rfl (ar rfl))) (λ_ _ _ _ _=>(ik (bg dF (aH (bN (K:=K)) (pv 0) ah (λ_ _=>rfl)) (pv 1) (bz _)))) (λ_ _ _ _ _=>(pv 0))) ag)) (aG KY hr (aa (aV (bS (K:=K)) rfl T.bQ bJ (aa (aH (bC (K:=K)) (pv 2) (pv 3) (λ_ _=>rfl)) ag)) ag)) (bz _)) (av (aN dE)) cv)
   (cP (bZ PassesOwn.never rfl (du (pv 5)) (gF rfl (cB (aF (i:=6) pV.nd rfl (ar rfl)) (cB (aF (i:=7) pV.nd rfl (ar rfl)) fF))) (iy (bR (PW.pt (lA (bg (Gq (c9 hr)) (pv 6) (pv 4) (by with_unfolding_all rfl)) (nS (lB (Dz xY fS ah (pv 7) (aV (bS (K:=K)) rfl T.bQ bJ (aa (aH (bC (K:=K)) (pv 2) (pv 6) (λ_ _=>rfl)) ag))))))) (av (aN dE)) cv)
   (av (bR (bg nW (pv 6) (pv 3) (bz _)) (cP (aC (i:=8) pV.nd rfl (ar rfl) (aG KZ hr (aa (pv 0) (aa (aH (bN (K:=K)) (pv 1) (pv 6) (λ_ _=>rfl)) (aa (pv 6) (aa (gb (c9 hr) (pv 4) (aH (bN (K:=K)) (pv 1) (pv 6) (λ_ _=>rfl)) (λ_ _=>rfl)) ag))))))
   (av (bR (bg (lR (K:=K)) (pv 7) (cC (aa (pv 8) (aa (aw bF (pv 8) ah) ag))) (by with_unfolding_all rfl)) (av (aN dE)) cv))) cv))))
   (av (aN dE))))),?_]
 have hzl:=hzs.length;rw[aq]at hzl;refine #[λZ' H'=>(∃ x6 x7 x8:Option V,Z'=[some (.ref br),some (.ref t),some (.ref pf),some (.int k0),some (.ref sa),some (.ref ad),x6,x7,x8])/\Same H H',?_,?_]
 .intro N n;refine #[_,rfl,ad,iiL L,zs,rfl,SqL.of had,hzs,by rw[aq];exact hL,?_,λl o hl hw=>?_]
  ·exact List.Pairwise.map _ (R:=λa b:Nat×Nat=>a≠b) (λa b ne z=>ne (by
    have h1:=congrArg Prod.fst z;have h2:=congrArg Prod.snd z;exact Prod.ext (Int.ofNat.inj h1) (Int.ofNat.inj h2))) M.nd
  have sl:=aD hl (.ext λh=>h.get? l=some o);refine #[l,o,_,rfl,ak,hw,by rw[aq];lia,_,rfl,_,_,rfl,.inl (SqL.of (sl _ _ had)),?_];rw[aq,hzl];exact #[rfl,_,rfl,lH rfl (n _ _ #[#[_,_,_,rfl],sl])]
 rintro _ H2 ⟨⟨y6,y7,y8,rfl⟩,s2⟩;refine #[λZ' H'=>(∃ x6 x7 x8:Option V,Z'=[some (.ref br),some (.ref t),some (.ref pf),some (.int k0),some (.ref sa),some (.ref ad),x6,x7,x8])/\Same H H',?_,?_]
 .intro N n;refine #[_,rfl,ad,rfl,#[_,SqL.of (s2 _ _ had)],λD hD=>?_];refine fI (xs:=zs) (λj Z H5=>∃(x0:Option V) (vs:List V),Z=[x0,some (.int k0)]/\H5 D=some (.lst vs)/\vs.length=((L.take j).filter λe=>decide (e.1=k0)).length/\But D H2 H5) ?_ ?_ ?_ ?_
  .exact #[_,[],rfl,ak,rfl,λb o n e=>by rw[aj n];exact e]
  .rintro j Z H5 _ ⟨x0,vs,rfl,_,_,k5⟩;exact SqL.of (k5 _ _ (au (s2 _ _ had) hD) (s2 _ _ had))
  .rintro j m x Z H5 hx hm ⟨x0,vs,rfl,h5,hu,k5⟩;have hj:=(aM.mp hx).1;obtain ⟨e,he,bb,x1,x2,rfl,hb,e1,e2⟩:∃ e,(iiL L)[j]?=some e/\hasP K H e x:=gQ hzs hx;rw[bf]at he;obtain ⟨e0,he0,rfl⟩:=eZ.mp he;have e1':x1=.int e0.1:=e1;subst e1';have s5:Same H2 H5:=λb o e=>k5 b o (au e hD) e;have htk:L.take (j+1)=L.take j++[e0]:=by rw[cF (by lia),(aM.mp he0).2]
   have hsl:((L.take j).filter λe=>decide (e.1=k0)).length<=j:=ax (dW _ _) (by rw[aT];lia);refine #[_,rfl,_,_,_,_,rfl,rfl,SqT.of (s5 _ _ (s2 _ _ hb)),rfl,_,rfl,rfl,_,rfl,?_];refine ite2 (λc=>?_) (λc=>?_)
   .have c':e0.1=k0:=by have:=V.int.inj (bM c);lia
    refine #[_,rfl,_,h5,bh (by lia),m-1,by lia,by lia,_,_,rfl,ak,?_,λb o n e=>by rw[aj n];exact k5 b o n e];rw[htk,c7,dr (p:=λe:Nat×Nat=>decide (e.1=k0)) (aX c'),bc,bc,hu];rfl
   .have c':¬ e0.1=k0:=λz=>c (aX (by rw[z]));refine #[m-1,by lia,by lia,_,_,rfl,h5,?_,k5];rw[htk,c7,eB (p:=λe:Nat×Nat=>decide (e.1=k0)) (by rw[bj c'];exact cm),nK,bY];exact hu
  rintro Z H5 ⟨x0,vs,rfl,h5,hu,k5⟩;rw[<-hzl,bu (ai _)]at hu;have s5:Same H2 H5:=λb o e=>k5 b o (au e hD) e;obtain ⟨qk,hqk,wk,hwk,hak⟩:=gw hF hk0;have hwl:=hak.length;have hfst:=M.fst;refine #[D,_,rfl,.inl (SqL.of h5),?_];refine #[_,rfl,_,rfl,_,_,_,_,rfl,rfl,SqL.of (s5 _ _ (s2 _ _ hpf)),eW hqk,_,_,rfl,.inl (SqL.of (s5 _ _ (s2 _ _ hwk))),_,rfl,_,_,rfl,rfl,_,rfl,?_];rw[<-hwl,hu];exact E6 (by lia) (n _ _ #[#[_,_,_,rfl],s2.trans s5])
 rintro _ H3 ⟨⟨z6,z7,z8,rfl⟩,s3⟩;intro N n;refine #[_,rfl,ad,rfl,#[_,SqL.of (s3 _ _ had)],?_];refine jF (xs:=zs) (λi Z' H'=>(∃ x6 x7 x8:Option V,Z'=[some (.ref br),some (.ref t),some (.ref pf),some (.int k0),some (.ref sa),some (.ref ad),x6,x7,x8])/\Same H H') ?_ ?_ ?_ ?_
 .exact #[#[_,_,_,rfl],s3]
 .rintro i Z H4 _ ⟨_,s4⟩;exact SqL.of (s4 _ _ had)
 .rintro i x Z H4 hx ⟨⟨w6,w7,w8,rfl⟩,s4⟩;obtain ⟨e,he,bb,x1,x2,rfl,hb,e1,e2⟩:∃ e,(iiL L)[i]?=some e/\hasP K H e x:=gQ hzs hx;rw[bf]at he;obtain ⟨e0,he0,rfl⟩:=eZ.mp he;have e1':x1=.int e0.1:=e1;have e2':x2=.int e0.2:=e2;subst e1' e2';have hin:=cy he0;obtain ⟨hk1,hk2⟩:=M.kn _ hin;have hkn:e0.1<ps.length+1:=by
   by_cases c:e0.1=k0
   .omega
   .obtain ⟨p,hp,_⟩:=CB hT hk1 c;exact (bw hT hp).2
  obtain ⟨qk,hqk,wk,hwk,hak⟩:=gw hF hkn;refine #[bb,_,rfl,SqT.of (s4 _ _ hb),rfl,_,_,rfl,_,_,rfl,rfl,?_];refine #[λZ' H'=>Z'=[some (.ref br),some (.ref t),some (.ref pf),some (.int k0),some (.ref sa),some (.ref ad),some (.int (e0.1:Int)),some (.int (e0.2:Int)),w8]/\H4=H',?_,?_]
  .intro N2 n2;have hg:=DGet.k (k:=(.inl (e0.1:Int))) (s4 _ _ hsa);rw[hval _ hkn hk1]at hg;refine #[_,rfl,_,rfl,sa,_,rfl,hg,_,rfl,iteF ?_];have hwl:=hak.length;refine #[_,rfl,_,_,rfl,rfl,_,rfl,tT (by lia) ?_];refine #[_,rfl,_,rfl,_,_,_,_,rfl,rfl,SqL.of (s4 _ _ hpf),eW hqk,_,_,rfl,.inl (SqL.of (s4 _ _ hwk)),_,_,rfl,rfl,_,rfl,?_];exact lH (by lia) (n2 _ _ #[rfl,rfl])
  rintro _ _ ⟨rfl,rfl⟩;refine #[_,rfl,_,rfl,rfl,_,rfl,?_];refine ite2 (λc=>?_) (λc=>?_)
  .have c':e0.1≠k0:=λz=>by
    rw[z]at c;simp at c
   obtain ⟨p,hp,hpB⟩:=CB hT hk1 c';have hpn:p<ps.length+1:=by have:=(bw hT hp).1;lia
   have hat:=mH hkn;rw[kh hp]at hat;have hg:=DGet.k (k:=(.inl (p:Int))) (s4 _ _ hsa);rw[hval _ hpn hpB]at hg;intro N2 n2;refine #[_,rfl,_,rfl,_,rfl,_,_,_,_,rfl,rfl,SqT.of (s4 _ _ htr),hat,_,rfl,_,rfl,_,rfl,_,rfl,_,_,_,_,rfl,rfl,SqT.of (s4 _ _ htr),hat,sa,_,rfl,hg,?_];refine #[br,ps,LA,xs,p,e0.1,_,rfl,s4 _ _ hbr,bX (λa b h=>BrAt.same s4 h) hB,hT,hpn,hp,je _ _,λH5 s5=>n2 _ _ ?_];have hst:=M.nxt e0 hin c' p hp;unfold stP at hst;generalize stN (ab ps LA e0.1) ((ab ps LA p).take (aL (ab ps LA p) key))=st at hst ⊢;refine #[_,rfl,_,rfl,_,rfl,_,_,rfl,rfl,(by show 2<=sizeLine;decide),λpp hpp=>?_];have sp:=aD hpp (.tup [.int (st:Int),.int ((st:Int)+1)]);refine #[pp,_,rfl,.inr (SqT.of ak),rfl,rfl,_,rfl,?_];show if (!inV (.int (e0.2:Int)) ([(st:Int),(st:Int)+1].map V.int))=true then _ else _
   rw[Kb,aX (by simp only[aW,dU,or_false];lia)];exact iteF #[#[_,_,_,rfl],s4.trans (s5.trans sp)]
  .exact #[#[_,_,_,rfl],s4]
 rintro Z H4 ⟨⟨w6,w7,w8,rfl⟩,s4⟩;exact n _ _ (q _ s4)
def CC {K:Frag}{ad:Addr}:∀{js:List Nat} {qs:List Addr},ad∉qs->(∀ q∈qs,∀ ws,H q=some (.lst ws)->H' q=some (.lst ws))->(∀ b us,H b=some (.tup us)->H' b=some (.tup us))->bt K H ps LA js qs->bt K H' ps LA js qs
 | _,_,_,_,_,.nil=>.nil
 | _,_,hn,k1,k2,.cons ⟨ws,h1,h2⟩ t=>.cons #[ws,k1 _ bx _ h1,jf k2 h2] (CC (λz=>hn (bG _ z)) (λq hq=>k1 q (bG _ hq)) k2 t)
structure Sm (d:PyData)(dp n:Nat):Prop where
 sh:d.showable=true
 nd:d.hasDict=false
 dp:d.depth<=dp
 ln:d.shown.length<=n
def v7 {n:Nat}(h:n<1024):Sm (.int (n:Int)) 0 4:=by
 have:∀ n:Fin 1024,(PyData.shown (.int ((n:Nat):Int))).length<=4/\(PyData.int ((n:Nat):Int)).showable=true:=by decide +kernel
 obtain ⟨h1,h2⟩:=this #[n,h];exact #[h2,by simp[PyData.hasDict],by simp[PyData.depth],h1]
def v8 :∀{ds:List PyData},(∀ d∈ds,Sm d dp n)->PyData.showableAll ds=true/\PyData.hasDictAll ds=false/\PyData.depthAll ds<=dp/\((PyData.shownAll ds).map (·.length)).sum<=n*ds.length/\(PyData.shownAll ds).length=ds.length
 | [],_=>#[by simp[PyData.showableAll],by simp[PyData.hasDictAll],by simp[PyData.depthAll],by simp[PyData.shownAll],by simp[PyData.shownAll]]
 | d::ds,h=>by
  have s:=h d bx;obtain ⟨g1,g2,g3,g4,g5⟩:=v8 (ds:=ds) λy hy=>h y (bG _ hy);have s4:=s.ln;have s3:=s.dp;refine #[by simp[PyData.showableAll,s.sh,g1],by simp[PyData.hasDictAll,s.nd,g2],?_,?_,?_]
  .simp only[PyData.depthAll];lia
  .simp only[PyData.shownAll,bI,dD,cE,Nat.mul_succ];lia
  .simp only[PyData.shownAll,cE,g5]
def wa {m:Nat}{ds:List PyData}(h:∀ d∈ds,Sm d dp n)(hm:ds.length<=m):Sm (.list ds) (dp+1) (n*m+2*m+3):=by
 obtain ⟨g1,g2,g3,g4,g5⟩:=v8 h;have:=listText_len_le (PyData.shownAll ds);have:=Nat.mul_le_mul_left n hm;refine #[by simpa [PyData.showable] using g1,by simpa [PyData.hasDict] using g2,by simp only[PyData.depth];lia,?_];simp only[PyData.shown];lia
def CD {m:Nat}{ds:List PyData}(h:∀ d∈ds,Sm d dp n)(hm:ds.length<=m):Sm (.tuple ds) (dp+1) (n*m+2*m+3):=by
 obtain ⟨g1,g2,g3,g4,g5⟩:=v8 h;have:=tupleText_len_le (PyData.shownAll ds);have:=Nat.mul_le_mul_left n hm;refine #[by simpa [PyData.showable] using g1,by simpa [PyData.hasDict] using g2,by simp only[PyData.depth];lia,?_];simp only[PyData.shown];lia
def Sm.le {dp n dp' n':Nat}(s:Sm d dp n)(h1:dp<=dp')(h2:n<=n'):Sm d dp' n':=#[s.sh,s.nd,ax s.dp h1,ax s.ln h2]
def mP (l:List Nat):PyData:=.list (l.map λn:Nat=>.int (n:Int))
def rO (ps:List Nat)(LA:List (List Int))(k c:Nat):PyData:=.tuple [.int (c:Int),mP (fw (ab ps LA k) (ab ps LA c))]
def brD (ps:List Nat)(LA:List (List Int))(k:Nat):PyData:=.tuple [.int ((ab ps LA k).length:Nat),mP (fZ k (ab ps LA k)),.list ((aY ps k (ps.length+1)).map (rO ps LA k))]
def brsD (ps:List Nat)(LA:List (List Int)):PyData:=.list ((List.range (ps.length+1)).map (brD ps LA))
def wb :∀ l:List Nat,RDs H (l.map nV) (l.map λn:Nat=>PyData.int (n:Int)) []
 | []=>.nil
 | _::l=>.cons (as:=[]) (bs:=[]) (.int _) (wb l)
def CF {k:Nat}:∀{cs:List Nat} {ys:List V},Paired (cg [] H (ab ps LA k) ps LA) cs ys->∃ as,RDs H ys (cs.map (rO ps LA k)) as
 | _,_,.nil=>#[[],.nil]
 | _,_,.cons ⟨j,s,e1,_,h1,h2⟩ t=>by
  obtain ⟨as,r⟩:=CF t;subst e1;exact #[_,.cons (.tup h1 (.cons (.int _) (.cons (.lst h2 (wb _)) .nil))) r]
def CG :∀{ks:List Nat} {xs:List V},Paired (BrAt [] H ps LA) ks xs->∃ as,RDs H xs (ks.map (brD ps LA)) as
 | _,_,.nil=>#[[],.nil]
 | _,_,.cons ⟨b,o,j,ys,e1,_,_,h1,h2,h3,h4⟩ t=>by
  obtain ⟨as,r⟩:=CG t;obtain ⟨bs,r2⟩:=CF h4;subst e1;exact #[_,.cons (.tup h1 (.cons (.int _) (.cons (.lst h2 (wb _)) (.cons (.lst h3 r2) .nil)))) r]
def CH (cs:List En):∀(es:List En) (s:Nat),s<=cs.length->es.foldl (rD cs) s<=cs.length
 | [],_,h=>h
 | e::es,s,h=>by
  refine CH cs es _ ?_;unfold rD;split
  .rename_i hm;exact List.idxOf_lt_length_of_mem hm
  .exact h
def CI {l:List Nat}(h:∀ n∈l,n<1024)(hl:l.length<=401):Sm (mP l) 1 2409:=by
 refine Sm.le (wa (dp:=0) (n:=4) (m:=401) (λd hd=>?_) (by rw[aq];exact hl)) (ai _) (by decide);obtain ⟨n,hn,rfl⟩:=bA.mp hd;exact v7 (h n hn)
def Kd {k:Nat}(h1:(ab ps LA k).length<=400)(h2:(ab ps LA c).length<=400)(hc:c<1024):Sm (rO ps LA k c) 2 4825:=by
 have hs:Sm (mP (fw (ab ps LA k) (ab ps LA c))) 1 2409:=by
  refine CI (λn hn=>?_) ?_
  .obtain ⟨p,_,rfl⟩:=bA.mp hn;have:=CH (ab ps LA c) ((ab ps LA k).take p) 0 (bK _);show ((ab ps LA k).take p).foldl (rD (ab ps LA c)) 0<1024;lia
  .unfold fw;rw[aq,cq];lia
 refine Sm.le (CD (dp:=1) (n:=2409) (m:=2) (λd hd=>?_) (ai 2)) (ai _) (by decide);rcases aW.mp hd with e|e
 .rw[e];exact (v7 hc).le (by decide) (by decide)
 .rw[aQ.mp e];exact hs
def Ke {ps:List Nat}{k:Nat}(hn:ps.length<31)(hf:∀ k,k<ps.length+1->(ab ps LA k).length<=400)(hk:k<ps.length+1):Sm (brD ps LA k) 4 448929:=by
 have ho:Sm (mP (fZ k (ab ps LA k))) 1 2409:=by
  have:=hf k hk;refine CI (λn hn=>?_) ?_
  .obtain ⟨p,_,rfl⟩:=bA.mp hn;have h1:dO k ((ab ps LA k).take p)<=((ab ps LA k).take p).length:=dW _ _;rw[aT]at h1;show dO k ((ab ps LA k).take p)<1024;lia
  .unfold fZ;rw[aq,cq];lia
 have hj:Sm (.list ((aY ps k (ps.length+1)).map (rO ps LA k))) 3 149640:=by
  refine Sm.le (wa (dp:=2) (n:=4825) (m:=31) (λd hd=>?_) ?_) (ai _) (by decide)
  .obtain ⟨c,hc,rfl⟩:=bA.mp hd;have hc2:=(cO.mp hc).1;exact Kd (hf k hk) (hf c hc2) (by lia)
  .rw[aq];unfold aY;exact ax (dW _ _) (by rw[cq];lia)
 refine Sm.le (CD (dp:=3) (n:=149640) (m:=3) (λd hd=>?_) (ai 3)) (ai _) (by decide);simp only[aW,dU,or_false]at hd;rcases hd with e|e|e
 .rw[e];exact (v7 (by have:=hf k hk;lia)).le (by decide) (by decide)
 .rw[e];exact ho.le (by decide) (by decide)
 .rw[e];exact hj
def Kf {ps:List Nat}(hn:ps.length<31)(hf:∀ k,k<ps.length+1->(ab ps LA k).length<=400):Sm (brsD ps LA) 5 13916864:=by
 refine Sm.le (wa (dp:=4) (n:=448929) (m:=31) (λd hd=>?_) (by rw[aq,cq];lia)) (ai _) (by decide);obtain ⟨k,hk,rfl⟩:=bA.mp hd;exact Ke hn hf (cZ.mp hk)
def CJ {H:Hp}{br:Addr}{xs:List V}{Q:VK}(hb:H br=some (.lst xs))(hB:Paired (BrAt [] H ps LA) (List.range (ps.length+1)) xs)(hn:ps.length<31)(hf:∀ k,k<ps.length+1->(ab ps LA k).length<=400)(q:Q (.str (brsD ps LA).shown) H):uo [.ref br] H Q:=by
 obtain ⟨as,r⟩:=CG hB;have s:=Kf hn hf;exact #[br,brsD ps LA,br::as,rfl,.lst hb r,s.sh,PyData.noDict_hsm s.nd,ax s.dp (by decide),ax s.ln (by decide),q]
def Kg {K:Frag}{bs:Heap}{g ad pf mF c':Addr}{q:Str}{pn:List Str}{tb:TE}{qs:List Addr}{key:Int}
  (hV:FV P w K mg bs 2 g pn (lV 2 tb [.ref ad,.ref pf,.int key] c' q)) (hC:i0 H4 c' q) (had:H4 ad=some (.lst [])) (hpf:H4 pf=some (.lst (qs.map V.ref))) (hF:bt K H4 ps LA (List.range (ps.length+1)) qs) (n1:ad≠pf) (n2:ad∉qs) (ht:∃ tab,H4 mF=some (.tbl tab))
  (htb:∀(kn i:Nat) (H:Hp) (Q:VK),rM K [.ref ad,.ref pf,.int key,.int kn,.int i] H Q E0->tb [some (.int kn),some (.int i),some (.ref ad),some (.ref pf),some (.int key)] H Q) :
  AskF P w K mg bs g [ad] mF (λb=>b≠mF/\H4 b≠none) (λL H'=>(∃ zs,H' ad=some (.lst zs)/\aB K H' (iiL L) zs)/\∀ b o,b≠mF->b≠ad->H4 b=some o->H' b=some o) ps LA key:=by
 have nm:∀{x:Addr} {o:HO},H4 x=some o->(∀ tab,o≠.tbl tab)->x≠mF:=λ{x o} e n z=>by
  obtain ⟨tab,e2⟩:=ht;rw[<-z,e]at e2;exact n _ (aJ e2)
 have nad:=nm had nofun;refine #[λL Ha Hb ⟨⟨zs,h1,h2⟩,hk⟩ k=>#[#[zs,k _ _ (.inl #[nad,by rw[had];exact λz=>nomatch z]) h1,jf (λb us e=>k _ _ (.inr #[us,rfl]) e) h2],λb o m1 m2 e=>k b o (.inl #[m1,by rw[e];exact λz=>nomatch z]) (hk b o m1 m2 e)],λL Ha b ⟨⟨zs,h1,_⟩,hk⟩ hb=>?_,λL Ha zq0 a ha=>(by obtain ⟨⟨zs,h1,_⟩,_⟩:=zq0;exact #[zs,by rw[aQ.mp ha];exact h1]),λz=>z.1 rfl,pn,_,hV,λkn i L Ha Q hkn hi hL ⟨⟨zs,h1,h2⟩,hk⟩ hQ=>?_]
 .by_cases c:b=ad
  .rw[c,h1];exact λz=>nomatch z
  .cases e:H4 b with
   | none=>exact absurd e hb.2
   | some o=>
    rw[hk b o hb.1 c e];exact λz=>nomatch z
 have nc:c'≠ad:=λz=>by
  have hC':H4 c'=_:=hC;rw[z,had]at hC';cases hC'
 have hzl:=h2.length;rw[aq]at hzl;refine #[rfl,hk _ _ (nm hC nofun) nc hC,htb kn i Ha Q ?_];have hp':=hk _ _ (nm hpf nofun) (aS n1) hpf;have hF':bt K Ha ps LA (List.range (ps.length+1)) qs:=CC n2 (λq hq ws e=>hk _ _ (nm e nofun) (λz=>n2 (z ▸ hq)) e) (λb us e=>hk _ _ (nm e nofun) (λz=>by rw[z,had]at e;cases e) e) hF
 refine #[ad,pf,zs,qs,ps,LA,key,kn,i,rfl,h1,by lia,hp',hF',hkn,hi,n1,n2,λt ht=>hQ _ #[#[_,ak,?_],λb o m1 m2 e=>?_] λb o m e=>?_]
 .have nt:t≠ad:=λz=>by rw[z,h1]at ht;cases ht
  have e:iiL (L++[(kn,i)])=iiL L++[((kn:Int),(i:Int))]:=bq ..;rw[e];refine aB.append (jf (λb us e=>?_) h2) (.cons #[t,_,_,rfl,by rw[aj nt];exact ak,rfl,rfl] .nil);rw[aj (λz=>by rw[z,h1]at e;cases e)]
  exact aD ht _ _ _ e
 .rw[aj m2];exact aD ht _ _ _ (hk b o m1 m2 e)
 .rw[aj (λz=>m (by rw[z];exact aQ.mpr rfl))];exact aD ht _ _ _ e
def CK:∀(k n:Nat),n<2^k->figN n<=k
 | 0,n,h=>by
  have:n=0:=by simpa using h
  rw[this];unfold figN;exact ai _
 | k+1,n,h=>by
  unfold figN;split
  .exact bK _
  .have:=CK k (n/2) (by rw[hE]at h;lia);lia
def CL {K:Frag}{p:Addr}:∀{n:Nat} {qs:List Addr} (m:Nat),qs.length=n->(∀(j:Nat) (q:Addr),qs[j]?=some q->∃ ws,H q=some (.lst ws)/\aB K H (ab ps LA (m+j)) ws)->bt K H ps LA (List.range' m n) qs
 | _,[],_,rfl,_=>.nil
 | _,q::qs,m,rfl,h=>by
  refine .cons (h 0 q rfl) (CL (p:=p) (m+1) rfl λj q' hj=>?_);have:=h (j+1) q' hj;rwa[show m+(j+1)=m+1+j by lia]at this
def FA.fulls {K:Frag}{n:Nat}(h:FA K H p qs n (ab ps LA)):bt K H ps LA (List.range n) qs:=by
 rw[List.range_eq_range'];exact CL (p:=p) 0 h.len λj q hj=>by
  rw[fD];exact h.get j q hj
def rP (x:cW H Pt pos q):∃ tab,H Pt=some (.tbl tab):=by
 obtain ⟨tab,e,_⟩:=x.ex;exact #[tab,e]
def Kh {H:Hp}{ad:Addr}{js:List Nat}{xs:List V}(hn:H ad=none)(k:Kp0 H H')(h:Paired (BrAt [] H ps LA) js xs):Paired (BrAt [ad] H' ps LA) js xs:=by
 have na:∀{b:Addr} {o:HO},H b=some o->b∉[ad]:=λ{b o} e z=>by
  rw[aQ.mp z,hn]at e;cases e
 exact bX (λj x zq0=>(by obtain ⟨b,o,j',ys,h1,_,_,h4,h5,h6,h7⟩:=zq0;exact #[b,o,j',ys,h1,na h5,na h6,k.tup h4,k.lst h5,k.lst h6,bX (λc y cM=>(by obtain ⟨a,s,g1,_,g3,g4⟩:=cM;exact #[a,s,g1,na g4,k.tup g3,k.lst g4])) h7])) h
def Ki {mF ad:Addr}{zs:List V}(x:cW H Pt pos q)(n:Pt≠mF)(ha:H ad=some (.lst zs))(hm:∃ tab,H mF=some (.tbl tab))(k:KpA [ad] mF H H'):cW H' Pt pos q:=by
 obtain ⟨tab,h1,h2,h3⟩:=x.ex;have na:∀{b:Addr} {o:HO},H b=some o->(∀ zs,o≠.lst zs)->b∉[ad]:=λ{b o} e m z=>by
  rw[aQ.mp z,ha]at e;exact m _ (aJ e).symm
 refine #[tab,k _ _ (na h1 nofun) n h1,h2,?_];rcases h3 with h3|⟨c,h3,h4⟩
 .exact .inl h3
 .refine .inr #[c,h3,k _ _ (na h4 nofun) (λz=>?_) h4];obtain ⟨t2,e2⟩:=hm;rw[<-z,show H c=_ from h4]at e2;cases e2
def CM {X:Cx}{K:Frag}(h:X.K=K:=by rfl):OpR X (binaryOp .Add) (oa K):=by
 subst h;exact tE
abbrev Kj:Str:=(envOfC ("law" : Str) (aI jU) 0 0 .none).qual ++ "<lambda>"
abbrev Kk:Pos:=#[296,60,296,174]
abbrev lawRoom:Nat:=10
structure Tab2 (mF mL:Addr)(H:Hp):Prop where
 f:cW H mF rJ rH
 l:cW H mL Kk Kj
 n:mL≠mF
def Tab2.ext (x:Tab2 mF mL H)(e:Ext H H'):Tab2 mF mL H':=#[x.f.ext e,x.l.ext e,x.n]
structure kx (H:Hp)(ps:List Nat)(LA:List (List Int))(t rs:Addr)(as:List Addr):Prop where
 tr:H t=some (.tup (bO ps))
 rs:H rs=some (.tup (as.map V.ref))
 at_:bV H as LA
 len:LA.length=ps.length+1
 T:aO ps
 R:bP LA
 few:ps.length<31
 keys:cL LA<=400
def kx.tup {H H':Hp}{t rs:Addr}{ps:List Nat}{LA:List (List Int)}{as:List Addr}(S:kx H ps LA t rs as)(e:∀ b o,H b=some (.tup o)->H' b=some (.tup o)):kx H' ps LA t rs as:=#[e _ _ S.tr,e _ _ S.rs,bX (λ_ _ h=>e _ _ h) S.at_,S.len,S.T,S.R,S.few,S.keys]
def eV.pre {st t rs:Addr}(S:eV H st ps LA t rs as)(h:ps.length<31):kx H ps LA t rs as:=#[S.tr,S.rs,S.at_,S.len,S.T,S.R,h,S.keys]
def iB (ps:List Nat)(LA:List (List Int))(key:Int)(k:Nat):Key×V:=(.inl (k:Int),.int ((aL (ab ps LA k) key:Nat):Int))
def CN {key:Int}:∀{l:List Nat},j∈l->valV (l.map (iB ps LA key)) (.inl (j:Int))=some (.int ((aL (ab ps LA j) key:Nat):Int))
 | [],h=>absurd h dU
 | a::l,h=>by
  by_cases e:a=j
  .subst e;unfold valV;rw[bI,sV (by simp[iB])];rfl
  .have ih:=CN (ps:=ps) (LA:=LA) (key:=key) ((aW.mp h).resolve_left λz=>e z.symm);unfold valV at ih ⊢;rw[bI,sW (by simp[iB];lia)];exact ih
inductive kz (K:Frag)(mF mL:Addr)(vs:List V)(H:Hp)(Q:VK)(w_1:XK):Prop
 | c:∀(a:Addr) (ns:List Int),vs=[.ref a]->SqL K H a (ns.map V.int)->ns.length<=63->mF≠mL->H mF=some (.tbl (List.toArray []))->H mL=some (.tbl (List.toArray []))->(∀ H',Q (.bl true) H')->kz K mF mL vs H Q w_1
def Kl (T:Txt K mg){mc mp:Addr}(rT:DFT K mg "law" jU qN mc mp)(hBM:BMAt mg base)(K0:FC P w K mg base 1 "_law_begin" qt (tX K))(K1:FC P w K mg base 6 "_law_stand" qD (vU K))(K2:FC P w K mg base 3 "_law_wide" qE (vZ K))(xo:FC P w K mg base 5 "_law_rows" ma (rC K))(K3:FC P w K mg base 3 "_law_fulls" qC (vS K))(K4:FC P w K mg base 9 "bridges" qm (spBr K))(K5:FC P w K mg base 1 "_law_copied" qF (v3 K))(K7:FC P w K mg base 1 "_law_beneath" qL (mI K))(wX:FC P w K mg base 3 "_law_key" l9 (q9 K))(cj:FC P w K mg base 2 "_law_take" gM (ij K))(K9:FC P w K mg base 1 "_law_asked" qG (rM K))(La:FC P w K mg base 1 "_law_wholes" qJ (vY K))(Lb:FC P w K mg base 1 "_law_placed" qI (vX K))(Lc:FC P w K mg base 2 "_law_modest" qM (v5 K))(Ld:∀ b,Sub K mg base b->FC P w K mg b 6 "search_beneath" qr (vP P w K mg b mF)):FC P w K mg base 10 "law" qN (kz K mF mp):=by
 refine rT.ok cY (λvs H Q E h=>?_) (λf A outer s H vs Q E hr h=>?_)
 .obtain ⟨a,ns,rfl,_⟩:=h;rfl
 obtain ⟨a,ns,rfl,hS,_,hnd,hmF,hmL,q⟩:=h;refine #[_,(cP (aC (i:=1) cY.nd rfl (ar rfl) (aG K0 hr (aa (pv 0) ag)))
   (cP (gG (aG K1 hr (aa (pv 1) (aa ah (aa ah ag)))) (gF rfl (cB (aF (i:=2) cY.nd rfl (ar rfl)) (cB (aF (i:=3) cY.nd rfl (dg rfl)) fF))))
   (cP (aC (i:=4) cY.nd rfl (ar rfl) (aG cj hr (aa (pv 1) (aa ah ag))))
   (iy (bR (bg dF (pv 4) ah (bz _)) (av (gG (aG K2 hr (aa (pv 1) (aa (pv 2) (aa (pv 3) ag)))) (gF rfl (cB (aF (i:=2) cY.nd rfl (ar rfl)) (cB (aF (i:=3) cY.nd rfl (dg rfl)) fF))))) cv)
   (iy (bR (bg dF (pv 4) ah (bz _)) (cP (aC (i:=2) cY.nd rfl (ar rfl) (aw (CM (K:=K)) (cC (aa xD ag)) (aw (GP (K:=K)) (cC (aa ah ag)) (aw bF ah (aG cj hr (aa (pv 1) (aa ah ag)))))))
   (av (aC (i:=3) cY.nd rfl (dg rfl) (aG xo hr (aa (pv 1) (aa (aV (bS (K:=K)) rfl T.bQ bJ (aa (pv 2) ag)) (aa ah ag))))))) cv)
   (cP (aC (i:=5) cY.nd rfl (dg rfl) (aG K3 hr (aa (pv 2) (aa (pv 3) ag))))
   (cP (aC (i:=6) cY.nd rfl (ar rfl) (aG K5 hr (aa (aG K4 hr (aa (cC (aa (pv 2) (aa (pv 3) ag))) ag)) ag)))
   (cP (aC (i:=7) cY.nd rfl (ar rfl) (aV (z9 hr.gd (hu16 hr)) rfl T.CT boot_repr (aa (pv 6) ag)))
   (cP (bZ PassesOwn.never rfl (ff rfl T.de (aa ah ag)) (aF (i:=8) cY.nd rfl (ar rfl)) (cP (aC (i:=9) cY.nd rfl (ar rfl) (aw dh (aG cj hr (aa (pv 1) (aa (aV (bS (K:=K)) rfl T.bQ bJ (aa (pv 2) ag)) ag))) (pv 8)))
   (cP (aC (i:=10) cY.nd rfl (dg rfl) (aG wX hr (aa (pv 1) ag)))
   (cP (aC (i:=11) cY.nd rfl (ar rfl) (aH (bN (K:=K)) (pv 3) (aG cj hr (aa (pv 1) (aa (aV (bS (K:=K)) rfl T.bQ bJ (aa (pv 2) ag)) ag))) (λ_ _=>rfl)))
   (iy (bR (PW.pt (lz (bg (zB (Tup Int) (huD hr)) (pv 11) (cC ag) (bz _)) (ly (bg dF (aG cj hr (aa (pv 1) (aa ah ag))) ah (bz _))))) (av (aC (i:=10) cY.nd rfl (dg rfl) (aH (bN (K:=K)) (pv 11) (aG cj hr (aa (pv 1) (aa (aV (bS (K:=K)) rfl T.bQ bJ (aa (pv 11) ag)) ag))) (λ_ _=>rfl)))) cv)
   (cP (aC (i:=12) cY.nd rfl (dg rfl) (eC ag))
   (cP (aC (i:=13) cY.nd rfl (ar rfl) (Gd (kf:=1) Ld hr (pv 6) (pv 9) (Ad (osc:=aI jU) (N:=["_law_script","_law_state","_law_tree_here","_law_rows_here","_law_way","_law_fulls_here","_law_bridged","_law_kept","_law_turn","_law_top","_law_key_here","_law_some","_law_asked_here","_law_found","_law_due","_law_spots"]) (ps:=["_law_knot","_law_number"]) (caps:=["_law_asked_here","_law_fulls_here","_law_key_here"]) (cap:=[12,5,10]) #[rfl,rfl,rfl,by decide +kernel,by decide +kernel,by decide +kernel,by decide +kernel] (by decide +kernel) (by decide +kernel) rfl rfl rfl rfl (λ_ _ _ _ us hl=>match us,hl with | [_,_],_=>rfl) (λ_=>rfl)) rfl rT.hd hBM (λb _ _ _ _ _ _ _ S hr=>(aG (K9.lift S) hr (aa (pv 2) (aa (pv 3) (aa (pv 4) (aa (pv 0) (aa (pv 1) ag)))))))))
   (cP (il (i:=14) (N:=["_law_knot","_law_fulls_here","_law_rows_here","_law_key_here"]) (own:=1) (cap:=[5,3,10]) cY.nd rfl rfl rfl (du (aG K7 hr (aa (pv 2) (aa (pv 9) ag)))) #[rfl,rfl,rfl,rfl,rfl,rfl] (λ_ _ _ _ _=>(aF (i:=0) (show List.Nodup (["_law_knot","_law_fulls_here","_law_rows_here","_law_key_here"]:List Str) by decide +kernel) rfl (ar rfl))) (λ_ _ _ _ _=>dI) (λ_ _ _ _ _=>(aw (CM (K:=K)) (cC (aa (pv 0) ag)) (aG Lb hr (aa (pv 1) (aa (pv 2) (aa (pv 0) (aa (pv 3) ag))))))))
   (iy (bR (PW.pt (lA (lB (hG (aV (oD (K:=K)) rfl T.rQ boot_isinstance (aa (pv 13) (aa (nR (v:=.ty "list") rfl T.kG boot_list rfl) ag))))) (lA (bg nW (aV (bS (K:=K)) rfl T.bQ bJ (aa (pv 13) ag)) (aV (bS (K:=K)) rfl T.bQ bJ (aa (pv 14) ag)) (bz _)) (nS (bg nW (aV (z9 hr.gd (hu16 hr)) rfl T.CT boot_repr (aa (pv 6) ag)) (pv 7) (bz _)))))) (av (aN dE)) cv)
   (iy (bR (lB (hG (aV (zP rfl) rfl T.CP boot_all (aa (d4 (N:=["_law_one","_law_other"]) (own:=2) (cap:=[]) rfl (t7 rfl T.wg (aa (pv 13) (aa (pv 14) ag))) #[rfl,rfl,rfl,rfl,rfl,rfl] (λ_ _ _ _ _=>(oF (K:=K) (n:=2) rfl (cB (aF (i:=0) (show List.Nodup (["_law_one","_law_other"]:List Str) by decide +kernel) rfl (ar rfl)) (cB (aF (i:=1) (show List.Nodup (["_law_one","_law_other"]:List Str) by decide +kernel) rfl (ar rfl)) fF)))) (λ_ _ _ _ _=>dI) (λ_ _ _ _ _=>(aG La hr (aa (pv 0) (aa (pv 1) ag))))) ag)))) (av (aN dE)) cv)
   (cP (aC (i:=15) cY.nd rfl (ar rfl) (fH (Am rfl) rfl T.CQ boot_dict (aa (d4 (N:=["_law_knot","_law_spot","_law_own"]) (own:=3) (cap:=[]) rfl (du (pv 13)) #[rfl,rfl,rfl,rfl,rfl,rfl] (λ_ _ _ _ _=>(oF (K:=K) (n:=3) rfl (cB (aF (i:=0) (show List.Nodup (["_law_knot","_law_spot","_law_own"]:List Str) by decide +kernel) rfl (ar rfl)) (cB (aF (i:=1) (show List.Nodup (["_law_knot","_law_spot","_law_own"]:List Str) by decide +kernel) rfl (ar rfl)) (cB (aF (i:=2) (show List.Nodup (["_law_knot","_law_spot","_law_own"]:List Str) by decide +kernel) rfl (ar rfl)) fF))))) (λ_ _ _ _ _=>dI) (λ_ _ _ _ _=>(cC (aa (pv 0) (aa (pv 1) ag))))) ag)))
   (av (bR (lB (hG (aG Lc hr (aa (pv 6) (aa (pv 2) (aa (pv 5) (aa (pv 9) (aa (pv 15) (aa (pv 12) ag))))))))) (av (aN dE)) cv)))))))))))))
   (av (aN dE))))))))))),?_]
 have TT0:Tab2 mF mp H:=#[#[(List.toArray []),hmF,trivial,.inl rfl],#[(List.toArray []),hmL,trivial,.inl rfl],aS hnd];intro N1 n1;refine #[_,rfl,a,ns,rfl,hS,λd H1 _ g1 s1=>n1 _ _ ?_];clear n1 N1;intro N2 n2;have ndT:∀{H':Hp} {a':Addr} {o:HO},LS K a d H'->H' a'=some o->(∀ kvs,o≠.dK kvs)->a'≠d:=λ{H' a' o} s e n z=>by
  obtain ⟨_,_,_,e2,_⟩:=s.ex;rw[<-z,e]at e2;exact n _ (aJ e2)
 refine #[_,rfl,d,a,10,7,rfl,by decide,by decide,by decide,s1,λst ps LA t rs as H2 _ S hps hlen k2 s2=>?_];have TT2:=(TT0.ext g1.ext).ext (s1.ext k2);refine #[st,_,rfl,SqT.of S.st,rfl,_,_,rfl,_,_,rfl,rfl,n2 _ _ ?_];clear n2 N2 TT0 g1 k2;have S:=S.pre (by lia);intro N n;refine #[_,rfl,d,a,8,rfl,by decide,s2,λv H3 v0 v1 k3 s3=>n _ _ ?_];clear n N;have S3:=S.tup λb o e=>k3 _ _ (ndT s2 e nofun) e;have TT3:=TT2.ext (s2.ext k3);clear S s2 TT2 k3;refine #[λZ' H'=>∃(ps:List Nat) (LA:List (List Int)) (t rs:Addr) (as:List Addr),Z'=[some (.ref a),some (.ref d),some (.ref t),some (.ref rs),some (.int v),none,none,none,none,none,none,none,none,none,none,none]/\kx H' ps LA t rs as/\LS K a d H'/\Tab2 mF mp H',?_,?_]
 .intro N n;refine #[_,rfl,rfl,_,rfl,?_];refine ite2 (λc=>?_) (λc=>?_)
  .refine #[_,rfl,_,rfl,_,rfl,d,a,ps,LA,t,rs,as,rfl,S3.tr,S3.rs,S3.at_,S3.len,S3.T,S3.R,hlen,s3,λst' ps' rows' t' rs' as' H4 S4 hp4 k4 s4=>?_];exact #[st',_,rfl,SqT.of S4.st,rfl,_,_,rfl,_,_,rfl,rfl,n _ _ #[ps',rows',t',rs',as',rfl,S4.pre (by lia),s4,TT3.ext (s3.ext k4)]]
  .exact n _ _ #[ps,LA,t,rs,as,rfl,S3,s3,TT3]
 clear S3 hps hlen s3 TT3;rintro _ H2 ⟨ps,LA,t,rs,as,rfl,S,s2,TT2⟩;refine #[λZ' H'=>∃(ps:List Nat) (LA:List (List Int)) (t rs:Addr) (as:List Addr),Z'=[some (.ref a),some (.ref d),some (.ref t),some (.ref rs),some (.int v),none,none,none,none,none,none,none,none,none,none,none]/\kx H' ps LA t rs as/\LS K a d H'/\Tab2 mF mp H',?_,?_]
 .intro N n;refine #[_,rfl,rfl,_,rfl,?_];refine ite2 (λc=>?_) (λc=>?_)
  .clear S;intro N4 n4;refine #[(by show 1<=sizeLine;decide),λtp htp=>#[(by show 1<=sizeLine;decide),λtz htz=>?_]];have e1:=aD htp (.tup [.non]);have e2:=aD htz (.tup [.int 0]);have h3p:upd (upd H2 tp (.tup [.non])) tz (.tup [.int 0]) tp=some (.tup [.non]):=e2 _ _ ak;have h3z:upd (upd H2 tp (.tup [.non])) tz (.tup [.int 0]) tz=some (.tup [.int 0]):=ak;have e12:=e1.trans e2;generalize upd (upd H2 tp (.tup [.non])) tz (.tup [.int 0])=H3 at e12 h3p h3z ⊢;have s3:=s2.same e12;have T3:=TT2.ext e12.ext;clear e1 e2 htp htz s2 TT2;refine #[_,rfl,d,a,22,rfl,by decide,s3,λu H4 u0 u1 k4 s4=>?_];have h4p:=k4 _ _ (ndT s3 h3p nofun) h3p;have h4z:=k4 _ _ (ndT s3 h3z nofun) h3z;have T4:=T3.ext (s3.ext k4);obtain ⟨m,rfl⟩:=my u0;refine #[_,_,rfl,rfl,tz,_,_,rfl,rfl,SqT.of h4z,by lia,by lia,λp hp=>?_];have em:((9:Int)+(m:Int)).toNat=9+m:=by lia
   rw[em];have e5:=aD hp (.tup (List.replicate (9+m) (.int 0)));have h5z:upd H4 p (.tup (List.replicate (9+m) (.int 0))) p=some (.tup (List.replicate (9+m) (.int 0))):=ak;generalize upd H4 p (.tup (List.replicate (9+m) (.int 0)))=H5 at e5 h5z ⊢;have hz1:List.replicate (9+m) (V.int 0)≠[]:=λz=>by
    have:=congrArg List.length z;rw[cR,kK]at this;lia
   refine #[tp,p,_,_,rfl,rfl,SqT.of (e5 _ _ h4p),SqT.of h5z,nofun,?_,(λz=>absurd z hz1),λ_ pt hpt=>?_]
   .rw[cR];exact aZ (bh (by show 1+_<=1000;lia))
   have ev:[V.non]++List.replicate (9+m) (V.int 0)=bO (List.replicate (9+m) 0):=by
    unfold bO;rw[List.map_replicate];rfl
   rw[ev];have e6:=aD hpt (.tup (bO (List.replicate (9+m) 0)));have h6t:upd H5 pt (.tup (bO (List.replicate (9+m) 0))) pt=some (.tup (bO (List.replicate (9+m) 0))):=ak;generalize upd H5 pt (.tup (bO (List.replicate (9+m) 0)))=H6 at e6 h6t ⊢;have e46:=e5.trans e6;have s6:=s4.same e46;have T6:=T4.ext e46.ext;refine n4 _ _ ?_;refine #[_,rfl,_,rfl,_,_,rfl,.inr (SqT.of h6t),d,a,_,3,rfl,?_,by decide,s6,λr as' rows' H7 _ hA hrl hR hlen h7 k7 s7=>n _ _ ?_]
   .rw[cK,cR];lia
   rw[cK,cR]at hrl;have hk:=rN hlen;rw[hrl]at hk;refine #[_,rows',pt,r,as',rfl,#[k7 _ _ (ndT s6 h6t nofun) h6t,h7,hA,?_,λi hi=>?_,hR,?_,by lia],s7,T6.ext (s6.ext k7)]
   .rw[cR];exact hrl
   .rw[List.getElem_replicate];exact bK _
   .rw[cR];lia
  .exact n _ _ #[ps,LA,t,rs,as,rfl,S,s2,TT2]
 clear S s2 TT2;rintro _ H2 ⟨ps,LA,t,rs,as,rfl,S,s2,TT2⟩;have hf4:∀ k,k<ps.length+1->(ab ps LA k).length<=400:=λk hk=>ax (jc S.T S.len hk) S.keys;have hps:=S.few;intro N3 n3;refine #[_,rfl,_,rfl,t,rs,ps,LA,as,rfl,S.tr,S.rs,S.at_,S.len,S.T,S.R,by lia,S.keys,λpf qs H3 _ g3 F3 _=>n3 _ _ ?_];clear n3 N3;intro N4 n4;refine #[_,rfl,_,rfl,(by show 2<=sizeLine;decide),λst2 hst2=>?_];have gs:=aD hst2 (.tup [.ref t,.ref rs]);have h3s:upd H3 st2 (.tup [.ref t,.ref rs]) st2=some (.tup [.ref t,.ref rs]):=ak;generalize upd H3 st2 (.tup [.ref t,.ref rs])=H3' at gs h3s ⊢;have S3':=S.tup λb o e=>(g3.trans gs) b _ e;have S3:eV H3' st2 ps LA t rs as:=#[h3s,S3'.tr,S3'.rs,S3'.at_,S.len,S.T,S.R,by lia,S.keys];refine #[st2,ps,LA,t,rs,as,rfl,S3,λp0 xs0 H4 _ g4 h4 hB4=>?_];refine #[p0,ps,LA,xs0,rfl,h4,hB4,by lia,hf4,λbr xs H5 g5 h5 hB5=>n4 _ _ ?_];clear n4 N4;intro N5 n5;refine #[_,rfl,CJ h5 hB5 hps hf4 (n5 _ _ ?_)];clear n5 N5;have g35:=g3.trans (gs.trans (g4.trans g5));have S5:=S.tup λb o e=>g35 b _ e;have TT5:=TT2.ext g35.ext;have sl5:=s2.same g35;have F5:FA K H5 pf qs (ps.length+1) (ab ps LA):=F3.ext (gs.trans (g4.trans g5)).ext;clear g35 g5 g4 gs g3 hB4 h4 S3 S3' h3s F3 TT2 s2 S hst2;intro N6 n6;refine #[2,rfl,by decide,by decide,?_];refine fg (n:=2) (λi Z HA=>∃ x8 x9 x10 x11 x12 x13 x14 x15:Option V,Z=[some (.ref a),some (.ref d),some (.ref t),some (.ref rs),some (.int v),some (.ref pf),some (.ref br),some (.str (brsD ps LA).shown),x8,x9,x10,x11,x12,x13,x14,x15]/\(∀ b o,b≠d->(∀ tab,o≠.tbl tab)->H5 b=some o->HA b=some o)/\Tab2 mF mp HA/\LS K a d HA) ?_ ?_ ?_
 .exact #[_,_,_,_,_,_,_,_,rfl,λ_ _ _ _ e=>e,TT5,sl5]
 .rintro i Z HA hi ⟨x8,x9,x10,x11,x12,x13,x14,x15,rfl,kA,TA,sA⟩;rw[fE];have ndt5:∀{b:Addr} {o:HO},H5 b=some o->(∀ kvs,o≠.dK kvs)->b≠d:=λe n=>ndT sl5 e n;have tA:∀ b o,H5 b=some (.tup o)->HA b=some (.tup o):=λb o e=>kA _ _ (ndt5 e nofun) nofun e;have SA:=S5.tup tA;refine BA λNL B R hN hB hR=>?_;intro N7 n7;have htl:=cK ps;refine #[_,rfl,_,rfl,_,_,rfl,.inr (SqT.of SA.tr),d,a,_,rfl,#[by rw[htl];lia,by rw[htl];lia],sA,λv1 HB b0 b1 kB sB=>?_];rw[htl]at b1;refine #[_,rfl,_,_,rfl,rfl,.inl #[by lia,by lia],n7 _ _ ?_];clear n7 N7;obtain ⟨k0,hk0,ek⟩:∃ k0:Nat,k0<ps.length+1/\v1*(i:Int)=(k0:Int):=by
   obtain ⟨m,rfl⟩:=my b0;have hi2:i=0\/i=1:=by lia
   rcases hi2 with e|e
   .rw[e];exact #[0,by lia,by lia]
   .rw[e];exact #[m,by lia,by lia]
  rw[ek];have SB:=SA.tup λb o e=>kB _ _ (ndT sA e nofun) e;intro N8 n8;refine #[_,rfl,d,a,rfl,sB,λkey0 HC _ _ kC sC=>n8 _ _ ?_];clear n8 N8;have SC:=SB.tup λb o e=>kC _ _ (ndT sB e nofun) e;intro N8 n8;refine #[_,rfl,_,rfl,_,rfl,_,_,rfl,.inr (SqT.of SC.tr),d,a,_,rfl,#[by rw[htl];lia,by rw[htl];lia],sC,λv2 HC2 c0 c1 kC2 sC2=>?_];rw[htl]at c1;obtain ⟨c,rfl⟩:=my c0;have hcn:c<ps.length+1:=by lia
  have SD:=SC.tup λb o e=>kC2 _ _ (ndT sC e nofun) e;have kAD:Keep d HA HC2:=(kB.trans kC).trans kC2;have TD:Tab2 mF mp HC2:=TA.ext (sA.ext kAD);obtain ⟨b,hb1,hb2⟩:=SD.at_.get (k:=c) (by rw[SD.len];lia);have hfit:(bU LA c).length<=400:=ax (Cs (Ct (by rw[SD.len];lia))) SD.keys;refine #[_,_,_,_,rfl,rfl,SqT.of SD.rs,eW hb1,n8 _ _ ?_];clear n8 N8;generalize bU LA c=row at hb2 hfit;refine #[λZ' H'=>∃ key:Int,Z'=[some (.ref a),some (.ref d),some (.ref t),some (.ref rs),some (.int v),some (.ref pf),some (.ref br),some (.str (brsD ps LA).shown),some (.int (i:Int)),some (.int (k0:Int)),some (.int key),some (.ref b),x12,x13,x14,x15]/\Keep d HC2 H'/\Tab2 mF mp H'/\LS K a d H',?_,?_]
  .intro N n;refine #[_,rfl,(by show 0<=sizeLine;decide),λe he=>?_];have se:=aD he (.tup []);have h5b:=se _ _ hb2;have sD:=sC2.same se;have h5e:upd HC2 e (.tup []) e=some (.tup []):=ak;have T5:=TD.ext se.ext;generalize upd HC2 e (.tup [])=HD at se h5b sD h5e T5 ⊢;refine #[(#[row]:Tup Int),(#[[]]:Tup Int),#[_,_,rfl,SqT.of h5b,aB.ints],#[_,_,rfl,SqT.of h5e,.nil],_,rfl,?_];refine ite2 (λc1=>?_) (λc1=>?_)
   .refine #[_,rfl,d,a,2,rfl,by decide,sD,λv2 HE v20 v21 kE sE=>?_];have h6b:=kE _ _ (ndT sD h5b nofun) h5b;have kCE:Keep d HC2 HE:=λb o n e=>kE _ _ n (se _ _ e);have T6:=T5.ext (sD.ext kE);refine #[rfl,_,rfl,?_];refine ite2 (λc2=>?_) (λc2=>?_)
    .have hpos:0<row.length:=by
      rcases row with _|⟨x,row⟩
      .exact absurd c1 (by decide)
      .exact dR _
     refine #[_,rfl,_,rfl,_,rfl,_,_,rfl,.inr (SqT.of h6b),d,a,_,rfl,by rw[aq];lia,sE,λv HF v0 v1 kF sF=>?_];rw[aq]at v1;obtain ⟨j,rfl⟩:=my v0;have hj:j<row.length:=by lia
     refine #[_,_,_,_,rfl,rfl,SqT.of (kF _ _ (ndT sE h6b nofun) h6b),dG (v:=.int row[j]) (by rw[bf,az hj];rfl),n _ _ ?_];exact #[_,rfl,kCE.trans kF,T6.ext (sE.ext kF),sF]
    .exact n _ _ #[_,rfl,kCE,T6,sE]
   .refine iteF (n _ _ ?_);exact #[_,rfl,λb o n e=>se _ _ e,T5,sD]
  rintro Z' HD ⟨key,rfl,kD,TT,sD⟩;have kkD:∀ b o,b≠d->(∀ tab,o≠.tbl tab)->H5 b=some o->HD b=some o:=λb o n1 n2 e=>kD _ _ n1 (kAD _ _ n1 (kA _ _ n1 n2 e));have kp5D:∀{b:Addr} {o:HO},(∀ kvs,o≠.dK kvs)->(∀ tab,o≠.tbl tab)->H5 b=some o->HD b=some o:=λn1 n2 e=>kkD _ _ (ndt5 e n1) n2 e;have SD:=S5.tup (λb o e=>kp5D nofun nofun e);have hpfD:HD pf=some (.lst (qs.map V.ref)):=kp5D (λ_ z=>by cases z) (λ_ z=>by cases z) F5.at_
  have hbrD:HD br=some (.lst xs):=kp5D (λ_ z=>by cases z) (λ_ z=>by cases z) h5
  have hFD:bt K HD ps LA (List.range (ps.length+1)) qs:=bX (λj q ⟨ws,g1,g2⟩=>#[ws,kp5D nofun nofun g1,jf (λ_ _ e=>kp5D nofun nofun e) g2]) F5.fulls;have hBD:Paired (BrAt [] HD ps LA) (List.range (ps.length+1)) xs:=bX (λj x ⟨b,o,j',ys,g1,g2,g3,g4,g5,g6,g7⟩=>#[b,o,j',ys,g1,g2,g3,kp5D nofun nofun g4,kp5D nofun nofun g5,kp5D nofun nofun g6,bX (λc y ⟨a,s,f1,f2,f3,f4⟩=>#[a,s,f1,f2,kp5D nofun nofun f3,kp5D nofun nofun f4]) g7]) hB5;clear kD kC2 kC kB SC SB SA tA TD kAD TA sA sB sC sC2 hb1 hb2 hfit hcn;intro N9 n9;refine #[(by show 0<=sizeLine;decide),λad hd=>n9 _ _ ?_];clear n9 N9;have s6:=aD hd (.lst []);have hFa:upd HD ad (.lst []) ad=some (.lst []):=ak;have T6:=TT.ext s6.ext;generalize upd HD ad (.lst [])=HF at s6 hFa T6 ⊢;intro N11 n11;refine #[_,rfl,_,rfl,T6.l,[.ref ad,.ref pf,.int key],rfl,?_,λbs g c' HG hg hT7 hC SB hV=>?_]
  .intro j i v h1 h2;rcases j with _|_|_|j
   .cases h1;cases h2;rfl
   .cases h1;cases h2;rfl
   .cases h1;cases h2;rfl
   .cases h1
  have T7:Tab2 mF mp HG:=#[T6.f.gro hg (aS T6.n) (rP T6.l),hT7,T6.n];have kp67:Kp0 HF HG:=λb o n e=>hg _ _ (λz=>by
   obtain ⟨tab,e2⟩:=rP T6.l;rw[<-z,e]at e2;exact n _ (aJ e2)) e
  have kpD7:Kp0 HD HG:=Kp0.trans (.of s6) kp67;have h7a:=kp67.lst hFa;have n1:ad≠pf:=λz=>by
   rw[z,hpfD]at hd;cases hd
  have n2:ad∉qs:=λz=>by
   obtain ⟨ws,e⟩:=hFD.alloc ad z;rw[hd]at e;cases e
  have AF:=Kg (mF:=mF) (ps:=ps) (LA:=LA) (qs:=qs) hV hC h7a (kpD7.lst hpfD) (Cq kpD7 hFD) n1 n2 (rP T7.f) λ_ _ _ _ h=>#[_,rfl,_,rfl,_,rfl,_,rfl,_,rfl,h];have SE:bE [ad] mF (λL H'=>(∃ zs,H' ad=some (.lst zs)/\aB K H' (iiL L) zs)/\∀ b o,b≠mF->b≠ad->HG b=some o->H' b=some o) ps LA br xs [] HG:=#[#[#[[],h7a,.nil],λ_ _ _ _ e=>e],λa ha=>#[[],by rw[aQ.mp ha];exact h7a],kpD7.lst hbrD,(λz=>by
   have e:=hbrD;rw[aQ.mp z,hd]at e;cases e),Kh hd kpD7 hBD,T7.f]
  refine #[br,g,xs,ps,LA,k0,key,[ad],_,_,[],rfl,AF,SE,S5.T,S5.R,by lia,hk0,bK _,(λk hk=>ax (hf4 k hk) (by decide)),λD zs H8 L' S8 k8 hDn h8 hA8 hL hM=>n11 _ _ ?_];clear n11 N11;rw[nk]at S8;obtain ⟨⟨zs',h8a,hA8'⟩,_⟩:=S8.r;have T8:Tab2 mF mp H8:=#[S8.tb,Ki T7.l T7.n h7a (rP T7.f) k8,T7.n];have kpD8:Kp0 HD H8:=λb o n e=>by
   have e7:=kpD7 _ _ n e;exact k8 _ _ (λz=>by
    rw[aQ.mp z,hd]at e;cases e) (SE.nm e7 n) e7
  have SD8:=SD.tup λb o e=>kpD8.tup e;have hF8:=Cq kpD8 hFD;have hpf8:=kpD8.lst hpfD;have hbr8:=kpD8.lst hbrD;have hB8:Paired (BrAt [] H8 ps LA) (List.range (ps.length+1)) xs:=bX (λa b h=>BrAt.less h) S8.ba;have hfg:figN (ab ps LA k0).length<=9:=CK 9 _ (cN (hf4 _ hk0) (by decide));have hbl:=mn ps k0 (ps.length+1);have hL76:L'.length<=76:=by lia
  have hzl:=Paired.length hA8;have sl8:LS K a d H8:=JQ sD kpD8;have kA8:∀ b o,b≠d->(∀ tab,o≠.tbl tab)->H5 b=some o->H8 b=some o:=λb o m1 m2 e=>kpD8 _ _ m2 (kkD _ _ m1 m2 e);clear hL S8 k8 SE AF hV SB hC hg hT7 T7 kp67 kpD7 h7a n1 n2 hFa T6 s6 hd;intro N12 n12;refine #[_,rfl,_,rfl,t,ps,k0,rfl,SD8.tr,S5.T,hk0,by lia,λpb H9 _ s9 h9b=>?_];refine #[pb,rfl,#[_,SqL.of h9b],λD3 hD3=>?_];have hrl:∀ k,k<ps.length+1->(bU LA k).length<=400:=λk hk=>ax (Cs (Ct (by rw[S5.len];exact hk))) S5.keys;have hbm:∀{j k:Nat},(benL ps k0 (ps.length+1))[j]?=some k->k<ps.length+1:=λe=>(fo.mp (cy e)).1;refine fI (xs:=(benL ps k0 (ps.length+1)).map nV) (λm Z H9'=>∃(x0:Option V) (us:List V),Z=[x0,some (.ref pf),some (.ref rs),some (.int key)]/\H9' D3=some (.lst us)/\Paired (ku H9' ps LA key) ((benL ps k0 (ps.length+1)).take m) us/\But D3 H9 H9') ?_ ?_ ?_ ?_
  .exact #[_,[],rfl,ak,.nil,λb o n e=>by rw[aj n];exact e]
  .rintro m Z H10 _ ⟨x0,us,rfl,_,_,k10⟩;exact SqL.of (k10 _ _ (au h9b hD3) h9b)
  .rintro m r x Z H10 hx hmr ⟨x0,us,rfl,h10,hP10,k10⟩;rw[bf]at hx;obtain ⟨kn,hkn,rfl⟩:=eZ.mp hx;have hml:=(aM.mp hkn).1;have hknn:=hbm hkn;rw[aq]at hmr;have s910:Same H9 H10:=λb o e=>k10 b o (au e hD3) e;have hul:=Paired.length hP10;rw[aT]at hul;refine fV ?_;refine #[_,rfl,(by show 1<=sizeLine;decide),λtp htp=>?_];have st:=aD htp (.tup [.int (kn:Int)]);have h11t:upd H10 tp (.tup [.int (kn:Int)]) tp=some (.tup [.int (kn:Int)]):=ak;have s11:=(s9.trans s910).trans st;refine #[_,rfl,_,rfl,_,rfl,_,rfl,pf,rs,kn,key,qs,as,ps,LA,rfl,s11 _ _ hpf8,hF8.same s11,s11 _ _ SD8.rs,SD8.at_.ext s11,SD8.len,hknn,ax (hf4 _ hknn) (by decide),ax (hrl _ hknn) (by decide),λa1 H12 s12 h12=>?_];refine #[tp,a1,_,_,rfl,rfl,SqT.of (s12 _ _ h11t),SqT.of h12,nofun,(by show 3<=sizeLine;decide),nofun,λ_ p hp=>?_];have s13:=aD hp (.tup ([.int (kn:Int)]++[.int (dueF ps LA key kn).1,.int (dueF ps LA key kn).2]));have h13p:upd H12 p (.tup ([.int (kn:Int)]++[.int (dueF ps LA key kn).1,.int (dueF ps LA key kn).2])) p=some (.tup [.int (kn:Int),.int ((aL (ab ps LA kn) key:Nat):Int),.int ((ownB LA kn key:Nat):Int)]):=ak;have s1013:=(st.trans s12).trans s13;generalize upd H12 p (.tup ([.int (kn:Int)]++[.int (dueF ps LA key kn).1,.int (dueF ps LA key kn).2]))=H13 at s13 h13p s1013 ⊢;have h13D:=s1013 _ _ h10;have nD:∀{x:Addr} {us:List V},H13 x=some (.tup us)->x≠D3:=λ{x us} h z=>by
    rw[z,h13D]at h;cases h
   refine #[_,h13D,bh (by lia),r-1,by lia,by rw[aq];lia,_,_,rfl,ak,?_,λb o n e=>by rw[aj n];exact s1013 _ _ (k10 b o n e)];rw[cF hml,(aM.mp hkn).2];exact iA (bX (λ_ _ zq0=>(by obtain ⟨t,e1,e2⟩:=zq0;exact #[t,e1,by rw[aj (nD (s1013 _ _ e2))];exact s1013 _ _ e2])) hP10) #[p,rfl,by rw[aj (nD h13p)];exact h13p]
  rintro Z H10 ⟨x0,us,rfl,h10,hP10,k10⟩;refine n12 _ _ ?_;clear n12 N12;rw[aq,bu (ai _)]at hP10;have hul:=Paired.length hP10;have s10:Same H8 H10:=s9.trans λb o e=>k10 b o (au e hD3) e;have SD10:=SD8.tup λb o e=>s10 _ _ e;have hF10:=hF8.same s10;have hpf10:=s10 _ _ hpf8;have hbr10:=s10 _ _ hbr8;have hB10:Paired (BrAt [] H10 ps LA) (List.range (ps.length+1)) xs:=bX (λa b h=>BrAt.same s10 h) hB8;have h10f:=s10 _ _ h8;have h10a:=s10 _ _ h8a;have hA10:=rL (λb us e=>s10 _ _ e) hA8;have hA10':=jf (K:=K) (λ_ _ e=>s10 _ _ e) hA8';have T10:=T8.ext s10.ext;have sl10:=sl8.same s10;have kA10:∀ b o,b≠d->(∀ tab,o≠.tbl tab)->H5 b=some o->H10 b=some o:=λb o m1 m2 e=>s10 _ _ (kA8 b o m1 m2 e);clear k10 h9b hD3 s9 hB8 hbr8 hpf8 hF8 SD8 h8 h8a hA8 hA8' T8 sl8 kA8 s10 kpD8;refine #[λZ' H'=>(∃ x15:Option V,Z'=[some (.ref a),some (.ref d),some (.ref t),some (.ref rs),some (.int v),some (.ref pf),some (.ref br),some (.str (brsD ps LA).shown),some (.int (i:Int)),some (.int (k0:Int)),some (.int key),some (.ref b),some (.ref ad),some (.ref D),some (.ref D3),x15])/\H10=H',?_,?_]
  .intro N n;refine #[_,rfl,_,_,_,_,rfl,.lst h10f,E4,_,rfl,iteF ?_];refine #[_,rfl,_,_,rfl,.inl (SqL.of h10f),_,rfl,_,_,rfl,.inl (SqL.of h10),rfl,_,rfl,lH (by rw[<-hzl,<-hul]) ?_];exact #[_,rfl,CJ hbr10 hB10 hps hf4 #[_,rfl,rfl,_,rfl,lH rfl (n _ _ #[#[_,rfl],rfl])]]
  rintro _ _ ⟨⟨y15,rfl⟩,rfl⟩;have hfd:zs.length=us.length:=by lia
  refine #[λZ' H'=>(∃ x15:Option V,Z'=[some (.ref a),some (.ref d),some (.ref t),some (.ref rs),some (.int v),some (.ref pf),some (.ref br),some (.str (brsD ps LA).shown),some (.int (i:Int)),some (.int (k0:Int)),some (.int key),some (.ref b),some (.ref ad),some (.ref D),some (.ref D3),x15])/\Same H10 H',?_,?_]
  .intro N n;refine #[_,rfl,_,rfl,D,D3,rfl,#[_,SqL.of h10f],#[_,SqL.of h10],λD4 hD4=>?_];refine zS (xs:=zs) (ys:=us) hfd (λm Z H11=>∃ x0 x1:Option V,Z=[x0,x1]/\H11 D4=some (.lst ((List.replicate m true).map V.bl))/\But D4 H10 H11) ?_ ?_ ?_ ?_
   .exact #[_,_,rfl,ak,λb o n e=>by rw[aj n];exact e]
   .rintro m Z H11 _ ⟨x0,x1,rfl,_,k11⟩;exact #[SqL.of (k11 _ _ (au h10f hD4) h10f),SqL.of (k11 _ _ (au h10 hD4) h10)]
   .rintro m r x y Z H11 p hx hy hmr ⟨x0,x1,rfl,h11,k11⟩ hp;obtain ⟨kn,hkn,tx,rfl,htx⟩:=gQ hA10 hx;obtain ⟨kn',hkn',ty,rfl,hty⟩:=gQ hP10 hy;obtain rfl:=aJ (hkn.symm.trans hkn');have s11:Same H10 H11:=λb o e=>k11 b o (au e hD4) e;have sp:=aD hp (.tup [.ref tx,.ref ty]);have hml:=(aM.mp hx).1;refine #[p,_,rfl,SqT.of ak,rfl,_,_,rfl,_,_,rfl,rfl,?_];refine Cr (iteT ?_);refine #[_,rfl,_,rfl,tx,ty,[(kn:Int),((aL (ab ps LA kn) key:Nat):Int),((ownB LA kn key:Nat):Int)],rfl,sp _ _ (s11 _ _ htx),sp _ _ (s11 _ _ hty),(by show 3<=900;decide),λH12 s12=>?_];have h12:=s12 _ _ (sp _ _ h11);refine #[_,h12,?_,r-1,by lia,by lia,_,_,rfl,?_,λb o n e=>by rw[aj n];exact s12 _ _ (sp _ _ (k11 b o n e))]
    .rw[aq,cR];exact bh (by lia)
    rw[ak,nI,bq];rfl
   rintro Z H11 ⟨x0,x1,rfl,h11,k11⟩;have ea:(List.replicate zs.length true).all id=true:=eA.mpr λx hx=>(List.eq_of_mem_replicate hx:x=true);refine #[D4,_,rfl,SqL.of h11,?_];rw[ea];exact #[_,rfl,iteF (n _ _ #[#[_,rfl],λb o e=>k11 b o (au e hD4) e])]
  rintro _ H11 ⟨⟨z15,rfl⟩,s11⟩;intro N13 n13;refine #[_,rfl,D,rfl,#[_,SqL.of (s11 _ _ h10f)],λD5 hD5=>?_];refine fI (xs:=zs) (λm Z H12=>∃(x0 x1 x2:Option V) (ws:List V),Z=[x0,x1,x2]/\H12 D5=some (.lst ws)/\Paired (λ(z:V) (kv:Key×V)=>∃ b,z=.ref b/\H12 b=some (.tup [kV kv.1,kv.2])) ws (((benL ps k0 (ps.length+1)).take m).map (iB ps LA key))/\But D5 H11 H12) ?_ ?_ ?_ ?_
  .exact #[_,_,_,[],rfl,ak,.nil,λb o n e=>by rw[aj n];exact e]
  .rintro m Z H12 _ ⟨x0,x1,x2,ws,rfl,_,_,k12⟩;exact SqL.of (k12 _ _ (au (s11 _ _ h10f) hD5) (s11 _ _ h10f))
  .rintro m r x Z H12 hx hmr ⟨x0,x1,x2,ws,rfl,h12,hP12,k12⟩;obtain ⟨kn,hkn,tx,rfl,htx⟩:=gQ hA10 hx;have hml:=(aM.mp hkn).1;have s12:Same H11 H12:=λb o e=>k12 b o (au e hD5) e;have hwl:=Paired.length hP12;rw[aq,aT]at hwl;refine #[tx,_,rfl,SqT.of (s12 _ _ (s11 _ _ htx)),rfl,_,_,rfl,_,_,rfl,_,_,rfl,rfl,?_];refine Cr (iteT ?_);refine #[_,rfl,_,rfl,(by show 2<=sizeLine;decide),λp hp=>?_];have sp:=aD hp (.tup [.int (kn:Int),.int ((aL (ab ps LA kn) key:Nat):Int)]);have h13p:upd H12 p (.tup [.int (kn:Int),.int ((aL (ab ps LA kn) key:Nat):Int)]) p=some (.tup [.int (kn:Int),.int ((aL (ab ps LA kn) key:Nat):Int)]):=ak;generalize upd H12 p (.tup [.int (kn:Int),.int ((aL (ab ps LA kn) key:Nat):Int)])=H13 at sp h13p ⊢;have h13:=sp _ _ h12;have nD:∀{x:Addr} {us:List V},H13 x=some (.tup us)->x≠D5:=λ{x us} h z=>by
    rw[z,h13]at h;cases h
   refine #[_,h13,bh (by lia),r-1,by lia,by lia,_,_,_,_,rfl,ak,?_,λb o n e=>by rw[aj n];exact sp _ _ (k12 b o n e)];rw[cF hml,(aM.mp hkn).2,bq];exact iA (bX (λ_ _ zq0=>(by obtain ⟨t,e1,e2⟩:=zq0;exact #[t,e1,by rw[aj (nD (sp _ _ e2))];exact sp _ _ e2])) hP12) #[p,rfl,by rw[aj (nD h13p)];exact h13p]
  rintro Z H12 ⟨x0,x1,x2,ws,rfl,h12,hP12,k12⟩;rw[bu (by lia)]at hP12;have s12:Same H10 H12:=s11.trans λb o e=>k12 b o (au e hD5) e;refine #[D5,ws,_,rfl,SqL.of h12,hP12,?_,λsa hsa=>n13 _ _ ?_]
  .rw[iL];exact List.Pairwise.map (R:=λa b:Nat=>a≠b) _ (λa b (n:a≠b) z=>n (by have:=Sum.inl.inj z;lia)) (List.nodup_range.filter _)
  clear n13 N13;have s13:=aD hsa (.dK ((benL ps k0 (ps.length+1)).map (iB ps LA key)));have h13s:upd H12 sa (.dK ((benL ps k0 (ps.length+1)).map (iB ps LA key))) sa=some (.dK ((benL ps k0 (ps.length+1)).map (iB ps LA key))):=ak;generalize upd H12 sa (.dK ((benL ps k0 (ps.length+1)).map (iB ps LA key)))=H13 at s13 h13s ⊢;have s1013:=s12.trans s13;refine #[_,rfl,_,rfl,_,rfl,_,rfl,_,rfl,_,rfl,br,t,pf,sa,ad,ps,LA,key,k0,L',xs,zs',qs,_,rfl,s1013 _ _ hbr10,bX (λa b h=>BrAt.same s1013 h) hB10,S5.T,s1013 _ _ SD10.tr,s1013 _ _ hpf10,hF10.same s1013,hk0,h13s,λj hj hB=>CN (fo.mpr #[hj,hB]),s1013 _ _ h10a,jf (λ_ _ e=>s1013 _ _ e) hA10',hL76,hM,λH14 s14=>?_];have s1014:=s1013.trans s14;exact #[_,rfl,iteF (hN _ _ #[_,_,_,_,_,_,_,_,rfl,λb o m1 m2 e=>s1014 _ _ (kA10 b o m1 m2 e),T10.ext s1014.ext,sl10.same s1014])]
 .rintro Z HA ⟨x8,x9,x10,x11,x12,x13,x14,x15,rfl,_⟩;exact n6 _ _ (q _)
def all_ok (T:Txt K mg){mc21 mp21 mc46 mp46:Addr}(hBM:BMAt mg base)(wx:DF K mg "code" oJ pW)(xb:DF K mg "how_many_below" oK pX)(wL:DF K mg "joined_up" oM pY)(wq:DF K mg "lowest_unlike" oN pZ)(wy:DF K mg "turned" oO p7)(wz:DF K mg "labels" oP p8)(wC:DF K mg "neighbours" oQ l5)(wD:DF K mg "least_free" oR p9)(wF:DF K mg "colours" oS qa)(wH:DF K mg "marks" oT qb)(wI:DF K mg "handed" oU qd)(wN:DF K mg "children" oV l7)(wO:DF K mg "beneath" oW qe)(wQ:DF K mg "own_entries" oX qf)(wR:DF K mg "full_rows_beneath" oY qg)(wV:DF K mg "full_rows" oZ qh)(wZ:DF K mg "owns_of" o4 qi)(w5:DF K mg "starts_of" o5 qj)(w9:DF K mg "bridges_of" o6 ql)(xa:DF K mg "bridges" o7 qm)(rS:DFT K mg "first_place" jT qo mc21 mp21)(xc:DF K mg "next_place" o8 qp)(xf:DF K mg "search_beneath" o9 qr)(wm:DF K mg "_law_begin" pe qt)(wj:DF K mg "_law_mixed" ph qv)(wo:DF K mg "_law_take" pk gM)(wt:DF K mg "_law_key" pq l9)(wM:DF K mg "_law_tree" pw qw)(wW:DF K mg "_law_row" pz qx)(wY:DF K mg "_law_rows" pA ma)(wA:DF K mg "_law_code" pB qy)(wB:DF K mg "_law_turned" pC qz)(wJ:DF K mg "_law_colours" pD qA)(wK:DF K mg "_law_marks" pE qB)(xi:DF K mg "_law_fulls" pF qC)(xn:DF K mg "_law_stand" pG qD)(xu:DF K mg "_law_wide" pH qE)(xv:DF K mg "_law_copied" pI qF)(xk:DF K mg "_law_asked" pJ qG)(xj:DF K mg "_law_figures" pK qH)(xq:DF K mg "_law_placed" pL qI)(xt:DF K mg "_law_wholes" pM qJ)(xp:DF K mg "_law_start" pN qK)(xh:DF K mg "_law_beneath" pO qL)(xw:DF K mg "_law_modest" pP qM)(rT:DFT K mg "law" jU qN mc46 mp46):FC P w K mg base 10 "law" qN (kz K mp21 mp46):=
 have m:=HV (P:=P) (w:=w) (base:=base) T wj;have t:=HX T wo m;have c:=Ig (P:=P) (w:=w) (base:=base) T wx;have nb:=IC (P:=P) (w:=w) (base:=base) T wC;have mk:=IK T wH (Ir T wz c (Ij T wy (HY T wq))) (IF T wF nb (ID T wD)) nb;have ch:=IX (P:=P) (w:=w) (base:=base) T wN;have fr:=Jf T wR (IY T wO) ch (IP T wI mk) (Je T wQ) (IT T wL);have fu:=Jh T wV fr;have br:=Jx T xa fu (Jw T w9 ch (Jv T w5) (Jt T wZ));have ky:=Ia T wt t;have lr:=Jk T wY t (Jj T wW t ky);have ls:=JW T xn (IW T wM t) lr;have lf:=JT T xi (IR T wK (Iu (P:=P) (w:=w) (base:=base) T wA) (Iv T wB) (IQ T wJ));have fi:=λ(b:Heap) (S:Sub K mg base b)=>JJ (P:=P) (w:=w) (base:=b) T rS (hBM.lift S) (λb' _=>JD (base:=b') T xb);have se:=λ(b:Heap) (S:Sub K mg base b)=>JP (P:=P) (w:=w) (base:=b) (mp:=mp21) T xf (fi b S) (JK T xc);have mo:=Kc T xw (JU (P:=P) (w:=w) (base:=base) T xj) (J2 T xp)
 Kl T rT hBM (HW T wm) ls (J9 T xu t) lr lf br (Ka T xv) (JR T xh) ky t (JV T xk) (J5 T xt) (J4 T xq) mo se
end
def u1 {P:List Value->Prop}(h:∀ a,P [a])(us:List Value)(hl:us.length=1):P us:=by
 rcases us with _|⟨a,_|⟨z,us⟩⟩
 .cases hl
 .exact h a
 .exact absurd hl (by simp)
def u2 {P:List Value->Prop}(h:∀ a b,P [a,b])(us:List Value)(hl:us.length=2):P us:=by
 rcases us with _|⟨a,_|⟨b,_|⟨z,us⟩⟩⟩
 .cases hl
 .cases hl
 .exact h a b
 .exact absurd hl (by simp)
def u3 {P:List Value->Prop}(h:∀ a b c,P [a,b,c])(us:List Value)(hl:us.length=3):P us:=by
 rcases us with _|⟨a,_|⟨b,_|⟨c,_|⟨z,us⟩⟩⟩⟩
 .cases hl
 .cases hl
 .cases hl
 .exact h a b c
 .exact absurd hl (by simp)
def u4 {P:List Value->Prop}(h:∀ a b c d,P [a,b,c,d])(us:List Value)(hl:us.length=4):P us:=by
 rcases us with _|⟨a,_|⟨b,_|⟨c,_|⟨d,_|⟨z,us⟩⟩⟩⟩⟩
 .cases hl
 .cases hl
 .cases hl
 .cases hl
 .exact h a b c d
 .exact absurd hl (by simp)
def u5 {P:List Value->Prop}(h:∀ a b c d e,P [a,b,c,d,e])(us:List Value)(hl:us.length=5):P us:=by
 rcases us with _|⟨a,_|⟨b,_|⟨c,_|⟨d,_|⟨e,_|⟨z,us⟩⟩⟩⟩⟩⟩
 .cases hl
 .cases hl
 .cases hl
 .cases hl
 .cases hl
 .exact h a b c d e
 .exact absurd hl (by simp)
def u6 {P:List Value->Prop}(h:∀ a b c d e f,P [a,b,c,d,e,f])(us:List Value)(hl:us.length=6):P us:=by
 rcases us with _|⟨a,_|⟨b,_|⟨c,_|⟨d,_|⟨e,_|⟨f,_|⟨z,us⟩⟩⟩⟩⟩⟩⟩
 .cases hl
 .cases hl
 .cases hl
 .cases hl
 .cases hl
 .cases hl
 .exact h a b c d e f
 .exact absurd hl (by simp)
structure AD (K:Frag)(x:Str)(st:Stmt):Prop where
 ex:∃(f:Addr) (oc:Value) (od:Option Addr) (kV dc pm:Value) (an:Option Addr) (cd ct:Value) (sl:Array (Option Value)),nsIn K mainGlobals x=some (some (.ref f))/\K.lookup f=some #[oc,od,.func (fnOf x x (gc st) (fj st) (aI st) .none kV dc pm an cd ct),sl]/\codeIn K cd x=true/\keepIn K (.ref f)=true
def AD.of {K:Frag}{x:Str}{st:Stmt}{f:Addr}{oc:Value}{od:Option Addr}{kV dc pm:Value}{an:Option Addr}{cd ct:Value}{sl:Array (Option Value)}(a:nsIn K mainGlobals x=some (some (.ref f)))(l:K.lookup f=some #[oc,od,.func (fnOf x x (gc st) (fj st) (aI st) .none kV dc pm an cd ct),sl])(c:codeIn K cd x=true)(k:keepIn K (.ref f)=true):AD K x st:=#[f,oc,od,kV,dc,pm,an,cd,ct,sl,a,l,c,k]
def AD.df {K:Frag}{h:Heap}{mg:Str->Option Value}{st:Stmt}{ps:List Str}(a:AD K x st)(X:K.In h)(G:h.Ns mainGlobals mg)
  (hb:∀(kV doc pm:Value) (an:Option Addr) (cdv ct:Value) (us:List Value),us.length=ps.length->bindArgs (fnOf x x (gc st) (fj st) (aI st) .none kV doc pm an cdv ct) #[us,[]]=pure (ps.zip us):=by
   first|exact λ_ _ _ _ _ _=>u1 λ_=>rfl|exact λ_ _ _ _ _ _=>u2 λ_ _=>rfl|exact λ_ _ _ _ _ _=>u3 λ_ _ _=>rfl|exact λ_ _ _ _ _ _=>u4 λ_ _ _ _=>rfl|exact λ_ _ _ _ _ _=>u5 λ_ _ _ _ _=>rfl|exact λ_ _ _ _ _ _=>u6 λ_ _ _ _ _ _=>rfl):DF K mg x st ps:=by
 obtain ⟨f,oc,od,kV,dc,pm,an,cd,ct,sl,a,l,c,k⟩:=a.ex;exact #[_,_,tI l c k,(tI l c k).binds hb,mg_of X G a]
def AD.dft {K:Frag}{h:Heap}{mg:Str->Option Value}{st:Stmt}{ps:List Str}{mc mp:Addr}(a:AD K x st)(X:K.In h)(G:h.Ns mainGlobals mg)(t:tabIn K x=some (mc,mp))(hh:codeHdIn K mc mp=true)
  (hb:∀(kV doc pm:Value) (an:Option Addr) (cdv ct:Value) (us:List Value),us.length=ps.length->bindArgs (fnOf x x (gc st) (fj st) (aI st) .none kV doc pm an cdv ct) #[us,[]]=pure (ps.zip us):=by
   first|exact λ_ _ _ _ _ _=>u1 λ_=>rfl|exact λ_ _ _ _ _ _=>u2 λ_ _=>rfl|exact λ_ _ _ _ _ _=>u3 λ_ _ _=>rfl|exact λ_ _ _ _ _ _=>u4 λ_ _ _ _=>rfl|exact λ_ _ _ _ _ _=>u5 λ_ _ _ _ _=>rfl|exact λ_ _ _ _ _ _=>u6 λ_ _ _ _ _ _=>rfl):DFT K mg x st ps mc mp:=by
 obtain ⟨f,oc,od,kV,dc,pm,an,cd,ct,sl,a,l,c,k⟩:=a.ex;have e:cd=.ref mc:=L2.FX a l t;subst e;exact #[#[_,_,_,_,_,_,_,_,_,l,c,k,mg_of X G a,(tI l c k).binds hb],hh]
def Km {l:OpenLaw}{K:Frag}{h:Heap}{mg:Str->Option Value}{fa mc21 mp21 mc46 mp46:Addr}(X:K.In h)(G:h.Ns mainGlobals mg)(hfa:mg "law" = some (.ref fa)){t_KNOT_NUMBERS:Tok}{t_TURNS:Tok}{t_MOST_BEHIND_START:Tok}(a1:AD K "code" oJ)(a2:AD K "how_many_below" oK)(a3:AD K "joined_up" oM)(a4:AD K "lowest_unlike" oN)(a5:AD K "turned" oO)(a6:AD K "labels" oP)(a7:AD K "neighbours" oQ)(a8:AD K "least_free" oR)(a9:AD K "colours" oS)(a10:AD K "marks" oT)(a11:AD K "handed" oU)(a12:AD K "children" oV)(a13:AD K "beneath" oW)(a14:AD K "own_entries" oX)(a15:AD K "full_rows_beneath" oY)(a16:AD K "full_rows" oZ)(a17:AD K "owns_of" o4)(a18:AD K "starts_of" o5)(a19:AD K "bridges_of" o6)(a20:AD K "bridges" o7)(a21:AD K "first_place" jT)(a22:AD K "next_place" o8)(a23:AD K "search_beneath" o9)(a24:AD K "_law_begin" pe)(a25:AD K "_law_mixed" ph)(a26:AD K "_law_take" pk)(a27:AD K "_law_key" pq)(a28:AD K "_law_tree" pw)(a29:AD K "_law_row" pz)(a30:AD K "_law_rows" pA)(a31:AD K "_law_code" pB)(a32:AD K "_law_turned" pC)(a33:AD K "_law_colours" pD)(a34:AD K "_law_marks" pE)(a35:AD K "_law_fulls" pF)(a36:AD K "_law_stand" pG)(a37:AD K "_law_wide" pH)(a38:AD K "_law_copied" pI)(a39:AD K "_law_asked" pJ)(a40:AD K "_law_figures" pK)(a41:AD K "_law_placed" pL)(a42:AD K "_law_wholes" pM)(a43:AD K "_law_start" pN)(a44:AD K "_law_beneath" pO)(a45:AD K "_law_modest" pP)(a46:AD K "law" jU)(t21:tabIn K "first_place" = some (mc21,mp21))(h21:codeHdIn K mc21 mp21=true)(t46:tabIn K "law" = some (mc46,mp46))(h46:codeHdIn K mc46 mp46=true)(Le:nsIn K mainGlobals "abs" = some none)(Lf:nsIn K mainGlobals "all" = some none)(Lg:nsIn K mainGlobals "bool" = some none)(Lh:nsIn K mainGlobals "dict" = some none)(Li:nsIn K mainGlobals "enumerate" = some none)(Lj:nsIn K mainGlobals "int" = some none)(Lk:nsIn K mainGlobals "isinstance" = some none)(Ll:nsIn K mainGlobals "len" = some none)(Lm:nsIn K mainGlobals "list" = some none)(Ln:nsIn K mainGlobals "max" = some none)(Lo:nsIn K mainGlobals "min" = some none)(Lp:nsIn K mainGlobals "range" = some none)(Lq:nsIn K mainGlobals "repr" = some none)(Lr:nsIn K mainGlobals "reversed" = some none)(Ls:nsIn K mainGlobals "set" = some none)(Lu:nsIn K mainGlobals "sorted" = some none)(Lv:nsIn K mainGlobals "tuple" = some none)(Lw:nsIn K mainGlobals "zip" = some none)(Lx:nsIn K mainGlobals "KNOT_NUMBERS" = some (some (.int 64 t_KNOT_NUMBERS)))(Ly:nsIn K mainGlobals "TURNS" = some (some (.int 5 t_TURNS)))(Lz:nsIn K mainGlobals "MOST_BEHIND_START" = some (some (.int 2 t_MOST_BEHIND_START))) :
  ∃ fd:FuncData,(∀(s:Shared) (v:Value),BindsTo s fd #[[v],[]] [("_law_script",v)])/\∀ base:Heap,K.In base->base.Ns mainGlobals mg->L2.BMAt mg base->FnOk l.prog w K mg base CX0 lawRoom fa fd ["_law_script"] (kz K mp21 mp46):=by
 obtain ⟨f,oc,od,kV,dc,pm,an,cd,ct,sl,a,l,c,k⟩:=a46.ex;have e:=hfa.symm.trans (mg_of X G a);cases e
 have T:Txt K mg:=#[mg_none_of X G Le,mg_none_of X G Lf,mg_none_of X G Lg,mg_none_of X G Lh,mg_none_of X G Li,mg_none_of X G Lj,mg_none_of X G Lk,mg_none_of X G Ll,mg_none_of X G Lm,mg_none_of X G Ln,mg_none_of X G Lo,mg_none_of X G Lp,mg_none_of X G Lq,mg_none_of X G Lr,mg_none_of X G Ls,mg_none_of X G Lu,mg_none_of X G Lv,mg_none_of X G Lw,#[_,mg_of X G Lx],#[_,mg_of X G Ly],#[_,mg_of X G Lz]];exact #[_,λs v=>.of_eq rfl,λbase _ _ hBM=>(all_ok (P:=_) (w:=w) (base:=base) T hBM (a1.df X G) (a2.df X G) (a3.df X G) (a4.df X G) (a5.df X G) (a6.df X G) (a7.df X G) (a8.df X G) (a9.df X G) (a10.df X G) (a11.df X G) (a12.df X G) (a13.df X G) (a14.df X G) (a15.df X G) (a16.df X G) (a17.df X G) (a18.df X G) (a19.df X G) (a20.df X G) (a21.dft X G t21 h21) (a22.df X G) (a23.df X G) (a24.df X G) (a25.df X G) (a26.df X G) (a27.df X G) (a28.df X G) (a29.df X G) (a30.df X G) (a31.df X G) (a32.df X G) (a33.df X G) (a34.df X G) (a35.df X G) (a36.df X G) (a37.df X G) (a38.df X G) (a39.df X G) (a40.df X G) (a41.df X G) (a42.df X G) (a43.df X G) (a44.df X G) (a45.df X G) (a46.dft X G t46 h46)).at (mg_of X G a) l]
def walk {l:OpenLaw}{q:Program}{loose:List Str}{XP:(Str->Option Value)->Heap->Prop}{YP:World->Heap->Prop}{d:DefRec}{K:Params->Frag}{mc21 mp21 mc46 mp46:Addr}(hn:l.most=some 63)(hdf:d.params.defaults=[])
  (hY:∀(w:World) (h:Heap),YP w h->(K w.params).In h) (hYT21:∀(w:World) (h:Heap),YP w h->h.get? mp21=some (W.tabObj (List.toArray []))) (hC21:∀(w:World),codeHdIn (K w.params) mc21 mp21=true) (hD21:∀(w:World),(K w.params).lookup mp21=none) (hYT46:∀(w:World) (h:Heap),YP w h->h.get? mp46=some (W.tabObj (List.toArray []))) (hC46:∀(w:World),codeHdIn (K w.params) mc46 mp46=true) (hD46:∀(w:World),(K w.params).lookup mp46=none) (hNE:mp21≠mp46)
  (F:∀(w:World) (mg:Str->Option Value) (fa:Addr) (h:Heap),(K w.params).In h->h.Ns mainGlobals mg->mg d.name=some (.ref fa)->
   ∃ fd:FuncData,(∀(s:Shared) (u:Value),BindsTo s fd #[[u],[]] [("_law_script",u)])/\∀ base:Heap,(K w.params).In base->base.Ns mainGlobals mg->L2.BMAt mg base->FnOk l.prog w (K w.params) mg base CX0 lawRoom fa fd ["_law_script"] (kz (K w.params) mp21 mp46)) :
  W.WalkO q loose XP YP l.row.toRowW d [] (λf vs=>PySem.call f vs):=
 L2.FW (n:=63) (k:=lawRoom) (x := "_law_script") (tabs:=[(mc21,mp21),(mc46,mp46)]) (sp:=λw=>kz (K w.params) mp21 mp46) hn (by decide) hdf #[rfl,by decide,by decide,rfl] hY (λw h Y q hq=>(aW.mp hq).elim (λz=>z ▸ hYT21 w h Y) (λhq=>(aW.mp hq).elim (λz=>z ▸ hYT46 w h Y) (λhq=>absurd hq dU))) (λw q hq=>(aW.mp hq).elim (λz=>z ▸ #[hC21 w,hD21 w]) (λhq=>(aW.mp hq).elim (λz=>z ▸ #[hC46 w,hD46 w]) (λhq=>absurd hq dU))) F (λ_ _ a ns hl hT hS=>#[a,ns,rfl,hS,hl,hNE,hT _ bx,hT _ (bG _ bx),λ_=>rfl])
end My
open PySem PySem.W PyProof.Rows
end
namespace PySem.W.Fast
def tw5449211635519135756:=0
def tw13649837017663851621:=0
def tw5407792254371507697:=0
def tw12037391398052601014:=0
def tw16574049449698266341:=0
def tw16373025255202094763:=0
def tw15450238813740311836:=0
def tw2663914388613947606:=0
def tw10064185942711156557:=0
def tw17167145999128913715:=0
def tw1861181451466537651:=0
def tw16967062387863981133:=0
def tw17075667355398622033:=0
def tw17260544928274210435:=0
def tw5942324833639528215:=0
def tw2030105903451612674:=0
def tw6695649877075282256:=0
def tw17364810742077748469:=0
def tw3831669301871387405:=0
def tw13213235367724955184:=0
def tw18309251601677193200:=0
def tw4321586031361500908:=0
def tw3693079461103031256:=0
def tw5050333336462099533:=0
def tw6860227432603055905:=0
def tw7059140016960285745:=0
def tw12663370314542145691:=0
def tw17097367671530502502:=0
def tw17728257781678345819:=0
def tw7359590695710267478:=0
def tw10993624431114421135:=0
def tw7909525479641973110:=0
def tw1728402325522578063:=0
def tw6868384446526561915:=0
def tw14237664455727086214:=0
def tw16463370625047331080:=0
def tw3734824081115334376:=0
def tw3379577086764009712:=0
def tw15874756457570034082:=0
def tw13882443741848640744:=0
def tw7324911927406313743:=0
def tw9361306220970522623:=0
def tw11591677047166151128:=0
def tw6639728838676162268:=0
def tw12573880175014452129:=0
def tw3766476418445779259:=0
def tw7546609737818508930:=0
def tw17963812672912994134:=0
def tw12219744954519883521:=0
def tw13426604489819375613:=0
def tw14807734269935632851:=0
def tw15238016296113126832:=0
def tw11839308377689964591:=0
def tw495530651908766743:=0
def tw16474504851897959643:=0
def tw11892669603022050561:=0
def tw12299111793422132594:=0
def tw3775032244749758461:=0
def tw408880482383631840:=0
def tw2883505136953786756:=0
def tw11979088150559971472:=0
def tw16728052170595942374:=0
def tw12556260210963773558:=0
def tw6952418609967729955:=0
def tw15107458325797131775:=0
def tw294343708217994924:=0
def tw14803977560636412552:=0
def tw15307704063739941928:=0
def tw7032926263410073024:=0
def tw2649583218681303905:=0
def tw15759144708574774074:=0
def tw9281951043596686972:=0
def tw8807083551374834180:=0
def tw12351776192915930087:=0
def tw8039414496389569127:=0
def tw3668884050126245730:=0
def tw13347898133503022211:=0
def tw18312991581503287272:=0
def tw11447985019743402137:=0
def tw5841079322298386061:=0
def tw3892507064508680186:=0
def tw15220314881326507689:=0
def tw2343635639783290859:=0
def tw9333611454613422882:=0
def tw10891091821142609977:=0
def tw8241724795775323113:=0
def tw12442222010171831278:=0
def tw10258164422842318874:=0
def tw382252530505110832:=0
def tw10018465029826391134:=0
def tw17756137944974462701:=0
def tw1657467527322667681:=0
def tw11979007832865175657:=0
def tw1310253745405581448:=0
def tw16913916468487277348:=0
def tw7511322899188338361:=0
def tw655752496080568621:=0
def tw1864382739917057932:=0
def tw18239796196965412353:=0
def tw3327967622802931680:=0
def tw7033862742062680099:=0
def tw17423577270219281066:=0
def tw2181728274239327527:=0
def tw7222468234442931387:=0
def tw987568874152461565:=0
def tw14917254628948311956:=0
def tw16658159437104516141:=0
def tw10007073415747389754:=0
def tw16810132328215568546:=0
def tw2535053126511954391:=0
def tw9677431087590546951:=0
def tw11072191333896332051:=0
def tw27943852434086605:=0
def tw5138875920709281810:=0
def tw6568195948724240926:=0
def tw6231373144285127315:=0
def tw11666322980995602197:=0
def tw5889752819864812599:=0
def tw16213323259325728568:=0
def tw632439991386905673:=0
def tw8693407482183962000:=0
def tw12601433729844941412:=0
def tw541216188381524006:=0
def tw12249305866280920411:=0
def tw17290119856605597810:=0
def tw8772916607350013989:=0
def tw13211975114536721888:=0
def tw7528302630002244012:=0
def tw8496486746797873421:=0
def tw1175672163357309550:=0
def tw6747587531165703622:=0
def tw14309842924326585131:=0
def tw399737205541202737:=0
def tw11903135721454878272:=0
def tw3024754046162648665:=0
def tw1738869127085597823:=0
def tw15978030754317065962:=0
def tw6024049119178835536:=0
def tw18290994674329570210:=0
def tw550332481862392999:=0
def tw7444652402785975838:=0
def tw72972687925918798:=0
def tw1118683798428951821:=0
def tw9485991007258824514:=0
def tw5318027207123373007:=0
def tw17800461173851436291:=0
def tw10098701907779743820:=0
def tw13788871213090925607:=0
def tw6845905069595331074:=0
def tw6754479378133148449:=0
def tw16772582158409591462:=0
def tw11155565781002028416:=0
def tw3102657480271514384:=0
def tw10606889828414954940:=0
def tw9381563428492525208:=0
def tw8212173053187710004:=0
def tw5727208943243343098:=0
def tw15671657602569369856:=0
def tw4927757032096154943:=0
def tw11434227429588451492:=0
def tw17576644467732741057:=0
def tw1769022846725764916:=0
def tw12325240067327912467:=0
def tw10681478119744568612:=0
def tw7409289315923891640:=0
def tw1389949192201295271:=0
def tw7541467794610237095:=0
def tw5676849510863675123:=0
def tw344046286080702392:=0
def tw6546052248172048881:=0
def tw9706419782812365555:=0
def tw11407844796488889634:=0
def tw12480596489587192160:=0
def tw15636455700730989766:=0
def tw6311662127104803036:=0
def tw10155270331693605272:=0
end PySem.W.Fast
set_option maxRecDepth 100000 in
set_option maxHeartbeats 0 in
theorem PySem.Challenge.cw_bridgefind_k29_searches_beneath_a_knot_holds : PySem.Challenge.rw_bridgefind_k29_searches_beneath_a_knot.Holds := by
 w_on; o_law; k_head; (case hw=>w_witness2)
 k_fill
 refine My.walk (l:=PySem.Challenge.rw_bridgefind_k29_searches_beneath_a_knot) (mc21:=142) (mp21:=138) (mc46:=299) (mp46:=297) rfl rfl (fun w h Y=>PySem.W.km_in_of Y) (fun w h Y=>PySem.W.km_tabs_of Y 138 (by decide)) (fun w=>by kernel_rfl) (fun w=>by kernel_rfl) (fun w h Y=>PySem.W.km_tabs_of Y 297 (by decide)) (fun w=>by kernel_rfl) (fun w=>by kernel_rfl) (by decide) ?F
 case F=>
  intro w mg fa h KX G hmg
  refine' My.Km (mc21:=142) (mp21:=138) (mc46:=299) (mp46:=297) KX G hmg ?_ ?_ ?_ ?_ ?_ ?_ ?_ ?_ ?_ ?_ ?_ ?_ ?_ ?_ ?_ ?_ ?_ ?_ ?_ ?_ ?_ ?_ ?_ ?_ ?_ ?_ ?_ ?_ ?_ ?_ ?_ ?_ ?_ ?_ ?_ ?_ ?_ ?_ ?_ ?_ ?_ ?_ ?_ ?_ ?_ ?_ ?_ ?_ ?_ ?_ ?_ ?_ ?_ ?_ ?_ ?_ ?_ ?_ ?_ ?_ ?_ ?_ ?_ ?_ ?_ ?_ ?_ ?_ ?_ ?_ ?_
  any_goals k_is
  all_goals first | refine' My.AD.of ?_ ?_ ?_ ?_ | skip
  any_goals k_is
  all_goals kernel_rfl

