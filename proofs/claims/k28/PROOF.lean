import PyProof.Rows.All
import Wide.All
import OpenK.AllK
import Wide.FinOn
import PyProof.EqAt
import PyProof.EqKinds
import PyProof.TupleCall
import PyProof.NeKinds
import Lean
import PyProof.ReprRoads
import PyProof.CallStr
import PyProof.Rows.SeqMore2
import PySem.Challenge.RW_bridgefind_k28_searches_down_a_way
set_option autoImplicit true
set_option relaxedAutoImplicit true
set_option Elab.async false
set_option linter.all false
set_option maxRecDepth 100000
set_option maxHeartbeats 1000000
def mP {i m n:Nat}(e:i+m=n)(h:i < n):m - 1 < m:=by lia
def mQ {i m n:Nat}(e:i+m=n)(h:i < n):i+1+(m - 1)=n:=by lia
def rO {α:Type}{xs:List α}{i:Nat}{x:α}(h:xs[i]?=some x):i < xs.length:=(List.getElem?_eq_some_iff.mp h).1
def xB {α β:Type}{f:α->β}{xs:List α}{i:Nat}{x:α}(h:xs[i]?=some x):i < (xs.map f).length:=by rw[List.length_map];exact rO h
def xC {α β:Type}{f:α->β}{xs:List α}{i:Nat}(h:i < xs.length):i < (xs.map f).length:=by rw[List.length_map];exact h
def rP {l r n x:Nat}(a:r - l<=n - x):r - (l+(r - l) / 2+1)<=n - (x+1):=Nat.le_trans (Nat.sub_le_sub_left (Nat.add_le_add_right (Nat.le_add_right _ _) 1) r) (by rw[<-Nat.sub_sub,<-Nat.sub_sub];exact Nat.sub_le_sub_right a 1)
def rQ {l r n x:Nat}(a:r - l<=n - x)(h:¬l >= r):l+(r - l) / 2 - l<=n - (x+1):=by rw[Nat.add_sub_cancel_left,<-Nat.sub_sub];exact Nat.le_sub_one_of_lt (Nat.lt_of_lt_of_le (Nat.div_lt_self (Nat.sub_pos_of_lt (Nat.lt_of_not_le h)) (by decide)) a)
def gW {l r:Nat}(h:¬l >= r):l<=(l+r) / 2/\(l+r) / 2 < r:=⟨(Nat.le_div_iff_mul_le Nat.two_pos).mpr (by rw[Nat.mul_two];exact Nat.add_le_add_left (Nat.le_of_not_le h) l),Nat.div_lt_of_lt_mul (by rw[Nat.two_mul];exact Nat.add_lt_add_right (Nat.lt_of_not_le h) r)⟩
def rR {l r n x:Nat}(a:r - l<=n - x)(h:¬l >= r):r - ((l+r) / 2+1)<=n - (x+1):=Nat.le_trans (Nat.sub_le_sub_left (Nat.add_le_add_right (gW h).1 1) r) (by rw[<-Nat.sub_sub,<-Nat.sub_sub];exact Nat.sub_le_sub_right a 1)
def rS {l r n x:Nat}(a:r - l<=n - x)(h:¬l >= r):(l+r) / 2 - l<=n - (x+1):=by rw[<-Nat.sub_sub];exact Nat.le_sub_one_of_lt (Nat.lt_of_lt_of_le (Nat.sub_lt_sub_right (gW h).1 (gW h).2) a)
def rT {l o h:Nat}(a:l < o)(b:l<=h):h+1 - min o (h+1)<=h - l:=Nat.le_trans (Nat.sub_le_sub_left (Nat.le_min.mpr ⟨a,Nat.succ_le_succ b⟩) _) (Nat.le_of_eq (Nat.add_sub_add_right _ _ _))
def rV {l o h n:Nat}(a:l < o)(b:h+l < n):h+l+1<=h+min o (n - h):=Nat.add_le_add_left (Nat.le_min.mpr ⟨a,Nat.le_sub_of_add_le (by rw[Nat.add_comm];exact b)⟩) h
def rW {o h n:Nat}(a:h < n):h+min o (n - h)<=n:=Nat.le_trans (Nat.add_le_add_left (Nat.min_le_right _ _) _) (Nat.le_of_eq (Nat.add_sub_of_le (Nat.le_of_lt a)))
def rX {i o h:Nat}(a:i < h+1 - min o (h+1))(b:o < h+1):i<=h - o:=by rw[Nat.min_eq_left (Nat.le_of_lt b),Nat.succ_sub (Nat.le_of_lt_succ b)]at a;exact Nat.le_of_lt_succ a
def rY {i o h:Nat}(b:¬o < h+1):¬i < h+1 - min o (h+1):=by rw[Nat.min_eq_right (Nat.le_of_not_lt b),Nat.sub_self];exact Nat.not_lt_zero _
def eC {s k n:Nat}(a:k<=n):s+k+(n - k)=s+n:=by rw[Nat.add_assoc,Nat.add_sub_of_le a]
def rZ {s k n:Nat}(a:k<=n):s+k+(n - k) - 1=s+n - 1:=by rw[eC a]
def r6 {s k n z:Nat}(a:k<=n)(b:s+n < z):s+k+(n - k) - 1 < z:=by rw[eC a];exact Nat.lt_of_le_of_lt (Nat.sub_le _ _) b
def ji {s k n z:Nat}(a:k<=n)(b:s+n < z):s+k+(n - k)<=z:=by rw[eC a];exact Nat.le_of_lt b
def kH {s k n j:Nat}(b:j < s+k+(n - k))(a:k<=n):j < s+n:=by rw[eC a]at b;exact b
def r9 {s k n j:Nat}(b:j < s+k+(n - k))(a:k<=n)(c:s+k<=j):j - s < n:=Nat.sub_lt_left_of_lt_add (Nat.le_trans (Nat.le_add_right _ _) c) (kH b a)
def mR {s k n X z i:Nat}(e:X=n - k)(a:k<=n)(c:i < X)(b:s+n < z):s+k+i < z:=Nat.lt_of_lt_of_le (Nat.add_lt_add_left c _) (by rw[e,eC a];exact Nat.le_of_lt b)
def CO {i j k z:Nat}(a:j < min k (z - i)):i+j < z:=by rw[Nat.add_comm];exact Nat.add_lt_of_lt_sub (Nat.lt_of_lt_of_le a (Nat.min_le_right _ _))
def iD {a b c N:Nat}(w:1+(a+b)<=N)(h:c<=b - 1):1+(a - 1+c)<=N:=Nat.le_trans (Nat.add_le_add_left (Nat.add_le_add (Nat.sub_le _ _) (Nat.le_trans h (Nat.sub_le _ _))) 1) w
def CP {a b N:Nat}(w:1+(a+b)<=N):1+(a - 1+(b - 1))<=N:=iD w (Nat.le_refl _)
def cL {b i m:Nat}(h:b<=i)(g:i < b+m):i - b < m:=Nat.sub_lt_left_of_lt_add h g
def CQ {n k f c:Nat}(h:n - k<=f+1)(g:k < c):n - c<=f:=Nat.le_trans (Nat.sub_le_sub_left g n) (by show n - (k+1)<=f;rw[<-Nat.sub_sub];exact Nat.sub_le_of_le_add h)
def xD {n i:Nat}(h:i < n):n - 1 - (n - 1 - i)=i:=Nat.sub_sub_self (Nat.le_sub_one_of_lt h)
def CS {n i:Nat}(h:i < n):n - 1 - (n - 1 - i) < n:=by rw[xD h];exact h
local macro_rules|`(tactic|lia)=>`(tactic|first | (with_reducible (first | assumption | exact Nat.le_of_lt ‹_› | exact Nat.lt_add_one_of_le ‹_› | exact Nat.lt_add_one _ | exact Nat.le_add_right _ _ | exact Nat.le_add_left _ _ | exact Nat.le_of_lt_add_one ‹_› | exact Nat.lt_of_le_of_lt (Nat.zero_le _) ‹_› | exact Nat.sub_lt ‹_› Nat.one_pos | exact mP ‹_› ‹_› | exact mQ ‹_› ‹_› | exact mP ‹_› (rO ‹_›) | exact mQ ‹_› (rO ‹_›) | exact mP ‹_› (xB ‹_›) | exact rP ‹_› | exact rQ ‹_› ‹_› | exact rR ‹_› ‹_› | exact rS ‹_› ‹_› | exact rT ‹_› ‹_› | exact rV ‹_› ‹_› | exact rW ‹_› | exact rX ‹_› ‹_› | exact rY ‹_› | exact eC ‹_› | exact rZ ‹_› | exact r6 ‹_› ‹_› | exact ji ‹_› ‹_› | exact kH ‹_› ‹_› | exact r9 ‹_› ‹_› ‹_› | exact mR ‹_› ‹_› ‹_› ‹_› | exact Nat.sub_sub_self ‹_› | exact CO ‹_› | exact Nat.sub_le_sub_right ‹_› _ | exact Nat.sub_le_sub_left ‹_› _ | exact iD ‹_› ‹_› | exact CP ‹_› | exact cL ‹_› ‹_› | exact CQ ‹_› ‹_› | exact xD ‹_› | exact CS ‹_› | exact mQ ‹_› (xB ‹_›) | exact mP ‹_› (xC ‹_›) | exact mQ ‹_› (xC ‹_›) | exact Nat.sub_le _ _ | exact Nat.add_sub_of_le ‹_› | exact Nat.le_refl _ | exact Nat.le_trans ‹_› ‹_› | exact Nat.lt_of_lt_of_le ‹_› ‹_› | exact Nat.lt_of_le_of_lt ‹_› ‹_› | exact Nat.le_trans (Nat.le_of_lt ‹_›) ‹_› | exact Nat.lt_of_lt_of_eq ‹_› ‹_› | exact Nat.lt_of_lt_of_eq ‹_› (Eq.symm ‹_›) | exact Nat.le_of_eq ‹_› | exact Nat.le_of_eq (Eq.symm ‹_›) | exact Nat.lt_of_lt_of_le ‹_› (Nat.le_add_right _ _) | exact Nat.le_antisymm ‹_› ‹_› | exact Eq.symm ‹_› | exact Int.natCast_nonneg _ | exact Int.ofNat_lt.mpr ‹_› | exact Int.ofNat_lt.mp ‹_› | exact Int.ofNat_le.mpr ‹_› | exact Int.le_of_lt ‹_›)) | cutsat|omega)
abbrev ao:=@PySem.wpAny_bind
abbrev aC:=@PySem.wpAny_pure
abbrev dM:=@PySem.wpAny_mono
abbrev af:=@if_pos
abbrev ag:=@if_neg
abbrev ar:=@Or.inl
abbrev dh:=@Or.inr
abbrev aT:=@Ne.symm
abbrev jk:=@Decidable.byContradiction
abbrev bL:=@PySem.boot_len
open PySem.W (Frag nsIn codeIn keepIn tabIn codeHdIn mg_of mg_none_of fnOf OpenLaw kitOne mroIn findIn)
abbrev ai:=@Nat.le_refl
abbrev aq:=@List.length_map
abbrev aw:=@List.getElem?_eq_getElem
abbrev az:=@Nat.le_trans
abbrev aA:=@List.getD_eq_getElem?_getD
abbrev aJ:=@PySem.Heap.lt_size
abbrev aK:=@Option.some.inj
abbrev aM:=@List.mem_singleton
abbrev aN:=@List.getElem?_eq_some_iff
abbrev aO:=@Nat.lt_of_lt_of_le
abbrev aU:=@PySem.Heap.get?_push_of_some
abbrev aV:=@List.length_append
abbrev aW:=@List.length_take
abbrev aX:=@List.mem_cons
abbrev aY:=@List.getElem?_map
abbrev bf:=@Nat.le_of_lt
abbrev bg:=@decide_eq_true
abbrev bh:=@Nat.ne_of_lt
abbrev bj:=@List.mem_append
abbrev bo:=@List.map_append
abbrev bu:=@List.mem_cons_self
abbrev bx:=@List.take_of_length_le
abbrev bC:=@List.mem_map
abbrev bD:=@decide_eq_false
abbrev bE:=@List.mem_cons_of_mem
abbrev bF:=@Array.length_toList
abbrev bG:=@Nat.zero_le
abbrev bJ:=@of_decide_eq_true
abbrev bM:=@List.size_toArray
abbrev bS:=@List.map_cons
abbrev bV:=@List.mem_append_right
abbrev bY:=@Bool.false_ne_true
abbrev bZ:=@List.append_nil
abbrev cf:=@Nat.le_of_not_lt
abbrev cp:=@Nat.add_le_add_left
abbrev cq:=@Nat.le_add_right
abbrev cv:=@List.length_range
abbrev cB:=@List.mem_of_getElem?
abbrev cC:=@Nat.lt_of_le_of_lt
abbrev cF:=@Nat.lt_of_le_of_ne
abbrev cG:=@List.getElem_mem
abbrev cH:=@List.take_succ_eq_append_getElem
abbrev cM:=@List.pairwise_iff_getElem
abbrev cQ:=@PySem.Heap.get?_push_size
abbrev cR:=@List.length_cons
abbrev cS:=@Bool.false_eq_true
abbrev cX:=@List.pairwise_append
abbrev cY:=@List.lookup_cons
abbrev cZ:=@List.filter_append
abbrev di:=@List.length_singleton
abbrev dj:=@Nat.le_succ
abbrev dk:=@Nat.le_of_eq
abbrev dv:=@Nat.lt_irrefl
abbrev dw:=@List.mem_range
abbrev dy:=@Nat.le_of_lt_succ
abbrev dz:=@Nat.add_lt_add_left
abbrev dA:=@List.append_assoc
abbrev dB:=@List.sum_cons
abbrev dN:=@List.nodup_cons
abbrev dO:=@Nat.succ_pos
abbrev dP:=@Array.toList_append
abbrev dQ:=@List.getElem_of_mem
abbrev d6:=@Bool.and_eq_true
abbrev d7:=@Nat.sub_one_lt_of_lt
abbrev d8:=@Nat.min_eq_left
abbrev d9:=@List.getElem?_eq_none
abbrev ee:=@List.not_mem_nil
abbrev ef:=@List.filter_cons_of_pos
abbrev eD:=@List.mem_filter
abbrev eE:=@List.mem_append_left
abbrev eF:=@List.getElem?_append_right
abbrev eG:=@List.length_drop
abbrev eJ:=@Array.getElem?_eq_getElem
abbrev eK:=@Nat.sub_le
abbrev eL:=@List.drop_eq_nil_of_le
abbrev eN:=@Nat.pos_of_ne_zero
abbrev eO:=@Array.getElem?_toList
abbrev eP:=@List.length_filter_le
abbrev eV:=@Option.map_eq_some_iff
abbrev eW:=@Nat.lt_of_not_le
abbrev eX:=@List.take_append_drop
abbrev eY:=@List.all_eq_true
abbrev eZ:=@Nat.mod_lt
abbrev fb:=@Int.zero_add
abbrev fk:=@List.length_replicate
abbrev fm:=@Int.toNat_natCast
abbrev fo:=@Nat.le_sub_one_of_lt
abbrev fq:=@Nat.add_sub_of_le
abbrev fw:=@Nat.zero_add
abbrev fz:=@List.filter_cons_of_neg
abbrev fM:=@Nat.le_antisymm
abbrev fN:=@Nat.add_le_add_right
abbrev fO:=@List.nodup_append
abbrev fP:=@List.range_succ
abbrev fZ:=@List.getElem?_append_left
abbrev f6:=@List.take_zero
abbrev f7:=@List.ext_getElem?
abbrev gC:=@List.any_cons
abbrev gD:=@List.nodup_nil
abbrev gE:=@Nat.add_comm
abbrev gF:=@Nat.lt_of_succ_lt
abbrev gG:=@Nat.add_zero
abbrev gH:=@List.getElem?_range
abbrev gX:=@Nat.zero_lt_of_lt
abbrev gY:=@Nat.not_le_of_lt
abbrev gZ:=@Nat.sub_pos_of_lt
abbrev g8:=@List.mem_of_mem_take
abbrev g9:=@Bool.not_eq_true'
abbrev hE:=@Bool.not_true
abbrev hG:=@List.map_map
abbrev hW:=@Nat.not_lt
abbrev hZ:=@List.map_take
abbrev ie:=@Nat.pow_succ
abbrev iE:=@Nat.ne_of_gt
abbrev iF:=@Int.natCast_nonneg
abbrev iG:=@PySem.Heap.get?_update_other
abbrev iH:=@Nat.sub_sub
abbrev iI:=@Nat.min_eq_right
abbrev iJ:=@Nat.succ_le_succ
abbrev iK:=@Nat.sub_self
abbrev iL:=@Nat.add_sub_cancel
abbrev iM:=@List.pairwise_map
abbrev iN:=@Bool.eq_false_iff
abbrev iO:=@of_decide_eq_false
abbrev jl:=@List.find?_cons
abbrev jm:=@List.map_nil
abbrev jn:=@Nat.lt_trans
abbrev jo:=@Nat.two_pos
abbrev jq:=@Nat.le_of_add_right_le
abbrev jr:=@Nat.not_lt_of_le
abbrev jt:=@Nat.lt_succ_of_le
abbrev ju:=@Array.toList_push
abbrev jv:=@Nat.add_assoc
abbrev jw:=@Nat.lt_or_ge
abbrev jx:=@List.getElem?_take
abbrev jy:=@PySem.Heap.size_push
abbrev jz:=@Nat.lt_succ_self
abbrev jA:=@Nat.testBit_succ
abbrev jB:=@List.map_set
abbrev kI:=@List.filterMap_cons
abbrev kJ:=@List.of_mem_zip
abbrev kK:=@Nat.le_sub_of_add_le
abbrev kL:=@Nat.not_lt_zero
abbrev kM:=@List.drop_eq_getElem_cons
abbrev kO:=@List.nil_append
abbrev kP:=@Array.toList_reverse
abbrev kQ:=@List.getElem?_drop
abbrev kR:=@List.getElem?_cons_succ
abbrev kS:=@Int.emod_nonneg
abbrev kT:=@Int.emod_lt_of_pos
abbrev kU:=@Bool.or_eq_true
abbrev kW:=@List.mem_reverse
abbrev kZ:=@List.getElem?_set
abbrev k9:=@List.pairwise_lt_range
abbrev lg:=@List.filter_eq_nil_iff
abbrev lh:=@List.length_reverse
abbrev ll:=@List.mem_or_eq_of_mem_set
abbrev mS:=@Bool.eq_iff_iff
abbrev mT:=@List.length_set
abbrev mU:=@List.all_cons
abbrev mV:=@List.length_nil
abbrev mW:=@Nat.le_succ_of_le
abbrev mX:=@Nat.lt_add_of_pos_right
abbrev mY:=@Nat.sub_le_sub_left
abbrev mZ:=@Nat.sub_lt_left_of_lt_add
abbrev m4:=@Nat.le_sub_of_add_le'
abbrev m5:=@Nat.le_mul_of_pos_left
abbrev m6:=@List.drop_drop
abbrev m8:=@List.perm_append_comm
abbrev m9:=@Array.toList_extract
abbrev ng:=@List.extract_eq_take_drop
abbrev nh:=@Nat.eq_zero_of_not_pos
abbrev ni:=@List.drop_take
abbrev nj:=@List.reverse_append
abbrev nk:=@List.drop_zero
abbrev nq:=@Nat.lt_succ_of_lt
abbrev nr:=@List.eq_nil_of_length_eq_zero
abbrev nv:=@List.reverse_cons
abbrev ny:=@List.mem_take_iff_getElem
abbrev nz:=@List.length_zip
abbrev nA:=@List.mem_flatten
abbrev nB:=@List.any_append
abbrev nC:=@List.flatten_append
abbrev nD:=@List.filter_nil
abbrev nE:=@List.filter_filter
abbrev nF:=@List.length_pos_iff
abbrev sf:=@List.mem_filterMap
abbrev sg:=@List.getElem?_replicate
abbrev si:=@PySem.Heap.get?_update_self
abbrev sk:=@Array.perm_iff_toList_perm
abbrev so:=@List.pairwise_cons
abbrev sv:=@List.mem_of_mem_drop
abbrev sG:=@Nat.add_right_comm
abbrev sH:=@Bool.not_eq_false'
abbrev sI:=@List.reverse_reverse
abbrev sJ:=@Nat.le_of_sub_eq_zero
abbrev sL:=@List.zip_cons_cons
abbrev sM:=@List.getElem?_reverse
abbrev sN:=@List.filter_eq_self
abbrev sO:=@List.map_congr_left
abbrev sP:=@List.replicate_succ'
section
local macro_rules|`(#[$xs,*])=>`(⟨$xs,*⟩)
namespace L2
open PySem PySem.Spec PyProof.Rows
abbrev Key:=Sum Int Str
def iP:Key->Value->Bool
  | .inl k,v=>Value.isInt k v
  | .inr x,v=>Value.isStrOf x v
def keyH (w:World):Key->Int
  | .inl k=>hashInt k
  | .inr x=>hashStr w x
def f9:∀{k:Key} {v:Value},iP k v=true->(∃ i t,k=Sum.inl i/\v=Value.int i t)\/(∃ x t,k=Sum.inr x/\v=Value.str x t)
  | .inl i,v,h=>by
    obtain ⟨t,e⟩:=Value.isInt_shape (k:=i) (v:=v) h;exact .inl #[i,t,rfl,e]
  | .inr x,v,h=>by
    obtain ⟨t,e⟩:=Value.isStrOf_shape (x:=x) (v:=v) h;exact .inr #[x,t,rfl,e]
def CT (i:Int)(t:Tok):iP (.inl i) (.int i t)=true:=by simp[iP,Value.isInt]
def CU (x:Str)(t:Tok):iP (.inr x) (.str x t)=true:=by simp[iP,Value.isStrOf]
def CV (a b:Int):decide ((Sum.inl a:Key)=Sum.inl b)=(a==b):=by
  by_cases e:a=b
  · subst e;simp
  · have h:¬ (Sum.inl a:Key)=Sum.inl b:=λq=>e (Sum.inl.inj q)
    rw[bD h];exact (beq_eq_false_iff_ne.mpr e).symm
def CW (a b:Str):decide ((Sum.inr a:Key)=Sum.inr b)=decide (a=b):=by
  by_cases e:a=b
  · subst e;simp
  · have h:¬ (Sum.inr a:Key)=Sum.inr b:=λq=>e (Sum.inr.inj q)
    rw[bD h,bD e]
def CY (a:Int)(b:Str):decide ((Sum.inl a:Key)=Sum.inr b)=false:=bD (λq=>nomatch q)
def CZ (a:Str)(b:Int):decide ((Sum.inr a:Key)=Sum.inl b)=false:=bD (λq=>nomatch q)
def bz (prog:Program)(w:World):PySem.KeyKind prog w Key where
  is:=iP
  hash:=keyH w
  inj:=λv a b ha hb=>by
    rcases f9 ha with ⟨i,t,rfl,rfl⟩|⟨x,t,rfl,rfl⟩
    · rcases f9 hb with ⟨j,u,rfl,e⟩|⟨y,u,rfl,e⟩
      · injection e with e1 _;rw[e1]
      · exact nomatch e
    · rcases f9 hb with ⟨j,u,rfl,e⟩|⟨y,u,rfl,e⟩
      · exact nomatch e
      · injection e with e1 _;rw[e1]
  byValue:=λk v h=>by
    rcases f9 h with ⟨i,t,rfl,rfl⟩|⟨x,t,rfl,rfl⟩<;>rfl
  pyHash:=λhv h=>by
    rcases f9 hv with ⟨i,t,rfl,rfl⟩|⟨x,t,rfl,rfl⟩
    · exact wpAny_pyHash_int h
    · exact wpAny_pyHash_str h
  eqBool:=λhu hv h=>by
    rcases f9 hu with ⟨i,t,rfl,rfl⟩|⟨x,t,rfl,rfl⟩
    · rcases f9 hv with ⟨j,u,rfl,rfl⟩|⟨y,u,rfl,rfl⟩
      · rw[CV]at h;exact wpAny_eqBool_int h
      · rw[CY]at h;exact SeqAt.EqAt.int_str i t y u _ _ _ _ h
    · rcases f9 hv with ⟨j,u,rfl,rfl⟩|⟨y,u,rfl,rfl⟩
      · rw[CZ]at h;exact SeqAt.EqAt.str_int x t j u _ _ _ _ h
      · rw[CW]at h;exact wpAny_eqBool_str h
  «strs»:=λk x t v h=>by
    rcases f9 h with ⟨i,u,rfl,e⟩|⟨y,u,rfl,e⟩
    · exact nomatch e
    · injection e with e1 _
      subst e1;cases v<;>rfl
def C0 (prog:Program)(w:World)(k:Key)(v:Value):(bz prog w).is k v=iP k v:=rfl
def sQ (prog:Program)(w:World)(i:Int)(t:Tok):(bz prog w).is (.inl i) (.int i t)=true:=CT i t
def C1 (prog:Program)(w:World)(x:Str)(t:Tok):(bz prog w).is (.inr x) (.str x t)=true:=CU x t
inductive V where
  | non|bl (b:Bool)|int (i:Int)|str (x:Str)|byt (b:Array UInt8)|flt (b:UInt64)|ref (a:Addr)|ty (n:String)
  deriving DecidableEq
def RelV:V->Value->Prop
  | .non,u=>u=Value.none
  | .bl b,u=>u=Value.bool b
  | .int i,u=>∃ t,u=Value.int i t
  | .str x,u=>∃ t,u=Value.str x t
  | .byt b,u=>∃ t,u=Value.bytes b t
  | .flt b,u=>∃ t,u=Value.float b t
  | .ref a,u=>u=Value.ref a
  | .ty n,u=>u=Value.type n
abbrev Vals:List V->List Value->Prop:=Paired RelV
def Vals.length {xs:List V}{us:List Value}(r:Vals xs us):xs.length=us.length:=Paired.length r
def Vals.get:∀{xs:List V} {us:List Value} {i:Nat} {x:V},Vals xs us->xs[i]?=some x->∃ u,us[i]?=some u/\RelV x u
  | _,_,_,_,.nil,e=>by simp at e
  | _,_,0,_,.cons r _,e=>by simp at e;subst e;exact #[_,rfl,r]
  | _,_,i+1,x,.cons _ t,e=>by
    obtain ⟨u,h1,h2⟩:=Vals.get (i:=i) (x:=x) t (by simpa using e);exact #[u,by simpa using h1,h2]
def Vals.set {x:V}{u:Value}(r:RelV x u):∀{xs:List V} {us:List Value} (i:Nat),Vals xs us->Vals (xs.set i x) (us.set i u)
  | _,_,_,.nil=>.nil
  | _,_,0,.cons _ t=>.cons r t
  | _,_,i+1,.cons q t=>.cons q (Vals.set r i t)
def Vals.append:∀{xs ys:List V} {us ws:List Value},Vals xs us->Vals ys ws->Vals (xs++ys) (us++ws)
  | _,_,_,_,.nil,s=>s
  | _,_,_,_,.cons r t,s=>.cons r (Vals.append t s)
def Vals.take:∀{xs:List V} {us:List Value} (n:Nat),Vals xs us->Vals (xs.take n) (us.take n)
  | _,_,0,_=>.nil
  | _,_,_+1,.nil=>.nil
  | _,_,n+1,.cons r t=>.cons r (Vals.take n t)
def Vals.drop:∀{xs:List V} {us:List Value} (n:Nat),Vals xs us->Vals (xs.drop n) (us.drop n)
  | _,_,0,r=>r
  | _,_,_+1,.nil=>.nil
  | _,_,n+1,.cons _ t=>Vals.drop n t
def RelO:Option V->Option Value->Prop
  | some v,some u=>RelV v u
  | none,none=>True
  | _,_=>False
def KV {κ:Type}:List (κ×V)->List (κ×Value)->Prop:=Paired λ(p:κ×V) (q:κ×Value)=>p.1=q.1/\RelV p.2 q.2
def kV:Key->V
  | .inl i=>.int i
  | .inr x=>.str x
inductive HO where
  | lst (xs:List V)
  | tup (xs:List V)
  | dK (kvs:List (Key×V))|dT (kvs:List (List Key×V))
  | set (S:Int->Bool) (n:Nat)
  | ins (C dx:Addr) (fs:List (Str×V))
  | own (x:Addr)
  | xd (fs:List (Str×V))
  | met (f x:Addr)
  | rng (lo hi:Int)
  | frz (o:Obj) (u:HO)
  | tbl (ps:Array Value)
  | ext (φ:Heap->Prop)
abbrev Hp:=Addr->Option HO
def upd (H:Hp)(a:Addr)(o:HO):Hp:=λb=>if b=a then some o else H b
def aj {a:Addr}:upd H a o a=some o:=by unfold upd;rw[af rfl]
def ak {a b:Addr}(h:b≠a):upd H a o b=H b:=by unfold upd;rw[ag h]
def C3 {a:Addr}:upd (upd H a o) a u=upd H a u:=by
  funext b;unfold upd;split<;>rfl
def xE {H:Hp}{a b:Addr}{o u:HO}(h:H a=some o)(h':H b=some u)(d:o≠u):a≠b:=by
  intro e;subst e;rw[h]at h';exact d (aK h')
def au {H:Hp}{a b:Addr}{o:HO}(h:H a=some o)(h':H b=none):a≠b:=by
  intro e;subst e;rw[h]at h';cases h'
section
variable (P:Program)(w:World)
def bB (H:Hp)(h:Heap)(a:Addr):HO->Prop
  | .lst xs=>xs.length<=sizeLine/\∃(its:List Value) (n:Nat),Vals xs its/\h.get? a=some { cls:=.type "list",data:=.seq its.toArray n }
  | .tup xs=>xs.length<=sizeLine/\∃ its:List Value,Vals xs its/\IsTup h a its.toArray
  | .dK kvs=>kvs.length<=sizeLine/\(a==sysModules)=false/\∃ vs,KV kvs vs/\h.DictOf (bz P w) a vs
  | .dT kvs=>kvs.length<=sizeLine/\(a==sysModules)=false/\∃ xs:List (List Key×Addr×Value),
      Paired (λ(p:List Key×V) (q:List Key×Addr×Value)=>p.1=q.1/\H q.2.1=some (.tup (p.1.map kV))/\RelV p.2 q.2.2) kvs xs/\
      ∃ o es ep,h.get? a=some o/\o.ExactDict/\o.data=.dict es ep/\es.toList=xs.map (entryOfKey (tupleKind (bz P w)))/\(xs.map (·.1)).Nodup
  | .set S n=>h.SetOf (intKind P w) a S n
  | .ins C dx fs=>H dx=some (.own a)/\fs.length<=1000/\dx≠a/\h.get? a=some (W.instObj C dx)/\
      ∃ mA,h.Ns1 dx mA/\(∀ f,RelO (fs.lookup f) (mA f))/\PySem.Within mA (fs.map (·.1))
  | .own _=>∃ o,h.get? a=some o
  | .xd fs=>∃ mA,h.Ns1 a mA/\∀ f,RelO (fs.lookup f) (mA f)
  | .rng lo hi=>∃ t u v,h.get? a=some { cls:=.type "range",data:=.fields (List.toArray [.int lo t,.int hi u,.int 1 v]) }
  | .frz o u=>h.get? a=some o/\bB H h a u
  | .tbl ps=>h.get? a=some { cls:=.none,data:=.fields ps }
  | .met f x=>h.get? a=some (W.methodObj (.ref f) (.ref x))
  | .ext φ=>φ h/\(∃ o,h.get? a=some o)/\∀ h1 h2:Heap,φ h1->(∀ o,h1.get? a=some o->h2.get? a=some o)->φ h2
def HOk (H:Hp)(h:Heap):Prop:=∀ a o,H a=some o->bB P w H h a o
end
section
variable {P:Program}{w:World}{H H':Hp}{h h':Heap}{a:Addr}{o:HO}
def bB.lt (x:bB P w H h a o):a<h.objs.size:=by
  cases o with
  | lst xs=>obtain ⟨_,_,_,_,e⟩:=x;exact aJ e
  | tup xs=>obtain ⟨_,_,_,p⟩:=x;exact p.lt
  | dK kvs=>obtain ⟨_,_,_,_,o,_,_,e,_⟩:=x;exact aJ e
  | dT kvs=>obtain ⟨_,_,_,_,o,_,_,e,_⟩:=x;exact aJ e
  | set S n=>obtain ⟨o,_,_,_,e,_⟩:=x;exact aJ e
  | ins C dx fs=>obtain ⟨_,_,_,e,_⟩:=x;exact aJ e
  | own y=>obtain ⟨_,e⟩:=x;exact aJ e
  | xd fs=>obtain ⟨_,⟨_,_,_,e,_⟩,_⟩:=x;exact aJ e
  | rng lo hi=>obtain ⟨_,_,_,e⟩:=x;exact aJ e
  | frz ob u=>obtain ⟨e,_⟩:=x;exact aJ e
  | tbl ps=>exact aJ (show h.get? a=some _ from x)
  | met f y=>exact aJ (show h.get? a=some _ from x)
  | ext φ=>obtain ⟨_,⟨_,e⟩,_⟩:=x;exact aJ e
def Paired.mapP {α β:Type}{F G:α->β->Prop}:∀{l₁:List α} {l₂:List β},Paired F l₁ l₂->(∀ a b,F a b->G a b)->Paired G l₁ l₂
  | _,_,.nil,_=>.nil
  | _,_,.cons r t,f=>.cons (f _ _ r) (Paired.mapP t f)
def bB.stay (x:bB P w H h a o)(k:∀ b u,(b=a\/H b=some (.own a))->h.get? b=some u->h'.get? b=some u)
    (ho:∀ b,H b=some (.own a)->H' b=some (.own a)) (ht:∀ b xs,H b=some (.tup xs)->H' b=some (.tup xs)):bB P w H' h' a o:=by
  induction o with
  | lst xs=>obtain ⟨z,its,n,r,e⟩:=x;exact #[z,its,n,r,k _ _ (.inl rfl) e]
  | tup xs=>obtain ⟨z,its,r,ob,e,c⟩:=x;exact #[z,its,r,ob,k _ _ (.inl rfl) e,c]
  | dK kvs=>obtain ⟨z,y,vs,r,ob,es,ep,e,c⟩:=x;exact #[z,y,vs,r,ob,es,ep,k _ _ (.inl rfl) e,c]
  | dT kvs=>
    obtain ⟨z,y,xs,r,ob,es,ep,e,c⟩:=x;exact #[z,y,xs,Paired.mapP r λp q z=>#[z.1,ht _ _ z.2.1,z.2.2],ob,es,ep,k _ _ (.inl rfl) e,c]
  | set S n=>obtain ⟨ob,es,ep,t,e,c⟩:=x;exact #[ob,es,ep,t,k _ _ (.inl rfl) e,c]
  | ins C dx fs=>
    obtain ⟨d,z,ne,e,mA,⟨od,es,ep,e2,c⟩,r⟩:=x;exact #[ho _ d,z,ne,k _ _ (.inl rfl) e,mA,#[od,es,ep,k _ _ (.inr d) e2,c],r]
  | own y=>obtain ⟨ob,e⟩:=x;exact #[ob,k _ _ (.inl rfl) e]
  | xd fs=>obtain ⟨mA,⟨od,es,ep,e,c⟩,r⟩:=x;exact #[mA,#[od,es,ep,k _ _ (.inl rfl) e,c],r]
  | rng lo hi=>obtain ⟨t,u,v,e⟩:=x;exact #[t,u,v,k _ _ (.inl rfl) e]
  | frz ob u ih=>obtain ⟨e,q⟩:=x;exact #[k _ _ (.inl rfl) e,ih q]
  | tbl ps=>
    have e:h.get? a=some { cls:=.none,data:=.fields ps }:=x;show h'.get? a=some { cls:=.none,data:=.fields ps };exact k a _ (.inl rfl) e
  | met f y=>
    have e:h.get? a=some (W.methodObj (.ref f) (.ref y)):=x;show h'.get? a=some (W.methodObj (.ref f) (.ref y));exact k a _ (.inl rfl) e
  | ext φ=>obtain ⟨p,⟨o,e⟩,st⟩:=x;exact #[st _ _ p λo q=>k _ _ (.inl rfl) q,#[o,k _ _ (.inl rfl) e],st]
def HOk.lt (x:HOk P w H h)(e:H a=some o):a<h.objs.size:=(x a o e).lt
def HOk.fresh (x:HOk P w H h)(e:h.objs.size<=a):H a=none:=by
  cases q:H a with
  | none=>rfl
  | some u=>exact absurd (aO (x.lt q) e) (dv _)
def HOk.kept (x:HOk P w H h)(k:∀ b u,h.get? b=some u->h'.get? b=some u):HOk P w H h':=λa o e=>
  (x a o e).stay (λb u _ q=>k b u q) (λ_ q=>q) λ_ _ q=>q
def HOk.laid (x:HOk P w H h)(k:∀ b u,h.get? b=some u->h'.get? b=some u)(hp:h.objs.size<=a)(new:bB P w (upd H a o) h' a o):HOk P w (upd H a o) h':=λb u e=>by
  have hn:=x.fresh hp;by_cases hb:b=a
  · subst hb;rw[aj]at e;cases e;exact new
  · rw[ak hb]at e
    exact (x b u e).stay (λc v _ q=>k c v q) (λc q=>by rw[ak (au q hn)];exact q) λc xs q=>by rw[ak (au q hn)];exact q
end
def Rd (H:Hp)(a:Addr)(u:HO):Prop:=H a=some u\/∃ o,H a=some (.frz o u)
def Rd.ok {w:World}{h:Heap}{a:Addr}(r:Rd H a u)(x:HOk P w H h):bB P w H h a u:=by
  rcases r with r|⟨o,r⟩
  · exact x a u r
  · obtain ⟨_,q⟩:=x a _ r
    exact q
def Mut:Option HO->Prop
  | some (.lst _)=>True
  | some (.dK _)=>True
  | some (.dT _)=>True
  | some (.set _ _)=>True
  | some (.ins _ _ _)=>True
  | some (.ext _)=>True
  | _=>False
section
variable {P:Program}{w:World}{H:Hp}{h h':Heap}{x e:Addr}{o':HO}
def HOk.write (ok:HOk P w H h)(mu:Mut (H x))(he:e=x\/H e=some (.own x))(k:∀ b u,b≠e->h.get? b=some u->h'.get? b=some u)(heo:∃ u,h'.get? e=some u)
    (new:bB P w (upd H x o') h' x o'):HOk P w (upd H x o') h':=λb u q=>by
  have nown:∀ c y,H c=some (.own y)->c≠x:=λc y r z=>by subst z;rw[r]at mu;exact mu
  have ntup:∀ c xs,H c=some (.tup xs)->c≠x:=λc xs r z=>by subst z;rw[r]at mu;exact mu
  by_cases hb:b=x
  · subst hb;rw[aj]at q;cases q;exact new
  · rw[ak hb]at q
    by_cases hbe:b=e
    · have q':H b=some (.own x):=by
        rcases he with z|z
        · exact absurd (hbe.trans z) hb
        · rw[hbe];exact z
      rw[q]at q';cases q'
      obtain ⟨v,hv⟩:=heo;exact #[v,by rw[hbe];exact hv]
    · refine (ok b u q).stay (λc v hc r=>k c v ?_ r) (λc r=>by rw[ak (nown c b r)];exact r) λc xs r=>by rw[ak (ntup c xs r)];exact r
      rcases hc with rfl|hc
      · exact hbe
      · rintro rfl
        rcases he with z|z
        · exact nown c b hc z
        · rw[hc]at z;cases z;exact hb rfl
end
structure Un (fs ex:List Addr)(H H':Hp)(h h':Heap):Prop where
  keep:∀ b o,h.get? b=some o->H b=none->b∉fs->b∉ex->h'.get? b=some o
  slot:∀ b o,h.get? b=some o->H b=none->b∈fs->b∉ex->∃ sl,h'.get? b=some { o with slots:=sl }
  free:∀ b o,h.get? b=some o->H b=none->b∉ex->H' b=none
  there:∀ b o,h.get? b=some o->b∉ex->∃ o',h'.get? b=some o'
  tups:∀ b xs,H b=some (.tup xs)->H' b=some (.tup xs)
  frzs:∀ b o u,H b=some (.frz o u)->H' b=some (.frz o u)
  tbls:∀ b ps,H b=some (.tbl ps)->∃ more,H' b=some (.tbl (ps++more))
section
variable {fs fs' ex ex':List Addr}{H H1 H2:Hp}{h h1 h2 h':Heap}{a x e:Addr}{o:HO}
def Un.any (u:Un fs ex H H1 h h1){b:Addr}{ob:Obj}(q:h.get? b=some ob)(n:H b=none)(hx:b∉ex):∃ sl,h1.get? b=some { ob with slots:=sl }:=by
  by_cases hb:b∈fs
  · exact u.slot b ob q n hb hx
  · exact #[ob.slots,u.keep b ob q n hb hx]
def Un.kept (k:∀ b u,h.get? b=some u->h'.get? b=some u):Un fs ex H H h h':=
  #[λb ob q _ _ _=>k b ob q,λb ob q _ _ _=>#[ob.slots,k b ob q],λ_ _ _ n _=>n,λb ob q _=>#[ob,k b ob q],λ_ _ q=>q,λ_ _ _ q=>q,λ_ ps q=>#[(List.toArray []),by rw[q];simp]]
def Un.refl:Un fs ex H H h h:=Un.kept λ_ _ q=>q
def Un.laid (k:∀ b u,h.get? b=some u->h'.get? b=some u)(hp:h.objs.size<=a)(hn:H a=none):Un fs ex H (upd H a o) h h' where
  keep:=λb u q _ _ _=>k b u q
  slot:=λb u q _ _ _=>#[u.slots,k b u q]
  free:=λb u q n _=>by rw[ak (bh (aO (aJ q) hp))];exact n
  there:=λb u q _=>#[u,k b u q]
  tups:=λb xs q=>by rw[ak (au q hn)];exact q
  frzs:=λb u xs q=>by rw[ak (au q hn)];exact q
  tbls:=λb ps q=>#[(List.toArray []),by rw[ak (au q hn),q];simp]
def Un.write (mu:Mut (H x))(he:e=x\/H e=some (.own x))(k:∀ b u,b≠e->h.get? b=some u->h'.get? b=some u)(heo:∃ u,h'.get? e=some u):Un fs ex H (upd H x o) h h':=by
  have hx:∀ b,H b=none->b≠x:=λb n z=>by subst z;rw[n]at mu;exact mu
  have hb:∀ b,H b=none->b≠e:=λb n z=>by
    subst z;rcases he with r|r
    · exact hx b n r
    · rw[n]at r;cases r
  have hm:∀ b u,H b=some u->¬ Mut (some u)->b≠x:=λb u q nm z=>by subst z;rw[q]at mu;exact nm mu
  refine #[λb u q n _ _=>k b u (hb b n) q,λb u q n _ _=>#[u.slots,k b u (hb b n) q],λb u q n _=>by rw[ak (hx b n)];exact n,λb u q _=>?_,
    λb xs q=>by rw[ak (hm b _ q λz=>z)];exact q,λb u xs q=>by rw[ak (hm b _ q λz=>z)];exact q,λb ps q=>#[(List.toArray []),by rw[ak (hm b _ q λz=>z),q];simp]]
  by_cases hbe:b=e
  · subst hbe;exact heo
  · exact #[u,k b u hbe q]
end
def trk (h:Heap)(H:Hp):List Addr:=(List.range h.objs.size).filter λa=>(H a).isSome
def hidT (h:Heap)(H:Hp):Heap:=W.hideAll h (trk h H)
def C4 (h:Heap)(H:Hp):(hidT h H).objs.size=h.objs.size:=W.hideAll_size _ _
def C5 {h:Heap}{H:Hp}{b:Addr}{o:Obj}(e:h.get? b=some o)(n:H b=none):(hidT h H).get? b=some o:=
  W.hideAll_get _ e λhm=>by
    have q:(H b).isSome=true:=(eD.mp hm).2;rw[n]at q;simp at q
def C6 {b:Addr}{o:Obj}(e:(hidT h H).get? b=some o):h.get? b=some o/\H b=none:=by
  have e':h.get? b=some o:=W.of_hideAll (trk h H) e;refine #[e',?_];cases q:H b with
  | none=>rfl
  | some x=>
    have hm:b∈trk h H:=eD.mpr #[dw.mpr (aJ e'),by simp[q]];have z:(hidT h H).get? b=none:=W.hideAll_none (trk h H) hm;rw[z]at e;cases e
def C7 (g h:Heap)(L:Addr):List (Addr×Obj):=(List.range h.objs.size).filterMap λa=>if a=L\/(g.get? a).isSome=true then none else (h.get? a).map λo=>(a,o)
def rest (g h:Heap)(L d:Addr):List (Addr×Obj):=(C7 g h L).filter λp=>decide (p.1≠d)
structure Mod (K:Frag)(mg:Str->Option Value)(base:Heap):Prop where
  kin:K.In base
  glob:base.Ns mainGlobals mg
  blt:∃ mb,base.Ns builtinsNs mb/\∀ x:Str,x ≠ "__name__"->mb x=bootBuiltins x
  nolimit:base.NoLimit
structure Cx where
  prog:Program
  w:World
  K:Frag
  mg:Str->Option Value
  base:Heap
  A:Around
  N:List Str
  s₀:Shared
  H₀:Hp
  env:Env
  outer:List Env
  stack:List Env
  ex:List Addr
  fn:Str->Bool
  calm:Bool
  pn:List (Addr×Obj)
  xe:Value->Shared->Prop
def frs (l:List Env):List Addr:=l.filterMap (·.frame)
abbrev Cx.fs (X:Cx):List Addr:=frs X.outer
def Vis (sc:Scope)(x:Str):Prop:=sc.names.lookup x=some .local\/sc.names.lookup x=some .cell\/sc.names.lookup x=some .free
def Loc (sc:Scope)(x:Str):Prop:=sc.names.lookup x=some .local\/sc.names.lookup x=some .cell
def Look (env:Env)(h:Heap)(m:Str->Option Value)(x:Str)(u:Value):Prop:=
  (env.kindOf x=some .local/\m x=some u)\/((env.kindOf x=some .cell\/env.kindOf x=some .free)/\∃ c,env.cells.lookup x=some c/\h.IsCell c (some u))
structure Cx.Ok (X:Cx):Prop where
  mod:Mod X.K X.mg X.base
  kind:X.env.scope.kind=.function
  glob:X.env.globals=mainGlobals
  blt:X.env.builtins=builtinsNs
  above:X.s₀.heap.objs.size<=X.env.locals
  inj:∀ x y c,X.env.cells.lookup x=some c->X.env.cells.lookup y=some c->x=y
  has:∀ x,(X.env.kindOf x=some .cell\/X.env.kindOf x=some .free)->∃ c,X.env.cells.lookup x=some c
  cab:∀ x c,X.fn x=true->X.env.cells.lookup x=some c->X.s₀.heap.objs.size<=c
  hd:X.calm=true->X.A.handled=none
  frames:X.A.frames=some X.stack
  stk:X.stack=X.outer\/(X.stack=X.env::X.outer/\X.env.frame=some X.env.locals)
  exf:∀ b∈X.ex,b≠X.env.locals/\∀ x c,X.env.cells.lookup x=some c->c≠b
  bs:∀ b o,X.base.get? b=some o->X.s₀.heap.get? b=some o/\X.H₀ b=none
  bsz:X.base.objs.size<=X.s₀.heap.objs.size
  noex:∀ b o,X.base.get? b=some o->b∉X.ex
  exfs:∀ b∈X.ex,b∉X.fs
  funs:X.s₀.heap.FunFrames X.base X.outer
  frf:∀ b∈X.fs,X.H₀ b=none
structure Inv (X:Cx)(LI:List (Addr×Obj))(U:List (Option V))(H:Hp)(s:Shared):Prop where
  ok:X.Ok
  os:s.os=X.s₀.os
  bare:AllBare s.gens
  base:Un X.fs X.ex X.H₀ H X.s₀.heap s.heap
  loc:∃ m,s.heap.Ns X.env.locals m/\∀(i:Nat) (x:Str) (v:V),X.N[i]?=some x->U[i]?=some (some v)->Vis X.env.scope x->∃ u,RelV v u/\Look X.env s.heap m x u
  cell:∀ x c,X.env.cells.lookup x=some c->∃ v,s.heap.IsCell c v
  free:H X.env.locals=none
  freeC:∀ x c,X.env.cells.lookup x=some c->H c=none
  pin:∀ p∈X.pn++LI,s.heap.get? p.1=some p.2/\H p.1=none/\p.1≠X.env.locals/\p.1∉X.fs/\∀ v,p.2.data≠.cell v
  hok:HOk X.prog X.w H s.heap
  len:U.length=X.N.length
section
variable {X:Cx}{LI:List (Addr×Obj)}{U:List (Option V)}{H H':Hp}{s:Shared}{h':Heap}
def Cx.Ok.nofr (ok:X.Ok){b:Addr}{o:Obj}(e:X.base.get? b=some o):b∉X.fs:=λhb=>by
  have:=(ok.funs.mem hb).1;rw[e]at this;cases this
def Inv.bs (I:Inv X LI U H s):∀ b o,X.base.get? b=some o->s.heap.get? b=some o/\H b=none:=λb o e=>
  #[I.base.keep b o (I.ok.bs b o e).1 (I.ok.bs b o e).2 (I.ok.nofr e) (I.ok.noex b o e),I.base.free b o (I.ok.bs b o e).1 (I.ok.bs b o e).2 (I.ok.noex b o e)]
def Inv.bk (I:Inv X LI U H s):∀ b o,X.base.get? b=some o->s.heap.get? b=some o:=λb o e=>(I.bs b o e).1
def Inv.mod (I:Inv X LI U H s):Mod X.K X.mg X.base:=I.ok.mod
def Inv.kIn (I:Inv X LI U H s):X.K.In s.heap:=I.ok.mod.kin.keeps I.bk
def Inv.lt (I:Inv X LI U H s):X.env.locals<s.heap.objs.size:=let ⟨_,hn,_⟩:=I.loc;hn.lt
def Inv.sz (I:Inv X LI U H s):X.s₀.heap.objs.size<=s.heap.objs.size:=az I.ok.above (bf I.lt)
def Inv.nofs (I:Inv X LI U H s){a:Addr}(h:s.heap.objs.size<=a):a∉X.fs:=λhb=>by
  obtain ⟨_,o,ho,_⟩:=I.ok.funs.mem hb;exact absurd (aO (aJ ho) (az I.sz h)) (dv _)
def Inv.cne (I:Inv X LI U H s):∀ x c,X.env.cells.lookup x=some c->c≠X.env.locals:=λx c e z=>by
  obtain ⟨v,o,ho,hd⟩:=I.cell x c e;obtain ⟨m,⟨o',es,ep,ho',hd',_⟩,_⟩:=I.loc;rw[z,ho']at ho;cases ho;rw[hd']at hd;cases hd
def Inv.funs (I:Inv X LI U H s):s.heap.FunFrames X.base X.outer:=by
  have all:∀(l:List Env),(∀ b∈frs l,b∈X.fs)->X.s₀.heap.FunFrames X.base l->s.heap.FunFrames X.base l:=by
    intro l
    induction l with
    | nil=>intro _ _;trivial
    | cons env r ih=>
      intro hs hl;obtain ⟨hk,⟨L,o,hf,hn,ho,hd⟩,hr⟩:=hl;have hL:L∈X.fs:=hs L (by unfold frs;rw[kI,hf];exact bu);obtain ⟨sl,e⟩:=I.base.slot L o ho (I.ok.frf L hL) hL λz=>I.ok.exfs L z hL;exact #[hk,#[L,_,hf,hn,e,hd],ih (λb hb=>hs b (by unfold frs;rw[kI,hf];exact bE _ hb)) hr]
  exact all X.outer (λ_ hb=>hb) I.ok.funs
def Inv.stack (I:Inv X LI U H s):s.heap.FunFrames X.base X.stack:=by
  rcases I.ok.stk with e|⟨e,hf⟩
  · rw[e];exact I.funs
  · rw[e]
    obtain ⟨m,hn,_⟩:=I.loc;refine .cons (by rw[I.ok.kind];decide) hf hn ?_ I.funs;exact Heap.get?_none_of_le (az I.ok.bsz I.ok.above)
def Inv.stkSub (I:Inv X LI U H s):∀ b∈frs X.stack,b∈X.env.locals::X.fs:=λb hb=>by
  rcases I.ok.stk with e|⟨e,hf⟩
  · rw[e]at hb;exact bE _ hb
  · rw[e]at hb
    unfold frs at hb;rw[kI,hf]at hb;exact hb
def Inv.stkFree (I:Inv X LI U H s):∀ b∈frs X.stack,H b=none:=λb hb=>by
  rcases aX.mp (I.stkSub b hb) with e|hb
  · rw[e];exact I.free
  · obtain ⟨_,o,ho,_⟩:=I.ok.funs.mem hb
    exact I.base.free b o ho (I.ok.frf b hb) λz=>I.ok.exfs b z hb
def Inv.step {g':Array GenState}{t':Nat}{d':Drawn}{ch:List Addr}(I:Inv X LI U H s)
    (hch:∀ b∈ch,(b∈X.ex\/X.s₀.heap.objs.size<=b)/\b≠X.env.locals/\(∀ x c,X.env.cells.lookup x=some c->c≠b)/\∀ p∈X.pn++LI,p.1≠b)
    (keep:∀ b o,b≠X.env.locals->b∉X.fs->b∉ch->s.heap.get? b=some o->H b=none->h'.get? b=some o)
    (slot:∀ b o,b≠X.env.locals->b∈X.fs->b∉ch->s.heap.get? b=some o->H b=none->∃ sl,h'.get? b=some { o with slots:=sl }) (free:∀ b o,b∉ch->s.heap.get? b=some o->H b=none->H' b=none)
    (there:∀ b o,b∉ch->s.heap.get? b=some o->∃ o',h'.get? b=some o')
    (tups:∀ b xs,H b=some (.tup xs)->H' b=some (.tup xs)) (frzs:∀ b o u,H b=some (.frz o u)->H' b=some (.frz o u)) (tbls:∀ b ps,H b=some (.tbl ps)->∃ more,H' b=some (.tbl (ps++more)))
    (ns:∀ m,s.heap.Ns X.env.locals m->h'.Ns X.env.locals m) (hok:HOk X.prog X.w H' h') (hg:AllBare g') :
    Inv X LI U H' { s with heap:=h',gens:=g',drawn:=d',toks:=t' }:=by
  have neL:∀ b o,X.s₀.heap.get? b=some o->b≠X.env.locals:=λb o e=>bh (aO (aJ e) I.ok.above);have neC:∀ b o,X.s₀.heap.get? b=some o->b∉X.ex->b∉ch:=λb o e hx hb=>by
    rcases (hch b hb).1 with z|z
    · exact hx z
    · exact absurd (aO (aJ e) z) (dv _)
  have cellK:∀ x c,X.env.cells.lookup x=some c->∀ v,s.heap.IsCell c v->h'.IsCell c v:=λx c e v ⟨o,ho,hd⟩=>by
    have nch:c∉ch:=λz=>(hch c z).2.2.1 x c e rfl;by_cases hc:c∈X.fs
    · obtain ⟨sl,q⟩:=slot c o (I.cne x c e) hc nch ho (I.freeC x c e)
      exact #[_,q,hd]
    · exact #[o,keep c o (I.cne x c e) hc nch ho (I.freeC x c e),hd]
  refine #[I.ok,I.os,hg,#[λb o e n hb hx=>?_,λb o e n hb hx=>?_,λb o e n hx=>?_,λb o e hx=>?_,λb xs e=>tups b xs (I.base.tups b xs e),λb o xs e=>frzs b o xs (I.base.frzs b o xs e),λb ps e=>?_],?_,λx c e=>?_,?_,λx c e=>?_,λp hp=>?_,hok,I.len]
  · exact keep b o (neL b o e) hb (neC b o e hx) (I.base.keep b o e n hb hx) (I.base.free b o e n hx)
  · obtain ⟨sl,e1⟩:=I.base.slot b o e n hb hx
    obtain ⟨sl',e2⟩:=slot b _ (neL b o e) hb (neC b o e hx) e1 (I.base.free b o e n hx);exact #[sl',e2]
  · obtain ⟨o',e1⟩:=I.base.there b o e hx
    exact free b o' (neC b o e hx) e1 (I.base.free b o e n hx)
  · obtain ⟨o',e1⟩:=I.base.there b o e hx
    exact there b o' (neC b o e hx) e1
  · obtain ⟨m1,e1⟩:=I.base.tbls b ps e
    obtain ⟨m2,e2⟩:=tbls b _ e1;exact #[m1++m2,by rw[e2,Array.append_assoc]]
  · obtain ⟨m,hn,hl⟩:=I.loc
    refine #[m,ns m hn,λi x v e1 e2 e3=>?_];obtain ⟨u,r,l⟩:=hl i x v e1 e2 e3;refine #[u,r,?_];rcases l with l|⟨k,c,e,z⟩
    · exact .inl l
    · exact .inr #[k,c,e,cellK x c e _ z]
  · obtain ⟨v,z⟩:=I.cell x c e
    exact #[v,cellK x c e v z]
  · obtain ⟨m,⟨o,_,_,ho,_⟩,_⟩:=I.loc
    exact free _ o (λz=>(hch _ z).2.1 rfl) ho I.free
  · obtain ⟨v,o,ho,hd⟩:=I.cell x c e
    exact free c o (λz=>(hch c z).2.2.1 x c e rfl) ho (I.freeC x c e)
  · obtain ⟨e,n,ne,nf,d⟩:=I.pin p hp
    have nch:p.1∉ch:=λz=>(hch p.1 z).2.2.2 p hp rfl;exact #[keep p.1 p.2 ne nf nch e n,free p.1 p.2 nch e n,ne,nf,d]
def Inv.un {t':Nat}(I:Inv X LI U H s)(u:Un X.fs [] H H' s.heap h')(hok:HOk X.prog X.w H' h'):Inv X LI U H' { s with heap:=h',toks:=t' }:=by
  obtain ⟨m,⟨o,es,ep,ho,r⟩,_⟩:=id I.loc;obtain ⟨sl,hL⟩:=u.any ho I.free (by simp);exact I.step (g':=s.gens) (d':=s.drawn) (ch:=[]) (λ_ z=>nomatch z) (λb o _ hb _ e n=>u.keep b o e n hb (by simp)) (λb o _ hb _ e n=>u.slot b o e n hb (by simp)) (λb o _ e n=>u.free b o e n (by simp)) (λb o _ e=>u.there b o e (by simp)) u.tups u.frzs u.tbls (λm' hm=>by
    obtain ⟨o',es',ep',ho',r'⟩:=hm;rw[ho]at ho';cases ho'
    exact #[_,es',ep',hL,r']) hok I.bare
def Inv.call {g':Array GenState}{t':Nat}{d':Drawn}{ch:List Addr}(I:Inv X LI U H s)(u:Un (frs X.stack) ch H H' s.heap h')(hok:HOk X.prog X.w H' h')(hg:AllBare g')
    (hch:∀ b∈ch,(b∈X.ex\/X.s₀.heap.objs.size<=b)/\b≠X.env.locals/\(∀ x c,X.env.cells.lookup x=some c->c≠b)/\∀ p∈X.pn++LI,p.1≠b) :
    Inv X LI U H' { s with heap:=h',gens:=g',drawn:=d',toks:=t' }:=by
  obtain ⟨m,⟨o,es,ep,ho,r⟩,_⟩:=id I.loc;obtain ⟨sl,hL⟩:=u.any ho I.free λz=>(hch _ z).2.1 rfl;exact I.step (ch:=ch) hch (λb o hL hb hc e n=>u.keep b o e n (λz=>(aX.mp (I.stkSub b z)).elim hL hb) hc) (λb o _ _ hc e n=>u.any e n hc) (λb o hc e n=>u.free b o e n hc) (λb o hc e=>u.there b o e hc) u.tups u.frzs u.tbls (λm' hm=>by
    obtain ⟨o',es',ep',ho',r'⟩:=hm;rw[ho]at ho';cases ho'
    exact #[_,es',ep',hL,r']) hok hg
def Inv.turned {t':Nat}{it:Addr}(I:Inv X LI U H s)(k:∀ b o,b≠it->s.heap.get? b=some o->h'.get? b=some o)(hn:H it=none)(hL:it≠X.env.locals)
    (h1:it∈X.ex\/X.s₀.heap.objs.size<=it) (h2:∀ x c,X.env.cells.lookup x=some c->c≠it) (h3:∀ p∈X.pn++LI,p.1≠it):Inv X LI U H { s with heap:=h',toks:=t' }:=by
  have nit:∀ b u,H b=some u->b≠it:=λb u e z=>by rw[z,hn]at e;cases e
  refine I.step (g':=s.gens) (d':=s.drawn) (ch:=[it]) (λb hb=>?_) (λb o _ _ hc e _=>k b o (λz=>hc (by simp[z])) e) (λb o _ _ hc e _=>#[o.slots,k b o (λz=>hc (by simp[z])) e]) (λ_ _ _ _ n=>n)
    (λb o hc e=>#[o,k b o (λz=>hc (by simp[z])) e]) (λ_ _ e=>e) (λ_ _ _ e=>e) (λb ps e=>#[(List.toArray []),by rw[e];simp]) (λm hm=>?_) (λb u e=>?_) I.bare
  · have e:b=it:=by simpa using hb
    subst e;exact #[h1,hL,h2,h3]
  · obtain ⟨o,es,ep,ho,r⟩:=hm
    exact #[o,es,ep,k _ o (aT hL) ho,r]
  · refine (I.hok b u e).stay (λc v hc q=>k c v ?_ q) (λ_ q=>q) λ_ _ q=>q
    rcases hc with z|z
    · rw[z];exact nit b u e
    · exact nit c _ z
def Inv.tok (I:Inv X LI U H s)(t:Nat):Inv X LI U H { s with toks:=t }:=I.un (h':=s.heap) (t':=t) Un.refl I.hok
def Inv.kept {t':Nat}(I:Inv X LI U H s)(k:∀ b u,s.heap.get? b=some u->h'.get? b=some u):Inv X LI U H { s with heap:=h',toks:=t' }:=I.un (Un.kept k) (I.hok.kept k)
def Inv.laid {a:Addr}{t':Nat}(I:Inv X LI U H s)(k:∀ b u,s.heap.get? b=some u->h'.get? b=some u)(hp:s.heap.objs.size<=a)(new:bB X.prog X.w (upd H a o) h' a o) :
    Inv X LI U (upd H a o) { s with heap:=h',toks:=t' }:=I.un (Un.laid k hp (I.hok.fresh hp)) (I.hok.laid k hp new)
def Inv.write {x e:Addr}{t':Nat}(I:Inv X LI U H s)(mu:Mut (H x))(he:e=x\/H e=some (.own x))(k:∀ b u,b≠e->s.heap.get? b=some u->h'.get? b=some u)(heo:∃ u,h'.get? e=some u)
    (new:bB X.prog X.w (upd H x o) h' x o):Inv X LI U (upd H x o) { s with heap:=h',toks:=t' }:=I.un (Un.write mu he k heo) (I.hok.write mu he k heo new)
def Inv.pins_of {pins':List (Addr×Obj)}(I:Inv X LI U H s)(h:∀ p∈pins',s.heap.get? p.1=some p.2/\H p.1=none/\p.1≠X.env.locals/\p.1∉X.fs/\∀ v,p.2.data≠.cell v):Inv X pins' U H s:=
  #[I.ok,I.os,I.bare,I.base,I.loc,I.cell,I.free,I.freeC,λp hp=>(bj.mp hp).elim (λz=>I.pin p (eE _ z)) (h p),I.hok,I.len]
def xF {N:List Str}(hN:N.Nodup){i j:Nat}{x:Str}(a:N[i]?=some x)(b:N[j]?=some x):i=j:=by
  obtain ⟨h1,e1⟩:=aN.mp a;obtain ⟨h2,e2⟩:=aN.mp b;exact (List.getElem_inj hN).mp (e1.trans e2.symm)
def sR {M:Model}{A:Around}{E:Value->Shared->Prop}{i:Nat}{x:Str}{v:V}{u:Value}{Q:Unit->Shared->Prop}(I:Inv X LI U H s)(hN:X.N.Nodup)(hi:X.N[i]?=some x)(hx:Loc X.env.scope x)(r:RelV v u)
    (h:∀ s',Inv X LI (U.set i (some v)) H s'->(∃ a,Heap.SameBut a s.heap s'.heap/\(a=X.env.locals\/X.env.cells.lookup x=some a))->Q () s') (hf:X.fn x=true\/X.env.scope.names.lookup x=some .local:=by first|exact .inl rfl|exact .inr rfl|assumption):wpAny M A (storeName X.env x u) Q E s:=by
  obtain ⟨m,hn,hl⟩:=id I.loc;have hcls:(X.env.scope.kind == .class||(X.env.scope.kind == .module&&X.env.locals != X.env.globals))=false:=by rw[I.ok.kind];rfl
  have hiσ:i<U.length:=by rw[I.len];exact (aN.mp hi).1
  have cne:=I.cne;have tracked:∀{a:Addr} {h':Heap},(∃ o,s.heap.get? a=some o/\H a=none)->Heap.SameBut a s.heap h'->HOk X.prog X.w H h':=λ{a h'} ha hs b ob e=>by
    obtain ⟨_,_,hfree⟩:=ha;refine (I.hok b ob e).stay (λc w' hc q=>(hs.2 c ?_).trans q) (λ_ q=>q) λ_ _ q=>q;rintro rfl;rcases hc with rfl|hc
    · rw[hfree]at e;cases e
    · rw[hfree]at hc;cases hc
  rcases hx with hk|hk
  · refine wpAny_storeName_local hk hn (λh' hn' hs=>?_) hcls
    obtain ⟨oL,_,_,hoL,_⟩:=id hn;refine h _ #[I.ok,I.os,I.bare,#[λb o e n hb hx=>?_,λb o e n hb hx=>?_,I.base.free,λb o e hx=>?_,I.base.tups,I.base.frzs,I.base.tbls],#[_,hn',λj y v' e1 e2 e3=>?_],λy c e=>?_,I.free,I.freeC,λp hp=>?_,tracked #[oL,hoL,I.free] hs,by simpa using I.len] #[_,hs,.inl rfl]
    · exact (hs.2 b (bh (aO (aJ e) I.ok.above))).trans (I.base.keep b o e n hb hx)
    · obtain ⟨sl,e1⟩:=I.base.slot b o e n hb hx
      exact #[sl,(hs.2 b (bh (aO (aJ e) I.ok.above))).trans e1]
    · obtain ⟨o',e1⟩:=I.base.there b o e hx
      exact #[o',(hs.2 b (bh (aO (aJ e) I.ok.above))).trans e1]
    · by_cases hj:j=i
      · subst hj
        rw[hi]at e1;cases e1
        rw[List.getElem?_set_self hiσ]at e2;cases e2
        exact #[u,r,.inl #[hk,by simp]]
      · rw[List.getElem?_set_ne (aT hj)]at e2
        obtain ⟨u',r',q⟩:=hl j y v' e1 e2 e3;refine #[u',r',?_];rcases q with ⟨k,e⟩|⟨k,c,e,z⟩
        · refine .inl #[k,?_]
          have:y≠x:=λe=>hj (xF hN e1 (e ▸ hi));simp[this,e]
        · exact .inr #[k,c,e,z.sameBut hs (cne y c e)]
    · obtain ⟨w',z⟩:=I.cell y c e
      exact #[w',z.sameBut hs (cne y c e)]
    · obtain ⟨e,n,ne,nf,d⟩:=I.pin p hp
      exact #[(hs.2 p.1 ne).trans e,n,ne,nf,d]
  · have hfn:X.fn x=true:=by
      rcases hf with z|z
      · exact z
      · rw[z]at hk;cases hk
    obtain ⟨c,hc⟩:=I.ok.has x (.inl hk);obtain ⟨w',z⟩:=I.cell x c hc;refine wpAny_storeName_cell I.ok.kind hk hc z (λh' hc' hs=>?_);obtain ⟨oc,hoc,hocd⟩:=id z;refine h { s with heap:=h' } #[I.ok,I.os,I.bare,#[λb o e n hb hx=>?_,λb o e n hb hx=>?_,I.base.free,λb o e hx=>?_,I.base.tups,I.base.frzs,I.base.tbls],#[m,hn.sameBut hs (aT (cne x c hc)),λj y v' e1 e2 e3=>?_],λy c' e=>?_,I.free,I.freeC,λp hp=>?_,tracked #[oc,hoc,I.freeC x c hc] hs,by simpa using I.len] #[c,hs,.inr hc]
    · exact (hs.2 b (bh (aO (aJ e) (I.ok.cab x c hfn hc)))).trans (I.base.keep b o e n hb hx)
    · obtain ⟨sl,e1⟩:=I.base.slot b o e n hb hx
      exact #[sl,(hs.2 b (bh (aO (aJ e) (I.ok.cab x c hfn hc)))).trans e1]
    · obtain ⟨o',e1⟩:=I.base.there b o e hx
      exact #[o',(hs.2 b (bh (aO (aJ e) (I.ok.cab x c hfn hc)))).trans e1]
    · by_cases hj:j=i
      · subst hj
        rw[hi]at e1;cases e1
        rw[List.getElem?_set_self hiσ]at e2;cases e2
        exact #[u,r,.inr #[.inl hk,c,hc,hc']]
      · rw[List.getElem?_set_ne (aT hj)]at e2
        obtain ⟨u',r',q⟩:=hl j y v' e1 e2 e3;refine #[u',r',?_];rcases q with q|⟨k,c',e,z'⟩
        · exact .inl q
        · refine .inr #[k,c',e,z'.sameBut hs ?_]
          rintro rfl;exact hj (xF hN e1 (I.ok.inj _ _ _ e hc ▸ hi))
    · by_cases hcc:c'=c
      · subst hcc;exact #[_,hc']
      · obtain ⟨w2,z2⟩:=I.cell y c' e
        exact #[w2,z2.sameBut hs hcc]
    · obtain ⟨e,n,ne,nf,d⟩:=I.pin p hp
      refine #[(hs.2 p.1 ?_).trans e,n,ne,nf,d];intro q;rw[q,hoc]at e;have q':oc=p.2:=aK e;exact d w' (by rw[<-q'];exact hocd)
def nG {M:Model}{A:Around}{E:Value->Shared->Prop}{i:Nat}{x:Str}{v:V}{u:Value}{Q:Unit->Shared->Prop}(I:Inv X LI U H s)(hN:X.N.Nodup)(hi:X.N[i]?=some x)(hx:Loc X.env.scope x)(r:RelV v u)
    (h:∀ s',Inv X LI (U.set i (some v)) H s'->Q () s') (hf:X.fn x=true\/X.env.scope.names.lookup x=some .local:=by first|exact .inl rfl|exact .inr rfl|assumption):wpAny M A (storeName X.env x u) Q E s:=
  sR I hN hi hx r (λs' I' _=>h s' I') hf
def Inv.call' {s':Shared}{ch:List Addr}(I:Inv X LI U H s)(ho:s'.os=s.os)(u:Un (frs X.stack) ch H H' s.heap s'.heap)(hok:HOk X.prog X.w H' s'.heap)(hg:AllBare s'.gens)
    (hch:∀ b∈ch,(b∈X.ex\/X.s₀.heap.objs.size<=b)/\b≠X.env.locals/\(∀ x c,X.env.cells.lookup x=some c->c≠b)/\∀ p∈X.pn++LI,p.1≠b):Inv X LI U H' s':=by
  obtain ⟨h',g',d',t',o'⟩:=s';have e:o'=s.os:=ho;subst e;exact I.call (g':=g') (t':=t') (d':=d') u hok hg hch
end
abbrev XK:=Value->Option Addr->Hp->Prop
abbrev St:=List (Option V)
abbrev VK:=V->Hp->Prop
abbrev TE:=St->Hp->VK->Prop
abbrev TT:=St->Hp->(Bool->Hp->Prop)->Prop
abbrev TA:=St->Hp->(List V->Hp->Prop)->Prop
structure Ends where
  nx:St->Hp->Prop
  rt:VK
  bk:St->Hp->Prop:=λ_ _=>False
  ct:St->Hp->Prop:=λ_ _=>False
abbrev TS:=Ends->St->Hp->Prop
inductive EP (X:Cx)(LI:List (Addr×Obj))(U:St)(Q:VK)(u:Value)(s':Shared):Prop
  | c:∀ v H',Inv X LI U H' s'->RelV v u->Q v H'->EP X LI U Q u s'
def TP (X:Cx)(LI:List (Addr×Obj))(U:St)(Q:Bool->Hp->Prop)(b:Bool)(s':Shared):Prop:=∃ H',Inv X LI U H' s'/\Q b H'
inductive AP (X:Cx)(LI:List (Addr×Obj))(U:St)(Q:List V->Hp->Prop)(us:List Value)(s':Shared):Prop
  | c:∀ vs H',Inv X LI U H' s'->Vals vs us->Q vs H'->AP X LI U Q us s'
def SP (X:Cx)(LI:List (Addr×Obj))(D:Ends)(f:Flow)(s':Shared):Prop:=
  match f with
  | .next=>∃ U' H',Inv X LI U' H' s'/\D.nx U' H'
  | .brk=>∃ U' H',Inv X LI U' H' s'/\D.bk U' H'
  | .cont=>∃ U' H',Inv X LI U' H' s'/\D.ct U' H'
  | .ret u=>∃ v U' H',Inv X LI U' H' s'/\RelV v u/\D.rt v H'
def PE (X:Cx)(e:Expr)(t:TE):Prop:=
  ∀(LI:List (Addr×Obj)) (s:Shared) (U:St) (H:Hp) (Q:VK),Inv X LI U H s->t U H Q->wpAny (model X.prog X.w) X.A (eval e X.env) (EP X LI U Q) X.xe s
def PT (X:Cx)(e:Expr)(t:TT):Prop:=
  ∀(LI:List (Addr×Obj)) (s:Shared) (U:St) (H:Hp) (Q:Bool->Hp->Prop),Inv X LI U H s->t U H Q->wpAny (model X.prog X.w) X.A (isTrue e X.env (eval e X.env)) (TP X LI U Q) X.xe s
def PW (X:Cx)(e:Expr)(t:TT):Prop:=
  ∀(whole:Sem Value) (LI:List (Addr×Obj)) (s:Shared) (U:St) (H:Hp) (Q:Bool->Hp->Prop),Inv X LI U H s->t U H Q->wpAny (model X.prog X.w) X.A (isTrue e X.env whole) (TP X LI U Q) X.xe s
def PW.pt {t:TT}(h:PW X e t):PT X e t:=h _
def PA (X:Cx)(es:List Expr)(t:TA):Prop:=
  ∀(pos:Pos) (LI:List (Addr×Obj)) (s:Shared) (U:St) (H:Hp) (Q:List V->Hp->Prop),Inv X LI U H s->t U H Q->wpAny (model X.prog X.w) X.A (spliced (backTo pos (starEach es X.env))) (AP X LI U Q) X.xe s
def PS (X:Cx)(st:Stmt)(t:TS):Prop:=
  ∀(LI:List (Addr×Obj)) (s:Shared) (U:St) (H:Hp) (D:Ends),Inv X LI U H s->t D U H->wpAny (model X.prog X.w) X.A (exec st X.env) (SP X LI D) X.xe s
def PSs (X:Cx)(st:List Stmt)(t:TS):Prop:=
  ∀(LI:List (Addr×Obj)) (s:Shared) (U:St) (H:Hp) (D:Ends),Inv X LI U H s->t D U H->wpAny (model X.prog X.w) X.A (execs st X.env) (SP X LI D) X.xe s
def thn {α:Type}{t:Sem α}{Q Q':α->Shared->Prop}{M:Model}{A:Around}{E:Value->Shared->Prop}{s:Shared}(h:wpAny M A t Q E s)(hQ:∀ a s,Q a s->Q' a s):wpAny M A t Q' E s:=dM h hQ λ_ _ x=>x
section
variable {X:Cx}
inductive tVar (i:Nat)(U:St)(H:Hp)(Q:VK):Prop
  | c:∀ v,U[i]?=some (some v)->Q v H->tVar i U H Q
def tC (v:V):TE:=λ_ H Q=>Q v H
def C8 {i:Nat}{x:Str}{pos:Pos}(hN:X.N[i]?=some x)(hv:Vis X.env.scope x)(hd:(x==("__debug__" : Str))=false:=by decide)(hcd:(x==("__classdict__" : Str))=false:=by decide):PE X (.Name x pos) (tVar i):=by
  intro LI s U H Q I h;obtain ⟨v,e,h⟩:=h;obtain ⟨m,hn,hl⟩:=I.loc;obtain ⟨u,r,l⟩:=hl i x v hN e hv;have fin:EP X LI U Q u s:=#[v,H,I,r,h];rcases l with ⟨hk,hm⟩|⟨hk,c,hc,hcell⟩
  · exact wpAny_Name (wpAny_loadName_local I.ok.kind hk hn hm fin) hd
  · rcases hk with hk|hk
    · exact wpAny_Name (wpAny_loadName_cell I.ok.kind hk hc hcell fin) hd
    · exact wpAny_Name (wpAny_loadName_free I.ok.kind hk hc hcell fin hcd) hd
def ah {i j pos}:PE X (.Constant (.int i) j pos) (tC (.int i)):=λ_ _ _ H _ I h=>wpAny_Constant_int #[.int i,H,I.tok _,#[_,rfl],h]
def dC {b j pos}:PE X (.Constant (.bool b) j pos) (tC (.bl b)):=λ_ _ _ H _ I h=>Constant_bool #[.bl b,H,I,rfl,h]
def C9 {j pos}:PE X (.Constant .none j pos) (tC .non):=λ_ _ _ H _ I h=>Constant_none #[.non,H,I,rfl,h]
def fQ {x j pos}:PE X (.Constant (.str x) j pos) (tC (.str x)):=λ_ _ _ H _ I h=>Calls.Constant_str #[.str x,H,I.tok _,#[_,rfl],h]
def Gl (X:Cx)(x:Str):Prop:=X.env.kindOf x=some .globalImplicit
def nH {E:Value->Shared->Prop}{u:Value}{pos:Pos}{Q:Value->Shared->Prop}(I:Inv X LI U H s)(hg:Gl X x)(hm:X.mg x=some u)(h:Q u s)
    (hd:(x==("__debug__" : Str))=false:=by decide):wpAny (model X.prog X.w) X.A (eval (.Name x pos) X.env) Q E s:=
  Calls.Name_function_global I.ok.kind hg (Calls.loadGlobal_global (by rw[I.ok.glob];exact I.mod.glob.keeps I.bk) hm h) hd
def gI {E:Value->Shared->Prop}{u:Value}{pos:Pos}{Q:Value->Shared->Prop}(I:Inv X LI U H s)(hg:Gl X x)(hm:X.mg x=none)(hv:bootBuiltins x=some u)(h:Q u s)
    (hn:x ≠ "__name__":=by decide) (hd:(x==("__debug__" : Str))=false:=by decide):wpAny (model X.prog X.w) X.A (eval (.Name x pos) X.env) Q E s:=by
  obtain ⟨mb,h1,h2⟩:=I.mod.blt;exact Calls.Name_function_global I.ok.kind hg (Calls.loadGlobal_builtin (by rw[I.ok.glob];exact I.mod.glob.keeps I.bk) hm (by rw[I.ok.blt];exact h1.keeps I.bk) ((h2 x hn).trans hv) h) hd
def Da {v:V}{u:Value}{pos:Pos}(hg:Gl X x)(hm:X.mg x=some u)(r:RelV v u)(hd:(x==("__debug__" : Str))=false:=by decide):PE X (.Name x pos) (tC v):=
  λ_ _ _ H _ I h=>nH I hg hm #[v,H,I,r,h] hd
def nI {v:V}{u:Value}{pos:Pos}(hg:Gl X x)(hm:X.mg x=none)(hv:bootBuiltins x=some u)(r:RelV v u)(hn:x ≠ "__name__":=by decide)(hd:(x==("__debug__" : Str))=false:=by decide):PE X (.Name x pos) (tC v):=
  λ_ _ _ H _ I h=>gI I hg hm hv #[v,H,I,r,h] hn hd
variable {a b:Expr}{ta tb:TE}{pos:Pos}
inductive GtB (Q:Bool->Hp->Prop)(x:V)(H1:Hp):Prop
  | c:∀ c,x=.bl c->Q c H1->GtB Q x H1
def tB (t:TE):TT:=λU H Q=>t U H λx H1=>GtB Q x H1
def ig {t:TE}(h:PE X e t)(he:∀ whole,isTrue e X.env whole=(do let v <-whole;standAt e.pos;holding [v] (truthy v)):=by intro _;rfl):PT X e (tB t):=by
  intro LI s U H Q I hw;refine isTrue_plain (thn (h LI s U H _ I hw) λv s1 zq0=>?_) (he _);obtain ⟨x,H1,I1,r1,q1⟩:=zq0;obtain ⟨d,rfl,q⟩:=q1;cases r1
  exact wpAny_truthy_bool #[H1,I1,q]
variable {tA tB':TT}{rest:List Expr}
def tAnd (t u:TT):TT:=λU H Q=>t U H λc H1=>if c=true then u U H1 Q else Q false H1
def tOr (t u:TT):TT:=λU H Q=>t U H λc H1=>if c=true then Q true H1 else u U H1 Q
def tNot (t:TT):TT:=λU H Q=>t U H λc H1=>Q (!c) H1
def iQ (ha:PT X a tA):PW X (.BoolOp .And [a] pos) tA:=by
  intro wh LI s U H Q I h;refine isTrue_and (thn (ha LI s U H Q I h) λc s1 e=>?_);cases c with
  | true=>exact isTrue_and_nil e
  | false=>exact e
def nJ (ha:PT X a tA):PW X (.BoolOp .Or [a] pos) tA:=by
  intro wh LI s U H Q I h;refine isTrue_or (thn (ha LI s U H Q I h) λc s1 e=>?_);cases c with
  | false=>exact isTrue_or_nil e
  | true=>exact e
def iR (ha:PT X a tA)(hb:PW X (.BoolOp .And (b::rest) pos) tB'):PW X (.BoolOp .And (a::b::rest) pos) (tAnd tA tB'):=by
  intro wh LI s U H Q I h;refine isTrue_and (thn (ha LI s U H _ I h) λc s1 zq0=>?_);obtain ⟨H1,I1,q1⟩:=zq0;cases c with
  | true=>exact hb wh LI s1 U H1 Q I1 q1
  | false=>exact #[H1,I1,q1]
def jC (ha:PT X a tA)(hb:PW X (.BoolOp .Or (b::rest) pos) tB'):PW X (.BoolOp .Or (a::b::rest) pos) (tOr tA tB'):=by
  intro wh LI s U H Q I h;refine isTrue_or (thn (ha LI s U H _ I h) λc s1 zq0=>?_);obtain ⟨H1,I1,q1⟩:=zq0;cases c with
  | true=>exact #[H1,I1,q1]
  | false=>exact hb wh LI s1 U H1 Q I1 q1
def lq (ha:PT X a tA):PT X (.UnaryOp .Not a pos) (tNot tA):=by
  intro LI s U H Q I h;exact isTrue_not (ha LI s U H (λc H1=>Q (!c) H1) I h)
inductive xG (tb:TE)(U:St)(Q:VK)(x:V)(H1:Hp):Prop
  | c:∀ c,x=.bl c->(if c=true then tb U H1 Q else Q (.bl false) H1)->xG tb U Q x H1
def Dc (ta tb:TE):TE:=λU H Q=>ta U H λx H1=>xG tb U Q x H1
inductive xH (Q:VK)(x:V)(H1:Hp):Prop
  | c:∀ c,x=.bl c->Q (.bl (!c)) H1->xH Q x H1
def De (ta:TE):TE:=λU H Q=>ta U H λx H1=>xH Q x H1
def xI {op}{t:TE}(h:PE X a t):PE X (.BoolOp op [a] pos) t:=λLI s U H Q I hw=>BoolOp_one (h LI s U H Q I hw)
def xJ (ha:PE X a ta)(hb:PE X (.BoolOp .And (b::rest) pos) tb):PE X (.BoolOp .And (a::b::rest) pos) (Dc ta tb):=by
  intro LI s U H Q I h;refine BoolOp_and (thn (ha LI s U H _ I h) λv s1 zq0=>?_);obtain ⟨x,H1,I1,r1,q1⟩:=zq0;obtain ⟨c,rfl,q1⟩:=q1;cases r1
  refine wpAny_truthy_bool ?_;cases c with
  | true=>exact hb LI s1 U H1 Q I1 q1
  | false=>exact #[.bl false,H1,I1,rfl,q1]
def Df (ha:PE X a ta):PE X (.UnaryOp .Not a pos) (De ta):=by
  intro LI s U H Q I h;refine UnaryOp_ (thn (ha LI s U H _ I h) λv s1 zq0=>?_);obtain ⟨x,H1,I1,r1,q1⟩:=zq0;obtain ⟨c,rfl,q1⟩:=q1;cases r1
  exact not_of (wpAny_truthy_bool #[.bl (!c),H1,I1,rfl,q1])
def tIf (t:TT)(ta tb:TE):TE:=λU H Q=>t U H λc H1=>if c=true then ta U H1 Q else tb U H1 Q
def xK (hc:PT X c tA)(ha:PE X a ta)(hb:PE X b tb):PE X (.IfExp c a b pos) (tIf tA ta tb):=by
  intro LI s U H Q I h;refine wpAny_IfExp (thn (hc LI s U H _ I h) λd s1 zq0=>?_);obtain ⟨H1,I1,q1⟩:=zq0;cases d with
  | true=>exact ha LI s1 U H1 Q I1 q1
  | false=>exact hb LI s1 U H1 Q I1 q1
end
def SqL (K:Frag)(H:Hp)(a:Addr)(xs:List V):Prop:=
  Rd H a (.lst xs)\/
    ∃(o:Obj) (its:Array Value) (n:Nat),K.lookup a=some o/\o.cls=.type "list"/\o.dict=none/\o.data=.seq its n/\its.size<=sizeLine/\Vals xs its.toList
def SqT (K:Frag)(H:Hp)(a:Addr)(xs:List V):Prop:=
  Rd H a (.tup xs)\/
    ∃(o:Obj) (its:Array Value) (n:Nat),K.lookup a=some o/\o.cls=.type "tuple"/\o.data=.seq its n/\its.size<=sizeLine/\Vals xs its.toList
def absV:Value->Option V
  | .none=>some .non
  | .bool b=>some (.bl b)
  | .int i _=>some (.int i)
  | .str x _=>some (.str x)
  | .bytes b _=>some (.byt b)
  | .float b _=>some (.flt b)
  | .ref a=>some (.ref a)
  | .type n=>some (.ty n)
  | _=>none
def RelV.abs {x:V}{u:Value}(r:RelV x u):absV u=some x:=by
  cases x with
  | non=>cases r;rfl
  | bl _=>cases r;rfl
  | int _=>obtain ⟨t,rfl⟩:=r;rfl
  | str _=>obtain ⟨t,rfl⟩:=r;rfl
  | byt _=>obtain ⟨t,rfl⟩:=r;rfl
  | flt _=>obtain ⟨t,rfl⟩:=r;rfl
  | ref _=>cases r;rfl
  | ty _=>cases r;rfl
def RelV.inj {x y:V}{u:Value}(r:RelV x u)(q:RelV y u):x=y:=aK (r.abs.symm.trans q.abs)
def Vals.inj:∀{xs ys:List V} {us:List Value},Vals xs us->Vals ys us->xs=ys
  | _,_,_,.nil,.nil=>rfl
  | _,_,_,.cons r t,.cons r' t'=>by rw[r.inj r',Vals.inj t t']
section
variable {X:Cx}{LI:List (Addr×Obj)}{U:St}{H:Hp}{s:Shared}{a:Addr}{xs ys:List V}
def SqL.of {K:Frag}(h:H a=some (.lst xs)):SqL K H a xs:=.inl (.inl h)
def SqT.of {K:Frag}(h:H a=some (.tup xs)):SqT K H a xs:=.inl (.inl h)
def Inv.list (I:Inv X LI U H s)(h:SqL X.K H a xs):∃ its:List Value,Vals xs its/\PlainL s.heap a its.toArray/\xs.length<=sizeLine:=by
  rcases h with h|⟨o,its,n,hk,hc,hd,hs,hz,r⟩
  · obtain ⟨z,its,n,r,e⟩:=h.ok I.hok
    exact #[its,r,#[_,n,e,rfl,rfl,rfl],z]
  · refine #[its.toList,r,#[o,n,I.kIn a o hk,hc,hd,by simpa using hs],?_]
    have e:=r.length;simp only[bF]at e;lia
def Inv.tuple (I:Inv X LI U H s)(h:SqT X.K H a xs):∃ its:List Value,Vals xs its/\IsTup s.heap a its.toArray/\xs.length<=sizeLine:=by
  rcases h with h|⟨o,its,n,hk,hc,hs,hz,r⟩
  · obtain ⟨z,its,r,p⟩:=h.ok I.hok
    exact #[its,r,p,z]
  · refine #[its.toList,r,#[o,I.kIn a o hk,hc,n,by simpa using hs],?_]
    have e:=r.length;simp only[bF]at e;lia
def Inv.list_inj (I:Inv X LI U H s)(h:SqL X.K H a xs)(h':SqL X.K H a ys):xs=ys:=by
  obtain ⟨its,r,⟨o,n,e,_,_,d⟩,_⟩:=I.list h;obtain ⟨its',r',⟨o',n',e',_,_,d'⟩,_⟩:=I.list h';rw[e]at e';cases e'
  rw[d]at d';injection d' with d1 _;have:its=its':=by simpa using congrArg Array.toList d1
  subst this;exact r.inj r'
def Inv.tuple_inj (I:Inv X LI U H s)(h:SqT X.K H a xs)(h':SqT X.K H a ys):xs=ys:=by
  obtain ⟨its,r,⟨o,e,_,n,d⟩,_⟩:=I.tuple h;obtain ⟨its',r',⟨o',e',_,n',d'⟩,_⟩:=I.tuple h';rw[e]at e';cases e'
  rw[d]at d';injection d' with d1 _;have:its=its':=by simpa using congrArg Array.toList d1
  subst this;exact r.inj r'
end
abbrev Cx.wish (X:Cx)(E:Value->Shared->Prop):Cx:={ X with xe:=E }
abbrev Cx.nox (X:Cx):Cx:=X.wish λ_ _=>False
def Cx.Ok.wish {X:Cx}(ok:X.Ok)(E:Value->Shared->Prop):(X.wish E).Ok:=
  #[ok.mod,ok.kind,ok.glob,ok.blt,ok.above,ok.inj,ok.has,ok.cab,ok.hd,ok.frames,ok.stk,ok.exf,ok.bs,ok.bsz,ok.noex,ok.exfs,ok.funs,ok.frf]
def Cx.Ok.unwish {X:Cx}{E:Value->Shared->Prop}(ok:(X.wish E).Ok):X.Ok:=
  #[ok.mod,ok.kind,ok.glob,ok.blt,ok.above,ok.inj,ok.has,ok.cab,ok.hd,ok.frames,ok.stk,ok.exf,ok.bs,ok.bsz,ok.noex,ok.exfs,ok.funs,ok.frf]
section
variable {X:Cx}{LI:List (Addr×Obj)}{U:St}{H:Hp}{s:Shared}{E:Value->Shared->Prop}
def Inv.wish (I:Inv X LI U H s)(E:Value->Shared->Prop):Inv (X.wish E) LI U H s:=#[I.ok.wish E,I.os,I.bare,I.base,I.loc,I.cell,I.free,I.freeC,I.pin,I.hok,I.len]
def Inv.unwish (I:Inv (X.wish E) LI U H s):Inv X LI U H s:=#[I.ok.unwish,I.os,I.bare,I.base,I.loc,I.cell,I.free,I.freeC,I.pin,I.hok,I.len]
def SP.unwish {f:Flow}(h:SP (X.wish E) LI D f s'):SP X LI D f s':=by
  cases f with
  | next=>obtain ⟨U',H',I,q⟩:=h;exact #[U',H',I.unwish,q]
  | brk=>obtain ⟨U',H',I,q⟩:=h;exact #[U',H',I.unwish,q]
  | cont=>obtain ⟨U',H',I,q⟩:=h;exact #[U',H',I.unwish,q]
  | ret u=>obtain ⟨v,U',H',I,r,q⟩:=h;exact #[v,U',H',I.unwish,r,q]
def PSs.nox {st:List Stmt}{t:TS}(h:PSs X.nox st t):PSs X st t:=λLI s U H D I hw=>
  dM (h LI s U H D (I.wish _) hw) (λ_ _ q=>q.unwish) λ_ _ z=>False.elim z
end
section
variable {X:Cx}{st:Stmt}{rest:List Stmt}{t u:TS}{e:Expr}{te:TE}{pos:Pos}
def Dg:TS:=λD U H=>D.nx U H
def tSeq (t u:TS):TS:=λD U H=>t { D with nx:=u D } U H
def cw:PSs X [] Dg:=λ_ _ U H _ I h=>wpAny_execs_nil #[U,H,I,h]
def ay (h1:PS X st t)(h2:PSs X rest u):PSs X (st::rest) (tSeq t u):=by
  intro LI s U H D I h;refine wpAny_execs_cons (thn (h1 LI s U H { D with nx:=u D } I h) λf s1 q=>?_);cases f with
  | next=>
    obtain ⟨U',H',I',q⟩:=q;exact h2 LI s1 U' H' D I' q
  | ret v=>exact q
  | brk=>exact q
  | cont=>exact q
def av (h1:PS X st t):PSs X [st] t:=by
  intro LI s U H D I h;refine wpAny_execs_cons (thn (h1 LI s U H D I h) λf s1 q=>?_);cases f with
  | next=>exact wpAny_execs_nil q
  | ret v=>exact q
  | brk=>exact q
  | cont=>exact q
def Inv.quiet (I:Inv X LI U H s):interactive X.env=false:=by simp[interactive,I.ok.kind]
def Dh (te:TE):TS:=λD U H=>te U H λ_ H1=>D.nx U H1
def dR (he:PE X e te)(hs:swapsWith e none pos.line X.env=pure false:=by rfl):PS X (.Expr e pos) (Dh te):=by
  intro LI s U H D I h;exact wpAny_Expr_any (thn (he LI s U H _ I h) λv s1 zq0=>(by obtain ⟨x,H1,I1,r1,q1⟩:=zq0;exact #[U,H1,I1,q1])) I.quiet hs
def tRet (te:TE):TS:=λD U H=>te U H D.rt
def aL (he:PE X e te):PS X (.Return (some e) pos) (tRet te):=by
  intro LI s U H D I h;exact wpAny_Return_some (thn (he LI s U H _ I h) λv s1 zq0=>(by obtain ⟨x,H1,I1,r1,q1⟩:=zq0;exact #[x,U,H1,I1,r1,q1]))
def tIfS (c:TT)(t u:TS):TS:=λD U H=>c U H λb H1=>if b=true then t D U H1 else u D U H1
def cg {a:List Stmt}(hc:PT X c tc)(ha:PSs X a t)(hb:PSs X b u):PS X (.If c a b pos) (tIfS tc t u):=by
  intro LI s U H D I h;refine wpAny_If (thn (hc LI s U H _ I h) λd s1 zq0=>?_);obtain ⟨H1,I1,q1⟩:=zq0;cases d with
  | true=>exact ha LI s1 U H1 D I1 q1
  | false=>exact hb LI s1 U H1 D I1 q1
end
abbrev TG:=V->St->Hp->(St->Hp->Prop)->Prop
abbrev TGs:=List V->St->Hp->(St->Hp->Prop)->Prop
def PG (X:Cx)(target:Expr)(t:TG):Prop:=
  ∀(LI:List (Addr×Obj)) (s:Shared) (U:St) (H:Hp) (v:V) (u:Value) (Q:St->Hp->Prop),Inv X LI U H s->RelV v u->t v U H Q->
    wpAny (model X.prog X.w) X.A (assign target X.env u) (λ_ s'=>∃ U' H',Inv X LI U' H' s'/\Q U' H') X.xe s
def PGs (X:Cx)(ts:List Expr)(t:TGs):Prop:=
  ∀(LI:List (Addr×Obj)) (s:Shared) (U:St) (H:Hp) (vs:List V) (us:List Value) (Q:St->Hp->Prop),Inv X LI U H s->Vals vs us->t vs U H Q->
    wpAny (model X.prog X.w) X.A (assignInOrder ((assignEach ts X.env).map (·.2)) us) (λ_ s'=>∃ U' H',Inv X LI U' H' s'/\Q U' H') X.xe s
abbrev TSet:=V->V->V->Hp->(Hp->Prop)->Prop
def PSet (X:Cx)(t:TSet):Prop:=
  ∀(LI:List (Addr×Obj)) (s:Shared) (U:St) (H:Hp) (o i v:V) (ov iv u:Value) (Q:Hp->Prop),Inv X LI U H s->RelV o ov->RelV i iv->RelV v u->t o i v H Q->
    wpAny (model X.prog X.w) X.A (setItem ov iv u) (λ_ s'=>∃ H',Inv X LI U H' s'/\Q H') X.xe s
section
variable {X:Cx}{pos:Pos}
def gJ (i:Nat):TG:=λv U H Q=>Q (U.set i (some v)) H
def aI {i:Nat}{x:Str}(hN:X.N.Nodup)(hi:X.N[i]?=some x)(hx:Loc X.env.scope x)(hf:X.fn x=true\/X.env.scope.names.lookup x=some .local:=by first|exact .inl rfl|exact .inr rfl|assumption):PG X (.Name x pos) (gJ i):=by
  intro LI s U H v u Q I r h;exact wpAny_assign_Name (nG I hN hi hx r (λs' I'=>#[_,H,I',h]) hf)
inductive gNil (vs:List V)(U:St)(H:Hp)(Q:St->Hp->Prop):Prop
  | c:vs=[]->Q U H->gNil vs U H Q
inductive xM (t:TG)(u:TGs)(vs:List V)(U:St)(H:Hp)(Q:St->Hp->Prop):Prop
  | c:∀ v r,vs=v::r->(t v U H λU' H'=>u r U' H' Q)->xM t u vs U H Q
def fA:PGs X [] gNil:=by
  intro LI s U H vs us Q I r h;obtain ⟨e,h⟩:=h;subst e;cases r
  exact assignInOrder_nil #[U,H,I,h]
def cD {t:TG}(h1:PG X e t)(h2:PGs X es u)
    (hs:(assignEach (e::es) X.env).map (·.2)=assign e X.env::(assignEach es X.env).map (·.2):=by rfl):PGs X (e::es) (xM t u):=by
  intro LI s U H vs us Q I r h;obtain ⟨v,vr,e1,h⟩:=h;subst e1;cases r with
  | cons r rr=>
    rw[hs];refine assignInOrder_cons (thn (h1 LI s U H _ _ _ I r h) λ_ s1 zq0=>?_);obtain ⟨U1,H1,I1,q1⟩:=zq0;exact h2 LI s1 U1 H1 _ _ Q I1 rr q1
inductive gTup (K:Frag)(n:Nat)(t:TGs)(v:V)(U:St)(H:Hp)(Q:St->Hp->Prop):Prop
  | c:∀ a xs,v=.ref a->SqT K H a xs->xs.length=n->t xs U H Q->gTup K n t v U H Q
def fR {k:Nat}{t:TGs}{n:Nat}(hc:X.calm=true)(h:PGs X es t)
    (hn:(assignEach es X.env).length=n:=by rfl) (hst:(assignEach es X.env).findIdx? (·.1)=none:=by rfl):PG X (.Tuple es k pos) (gTup X.K n t):=by
  intro LI s U H v u Q I r hw;obtain ⟨a,xs,e1,hq,hl,hw⟩:=hw;subst e1;cases r
  obtain ⟨its,rv,ht,hz⟩:=I.tuple hq;refine assign_Tuple_tuple (I.ok.hd hc) ht (by simp[hn,<-hl,rv.length]) hst λh' hx=>?_;have I1:Inv X LI U H { s with heap:=h' }:=I.kept (t':=s.toks) λb o e=>hx b o (bh (aJ e)) e;exact h LI _ U H xs _ Q I1 (by simpa using rv) hw
def gSub (to ti:TE)(t:TSet):TG:=λv U H Q=>to U H λo H1=>ti U H1 λi H2=>t o i v H2 λH3=>Q U H3
def jD {t:TSet}(ho:PE X o to)(hi:PE X i ti)(hs:PSet X t)
    (ha:∀ v,assign (.Subscript o i pos) X.env v=(do
      let ov <-holding [v] (eval o X.env)
      let iv <-holding [v,ov] (eval i X.env)
      standAt pos
      holding [v,ov,iv] (setItem ov iv v)
      release [v,ov,iv] []):=by intro _;rfl):PG X (.Subscript o i pos) (gSub to ti t):=by
  intro LI s U H v u Q I r h;rw[ha];refine ao (wpAny_holding (thn (ho LI s U H _ I h) λov s1 zq0=>?_));obtain ⟨x,H1,I1,r1,q1⟩:=zq0;refine ao (wpAny_holding (thn (hi LI s1 U H1 _ I1 q1) λiv s2 zq0=>?_));obtain ⟨y,H2,I2,r2,q2⟩:=zq0;refine ao (wpAny_standAt (ao (wpAny_holding (thn (hs LI s2 U H2 x y v ov iv u _ I2 r1 r2 r q2) λ_ s3 zq0=>?_))));obtain ⟨H3,I3,q3⟩:=zq0;exact wpAny_release #[U,H3,I3,q3]
def tAsg (te:TE)(g:TG):TS:=λD U H=>te U H λx H1=>g x U H1 D.nx
def gK (he:PE X e te)(hg:PG X tg g)(hs:swapsWithSole [tg] e pos.line X.env=pure false:=by rfl)(hw:swappedStores [tg] e X.env=pure none:=by rfl)
    (h1:(assignEach [tg] X.env).map (·.2)=[assign tg X.env]:=by rfl):PS X (.Assign [tg] e pos) (tAsg te g):=by
  intro LI s U H D I h;refine wpAny_Assign_stores (thn (he LI s U H _ I h) λv s1 zq0=>?_) hs hw;obtain ⟨x,H1,I1,r1,q1⟩:=zq0;rw[h1];exact thn (hg LI s1 U H1 x v _ I1 r1 q1) λ_ s2 q=>q
def aE {i:Nat}{x:Str}{pos':Pos}(hN:X.N.Nodup)(hi:X.N[i]?=some x)(hx:Loc X.env.scope x)(he:PE X e te)(hs:swapsWith e (some (.Name x pos')) pos.line X.env=pure false:=by rfl)(hf:X.fn x=true\/X.env.scope.names.lookup x=some .local:=by first|exact .inl rfl|exact .inr rfl|assumption) :
    PS X (.Assign [.Name x pos'] e pos) (tAsg te (gJ i)):=by
  intro LI s U H D I h;refine wpAny_Assign_Name (thn (he LI s U H _ I h) λv s1 zq0=>?_) hs;obtain ⟨y,H1,I1,r1,q1⟩:=zq0;exact nG I1 hN hi hx r1 (λs2 I2=>#[_,H1,I2,q1]) hf
inductive xN (i:Nat)(j:Nat)(D:Ends)(U:St)(vs:List V)(H1:Hp):Prop
  | c:∀ v w,vs=[v,w]->D.nx ((U.set i (some v)).set j (some w)) H1->xN i j D U vs H1
def tPar (i j:Nat)(ta:TA):TS:=λD U H=>ta U H λvs H1=>xN i j D U vs H1
def Di {i j:Nat}{x y:Str}{a b:Expr}{px py pt:Pos}{kt k2 pt2}(hc:X.calm=true)(hN:X.N.Nodup)(hi:X.N[i]?=some x)(hj:X.N[j]?=some y)(hij:i≠j)
    (hx:X.env.scope.names.lookup x=some .local) (hy:X.env.scope.names.lookup y=some .local) (ha:PA X [a,b] ta)
    (hw:swappedStores [.Tuple [.Name x px,.Name y py] kt pt] (.Tuple [a,b] k2 pt2) X.env=pure (some [x,y]))
    (hs:swapsWithSole [.Tuple [.Name x px,.Name y py] kt pt] (.Tuple [a,b] k2 pt2) pos.line X.env=pure false:=by rfl) :
    PS X (.Assign [.Tuple [.Name x px,.Name y py] kt pt] (.Tuple [a,b] k2 pt2) pos) (tPar i j ta):=by
  intro LI s U H D I h;rw[exec_Assign_arm];refine ao (wpAny_standAt ?_);rw[hs];refine ao (aC ?_);rw[ag (by decide)];refine ao (Tuple_ (thn (ha _ LI s U H _ I h) λus s1 zq0=>?_));obtain ⟨vs,H1,I1,r1,q1⟩:=zq0;obtain ⟨v,w,e1,q1⟩:=q1;subst e1;obtain ⟨u1,u2,rfl,rv,rw'⟩:∃ u1 u2,us=[u1,u2]/\RelV v u1/\RelV w u2:=by
    cases r1 with
    | cons p q=>
      cases q with
      | cons p' q'=>
        cases q'
        exact #[_,_,rfl,p,p']
  refine wpAny_newObj_type ?_ (by show 2<=sizeLine;decide);have I2:Inv X LI U H1 { s1 with heap:=s1.heap.push { cls:=.type "tuple",data:=.seq [u1,u2].toArray } }:=I1.kept (t':=s1.toks) λb o e=>aU _ e;rw[hw];refine ao (aC ?_);show wpAny (model X.prog X.w) X.A (do rule "assign.swapped-stores";let items <-unpackItems (.ref s1.heap.objs.size) 2 none;assignInOrder [λv=>bindName X.env y v,λv=>bindName X.env x v] items.reverse;pure Flow.next) _ _ _
  refine ao (wpAny_rule (ao (unpackItems_tuple (items:=(List.toArray [u1,u2])) (I.ok.hd hc) (IsTup.new s1.heap _) λh' hx'=>?_)));have I3:=I2.kept (h':=h') (t':=s1.toks) λb o e=>hx' b o (bh (aJ e)) e;show wpAny _ _ (assignInOrder [λv=>bindName X.env y v,λv=>bindName X.env x v] [u2,u1] >>= λ_=>pure Flow.next) _ _ _;refine ao (assignInOrder_cons (wpAny_bindName (nG I3 hN hj (.inl hy) rw' (λs2 I4=>?_) (.inr hy))));refine assignInOrder_cons (wpAny_bindName (nG I4 hN hi (.inl hx) rv (λs3 I5=>assignInOrder_nil (aC ?_)) (.inr hx)));rw[List.set_comm _ _ (aT hij)]at I5;exact #[_,H1,I5,q1]
end
section
variable {X:Cx}{pos:Pos}
def sS (c:TT)(tb:TS):TS:=λD U H=>∃ W:Nat->St->Hp->Prop,(∃ m,W m U H)/\∀ m U H,W m U H->
  c U H λb H1=>if b=true then ∃ N:St->Hp->Prop,(∀ U' H',N U' H'->∃ m',m'<m/\W m' U' H')/\tb { D with nx:=N,ct:=N,bk:=D.nx } U H1 else D.nx U H1
def lr (hp:PassesOwn (model X.prog X.w) X.A X.env X.xe)(hc:PT X c tc)(hb:PSs X body tb):PS X (.While c body [] pos) (sS tc tb):=by
  intro LI s U H D I h;obtain ⟨W,⟨m0,w0⟩,turn⟩:=h;refine wpAny_While (codeAny_whileLoop (λn s'=>∃ U' H',Inv X LI U' H' s'/\W n U' H') ?_ m0 #[U,H,I,w0]);rintro n s1 ⟨U1,H1,I1,w1⟩;refine wpAny_passesOwn hp (thn (hc LI s1 U1 H1 _ I1 (turn n U1 H1 w1)) λb s2 zq0=>?_);obtain ⟨H2,I2,q2⟩:=zq0;cases b with
  | true=>
    obtain ⟨N,hN,q2⟩:=q2;rw[af rfl];refine wpAny_passesOwn hp (thn (hb LI s2 U1 H2 _ I2 q2) λf s3 q3=>?_);cases f with
    | next=>
      obtain ⟨U3,H3,I3,n3⟩:=q3;obtain ⟨m',hm,w3⟩:=hN U3 H3 n3;exact #[m',hm,U3,H3,I3,w3]
    | cont=>
      obtain ⟨U3,H3,I3,n3⟩:=q3;obtain ⟨m',hm,w3⟩:=hN U3 H3 n3;exact #[m',hm,U3,H3,I3,w3]
    | brk=>exact q3
    | ret v=>exact q3
  | false=>
    rw[ag bY];exact wpAny_execs_nil #[U1,H2,I2,q2]
end
structure It where
  go:Nat->Hp->Prop
  yld:Nat->Hp->V->Hp->Prop
  stop:Nat->Hp->Prop
def FpOk (X:Cx)(LI:List (Addr×Obj))(H:Hp)(b:Addr):Prop:=
  H b=none/\b≠X.env.locals/\b∉X.fs/\(b∈X.ex\/X.s₀.heap.objs.size<=b)/\(∀ x c,X.env.cells.lookup x=some c->c≠b)/\∀ p∈X.pn++LI,p.1≠b
def Inv.fpOk {H':Hp}{b:Addr}(I:Inv X LI U H s)(hb:s.heap.objs.size<=b)(hn:H' b=none):FpOk X LI H' b:=by
  refine #[hn,iE (aO I.lt hb),I.nofs hb,.inr (az I.sz hb),λx c e z=>?_,λp hp z=>?_]
  · obtain ⟨v,q⟩:=I.cell x c e
    exact absurd (aO q.lt (by rw[z];exact hb)) (dv _)
  · exact absurd (aO (aJ (I.pin p hp).1) (by rw[z];exact hb)) (dv _)
structure Turn (P:Program)(w:World)(K:Frag)(tg:Expr)(J:It)(fp:List Addr)(it:Addr)(tn:Nat->Heap->Prop):Prop where
  mem:it∈fp
  obj:∀ i h,tn i h->∀ b∈fp,∃ o,h.get? b=some o/\∀ v,o.data≠.cell v
  keep:∀ i h h',tn i h->(∀ b∈fp,∀ o,h.get? b=some o->h'.get? b=some o)->tn i h'
  item:∀(X:Cx),X.prog=P->X.w=w->X.K=K->X.calm=true->∀(i:Nat) (LI:List (Addr×Obj)) (s:Shared) (U:St) (H:Hp) (E:Value->Shared->Prop),Inv X LI U H s->(∀ b∈fp,FpOk X LI H b)->tn i s.heap->J.go i H->
    wpAny (model P w) X.A (pyNext (.ref it)) (λr s1=>∃ u,r=some u/\
      wpAny (model P w) X.A (letOwnedTupleGo tg (.ref it) u) (λ_ s2=>∃ x H',Inv X LI U H' s2/\RelV x u/\J.yld i H x H'/\tn (i+1) s2.heap/\∀ b∈fp,H' b=none) E s1) E s
  done:∀(X:Cx),X.prog=P->X.w=w->X.K=K->X.calm=true->∀(i:Nat) (LI:List (Addr×Obj)) (s:Shared) (U:St) (H:Hp) (E:Value->Shared->Prop),Inv X LI U H s->(∀ b∈fp,FpOk X LI H b)->tn i s.heap->J.stop i H->
    wpAny (model P w) X.A (pyNext (.ref it)) (λr s1=>r=none/\Inv X LI U H s1) E s
  self:∀(A:Around) (i:Nat) (s:Shared) (Q:Value->Shared->Prop) (E:Value->Shared->Prop),tn i s.heap->Q (.ref it) s->wpAny (model P w) A (pyIter (.ref it)) Q E s
abbrev TI:=St->Hp->(It->Hp->Prop)->Prop
inductive PIE (X:Cx)(LI:List (Addr×Obj))(U:St)(tg:Expr)(R:It->Hp->Prop)(itv:Value)(s2:Shared):Prop
  | c:∀(it:Addr) (fp:List Addr) (tn:Nat->Heap->Prop) (J:It) (H':Hp),itv=.ref it->Inv X LI U H' s2->Turn X.prog X.w X.K tg J fp it tn->tn 0 s2.heap->(∀ b∈fp,FpOk X LI H' b)->R J H'->PIE X LI U tg R itv s2
def PI (X:Cx)(tg iter:Expr)(wi:TI):Prop:=
  ∀(LI:List (Addr×Obj)) (s:Shared) (U:St) (H:Hp) (R:It->Hp->Prop),Inv X LI U H s->wi U H R->
    wpAny (model X.prog X.w) X.A (eval iter X.env) (λv s1=>wpAny (model X.prog X.w) X.A (pyIter v) (PIE X LI U tg R) X.xe s1) X.xe s
def lx {M:Model}{A:Around}{E:Value->Shared->Prop}{s:Shared}{tg:Expr}{it:Addr}{u:Value}{o:Obj}{n:String}{vs:Array Value}{Q:Unit->Shared->Prop}(ho:s.heap.get? it=some o)(hc:o.cls=.type n)(hd:o.data=.fields vs)
    (hn:["enumerate","zip","dict_itemiterator","dict_reverseitemiterator","odict_iterator","itertools.zip_longest","itertools.pairwise"].contains n=false) (hQ:Q () s):wpAny M A (letOwnedTupleGo tg (.ref it) u) Q E s:=by
  unfold letOwnedTupleGo;cases tg<;>first
    | exact aC hQ
    | (cases u <;> first
        | exact aC hQ
        | (refine ao (wpAny_load ho ?_)
           rw[hc,hd];show wpAny M A (if (["enumerate","zip","dict_itemiterator","dict_reverseitemiterator","odict_iterator","itertools.zip_longest","itertools.pairwise"].contains n&&vs[0]?==some (rawInt _))=true then _ else _) Q E s
           rw[ag (by intro h;rw[hn,Bool.false_and]at h;cases h)]
           exact aC hQ))
def Itl (K:Frag)(a:Addr):It:=
  #[λi H=>∃ xs x,SqL K H a xs/\xs[i]?=some x,λi H x H'=>H'=H/\∀ xs,SqL K H a xs->xs[i]?=some x,λi H=>∃ xs,SqL K H a xs/\xs.length<=i]
def Itt (K:Frag)(a:Addr):It:=
  #[λi H=>∃ xs x,SqT K H a xs/\xs[i]?=some x,λi H x H'=>H'=H/\∀ xs,SqT K H a xs->xs[i]?=some x,λi H=>∃ xs,SqT K H a xs/\xs.length<=i]
def Itr (lo:Int)(n:Nat):It:=#[λi _=>i<n,λi H x H'=>H'=H/\x=.int (lo+i),λi _=>n<=i]
def Dj {K:Frag}(a it:Addr):Turn P w K tg (Itl K a) [it] it (λi h=>h.IsListIter it a i) where
  mem:=by simp
  obj:=λi h st b hb=>by
    have e:b=it:=by simpa using hb
    subst e;obtain ⟨o,e,c,d⟩:=st;exact #[o,e,λv z=>by rw[d]at z;cases z]
  keep:=λi h h' st k=>st.at λo e=>k it (by simp) o e
  item:=by
    intro X hP hw hK hc i LI s U H E I hf st hg;subst hP hw hK;obtain ⟨xs,x,hq,hx⟩:=hg;obtain ⟨its,rv,p,hz⟩:=I.list hq;obtain ⟨u,hu,ru⟩:=rv.get hx;obtain ⟨f0,f1,f2,f3,f4,f5⟩:=hf it (by simp);refine wpAny_pyNext_list_item st p.isList (x:=u) (by simpa using hu) λh' st' sb=>?_;have I1:Inv X LI U H { s with heap:=h' }:=I.turned (t':=s.toks) (λb o hb e=>(sb.2 b hb).trans e) f0 f1 f3 f4 f5;obtain ⟨o,e,c,d⟩:=id st';exact #[u,rfl,lx (s:={ s with heap:=h' }) e c d (by decide) #[x,H,I1,ru,#[rfl,λys hy=>by rw[I.list_inj hy hq];exact hx],st',λb hb=>(hf b hb).1]]
  done:=by
    intro X hP hw hK hc i LI s U H E I hf st hg;subst hP hw hK;obtain ⟨xs,hq,hx⟩:=hg;obtain ⟨its,rv,p,hz⟩:=I.list hq;obtain ⟨f0,f1,f2,f3,f4,f5⟩:=hf it (by simp);have hl:=rv.length;exact wpAny_pyNext_list_end (I.ok.hd hc) st p.isList (by simp;lia) λh' eb=>#[rfl,I.turned (t':=s.toks) (λb o hb e=>eb b o hb e) f0 f1 f3 f4 f5]
  self:=λ_ _ _ _ _ st h=>wpAny_pyIter_listiter st h
def Dk {K:Frag}(a it:Addr):Turn P w K tg (Itt K a) [it] it (λi h=>h.IsTupleIter it a i) where
  mem:=by simp
  obj:=λi h st b hb=>by
    have e:b=it:=by simpa using hb
    subst e;obtain ⟨o,e,c,d⟩:=st;exact #[o,e,λv z=>by rw[d]at z;cases z]
  keep:=λi h h' st k=>st.at λo e=>k it (by simp) o e
  item:=by
    intro X hP hw hK hc i LI s U H E I hf st hg;subst hP hw hK;obtain ⟨xs,x,hq,hx⟩:=hg;obtain ⟨its,rv,p,hz⟩:=I.tuple hq;obtain ⟨u,hu,ru⟩:=rv.get hx;obtain ⟨f0,f1,f2,f3,f4,f5⟩:=hf it (by simp);refine wpAny_pyNext_tuple_item st (show s.heap.IsTuple a its.toArray from p) (x:=u) (by simpa using hu) λh' st' sb=>?_;have I1:Inv X LI U H { s with heap:=h' }:=I.turned (t':=s.toks) (λb o hb e=>(sb.2 b hb).trans e) f0 f1 f3 f4 f5;obtain ⟨o,e,c,d⟩:=id st';exact #[u,rfl,lx (s:={ s with heap:=h' }) e c d (by decide) #[x,H,I1,ru,#[rfl,λys hy=>by rw[I.tuple_inj hy hq];exact hx],st',λb hb=>(hf b hb).1]]
  done:=by
    intro X hP hw hK hc i LI s U H E I hf st hg;subst hP hw hK;obtain ⟨xs,hq,hx⟩:=hg;obtain ⟨its,rv,p,hz⟩:=I.tuple hq;obtain ⟨f0,f1,f2,f3,f4,f5⟩:=hf it (by simp);have hl:=rv.length;exact wpAny_pyNext_tuple_end (I.ok.hd hc) st (show s.heap.IsTuple a its.toArray from p) (by simp;lia) λh' eb=>#[rfl,I.turned (t':=s.toks) (λb o hb e=>eb b o hb e) f0 f1 f3 f4 f5]
  self:=λ_ _ _ _ _ st h=>wpAny_pyIter_tupleiter st h
def Dl {K:Frag}(it:Addr)(lo:Int)(n:Nat):Turn P w K tg (Itr lo n) [it] it (λi h=>IsRangeIter h it (lo+(i:Nat)*1) ((n:Int)-(i:Nat)) 1) where
  mem:=by simp
  obj:=λi h st b hb=>by
    have e:b=it:=by simpa using hb
    subst e;exact #[_,st,λv z=>by
      have z':Data.fields _=Data.cell v:=z;cases z']
  keep:=λi h h' st k=>k it (by simp) _ st
  item:=by
    intro X hP hw hK hc i LI s U H E I hf st hg;subst hP hw hK;obtain ⟨f0,f1,f2,f3,f4,f5⟩:=hf it (by simp);have W:=Walks.range (prog:=X.prog) (w:=X.w) (I.ok.hd hc) it lo 1 n;refine W.item i s _ _ hg st λv h' tk hv st' kk=>?_;obtain ⟨t,rfl⟩:=hv;have I1:Inv X LI U H { s with heap:=h',toks:=tk }:=I.turned (λb o hb e=>kk b o (by simpa using hb) e) f0 f1 f3 f4 f5;refine #[_,rfl,lx (s:={ s with heap:=h',toks:=tk }) (n := "range_iterator") st' rfl rfl (by decide) #[.int (lo+i),H,I1,#[t,?_],#[rfl,rfl],st',λb hb=>(hf b hb).1]];rw[Int.mul_one]
  done:=by
    intro X hP hw hK hc i LI s U H E I hf st hg;subst hP hw hK;obtain ⟨f0,f1,f2,f3,f4,f5⟩:=hf it (by simp);exact wpAny_pyNext_range_end (I.ok.hd hc) st (by have:n<=i:=hg;lia) λh' eb=>#[rfl,I.turned (t':=s.toks) (λb o hb e=>eb b o hb e) f0 f1 f3 f4 f5]
  self:=λ_ _ _ _ _ st h=>wpAny_pyIter_rangeiter st h
section
variable {X:Cx}{tg:Expr}
inductive xO (K:Frag)(R:It->Hp->Prop)(x:V)(H1:Hp):Prop
  | c:∀ a,x=.ref a->(∃ xs,SqL K H1 a xs)->R (Itl K a) H1->xO K R x H1
def xP (K:Frag)(tl:TE):TI:=λU H R=>tl U H λx H1=>xO K R x H1
inductive xQ (K:Frag)(R:It->Hp->Prop)(x:V)(H1:Hp):Prop
  | c:∀ a,x=.ref a->(∃ xs,SqT K H1 a xs)->R (Itt K a) H1->xQ K R x H1
def iTup (K:Frag)(tl:TE):TI:=λU H R=>tl U H λx H1=>xQ K R x H1
def dS (hl:PE X l tl):PI X tg l (xP X.K tl):=by
  intro LI s U H R I h;refine thn (hl LI s U H _ I h) λv s1 zq0=>?_;obtain ⟨x,H1,I1,r1,q1⟩:=zq0;obtain ⟨a,e,⟨xs,hq⟩,q⟩:=q1;subst e;cases r1
  obtain ⟨its,rv,p,hz⟩:=I1.list hq;refine wpAny_pyIter_list p.isList ?_;refine #[s1.heap.objs.size,[s1.heap.objs.size],_,_,H1,rfl,I1.kept (t':=s1.toks) λb o e=>aU _ e,Dj a _,#[_,cQ _ rfl,rfl,rfl],λb hb=>?_,q];have e:b=s1.heap.objs.size:=by simpa using hb
  subst e;exact I1.fpOk (ai _) (I1.hok.fresh (ai _))
def gL (hl:PE X l tl):PI X tg l (iTup X.K tl):=by
  intro LI s U H R I h;refine thn (hl LI s U H _ I h) λv s1 zq0=>?_;obtain ⟨x,H1,I1,r1,q1⟩:=zq0;obtain ⟨a,e,⟨xs,hq⟩,q⟩:=q1;subst e;cases r1
  obtain ⟨its,rv,p,hz⟩:=I1.tuple hq;refine wpAny_pyIter_tuple (show s1.heap.IsTuple a its.toArray from p) ?_;refine #[s1.heap.objs.size,[s1.heap.objs.size],_,_,H1,rfl,I1.kept (t':=s1.toks) λb o e=>aU _ e,Dk a _,#[_,cQ _ rfl,rfl,rfl],λb hb=>?_,q];have e:b=s1.heap.objs.size:=by simpa using hb
  subst e;exact I1.fpOk (ai _) (I1.hok.fresh (ai _))
def xR {R:It->Hp->Prop}{E:Value->Shared->Prop}{lo hi:Int}{t u v:Tok}{tk:Nat}(I:Inv X LI U H s)(h1:-(2^62)<=lo)(h2:lo<2^62)(h3:-(2^62)<=hi)(h4:hi<2^62)
    (q:R (Itr lo (hi-lo).toNat) H):wpAny (model X.prog X.w) X.A (pyIter (.ref s.heap.objs.size)) (PIE X LI U tg R) E { s with heap:=s.heap.push { cls:=.type "range",data:=.fields (List.toArray [.int lo t,.int hi u,.int 1 v]) },toks:=tk }:=by
  refine wpAny_pyIter_range (IsRange.new ..) (small_one h1 h2 h3 h4) ?_;have I1:Inv X LI U H { s with heap:=s.heap.push { cls:=.type "range",data:=.fields (List.toArray [.int lo t,.int hi u,.int 1 v]) },toks:=tk }:=I.kept λb o e=>aU _ e;refine #[(s.heap.push { cls:=.type "range",data:=.fields (List.toArray [.int lo t,.int hi u,.int 1 v]) }).objs.size,[(s.heap.push { cls:=.type "range",data:=.fields (List.toArray [.int lo t,.int hi u,.int 1 v]) }).objs.size],_,_,H,rfl,
    I1.kept (t':=tk) λb o e=>aU _ e,Dl _ lo (hi-lo).toNat,?_,λb hb=>?_,q]
  · have e1:lo+((0:Nat):Int)*1=lo:=by simp
    have e2:(((hi-lo).toNat:Nat):Int)-((0:Nat):Int)=Builtin.Range.rangeSize lo hi 1:=by rw[rangeSize_one];split<;>lia
    show IsRangeIter _ _ (lo+((0:Nat):Int)*1) ((((hi-lo).toNat:Nat):Int)-((0:Nat):Int)) 1;rw[e1,e2];exact cQ _ rfl
  · have e:b=(s.heap.push { cls:=.type "range",data:=.fields (List.toArray [.int lo t,.int hi u,.int 1 v]) }).objs.size:=by simpa using hb
    subst e;exact I1.fpOk (ai _) (I1.hok.fresh (ai _))
inductive xS (R:It->Hp->Prop)(vs:List V)(H1:Hp):Prop
  | c:∀(j:Int),vs=[.int j]->-(2^62)<=j->j<2^62->R (Itr 0 j.toNat) H1->xS R vs H1
def Dm (ta:TA):TI:=λU H R=>ta U H λvs H1=>xS R vs H1
inductive xT (R:It->Hp->Prop)(vs:List V)(H1:Hp):Prop
  | c:∀(i j:Int),vs=[.int i,.int j]->(-(2^62)<=i/\i<2^62/\-(2^62)<=j/\j<2^62)->R (Itr i (j-i).toNat) H1->xT R vs H1
def Do (ta:TA):TI:=λU H R=>ta U H λvs H1=>xT R vs H1
def eQ {a:Expr}{p pos:Pos}(hg:Gl X "range")(hm:X.mg "range" = none)(ha:PA X [a] ta)(hs:starEach [a] X.env=[(false,eval a X.env)]:=by rfl):PI X tg (.Call (.Name "range" p) [a] [] pos) (Dm ta):=by
  intro LI s U H R I h;refine Call_ (gI I hg hm boot_range (PyProof.Rows.callWith_type1 (thn (ha pos LI s U H _ I h) λus s1 zq0=>?_) hs rfl));obtain ⟨vs,H1,I1,r1,q1⟩:=zq0;obtain ⟨j,e,q1,q2,q⟩:=q1;subst e;cases r1 with
  | cons r rr=>
    cases rr
    obtain ⟨t,rfl⟩:=r;exact call_range_1 (xR I1 (by lia) (by lia) q1 q2 (by simpa using q))
def ly {a b:Expr}{p pos:Pos}(hg:Gl X "range")(hm:X.mg "range" = none)(ha:PA X [a,b] ta)(hs:starEach [a,b] X.env=[(false,eval a X.env),(false,eval b X.env)]:=by rfl)(hs2:starEach [b] X.env=[(false,eval b X.env)]:=by rfl) :
    PI X tg (.Call (.Name "range" p) [a,b] [] pos) (Do ta):=by
  intro LI s U H R I h;refine Call_ (gI I hg hm boot_range (PyProof.Rows.callWith_type1 (thn (ha pos LI s U H _ I h) λus s1 zq0=>?_) (by rw[hs,hs2]) (by rw[hs2];rfl)));obtain ⟨vs,H1,I1,r1,q1⟩:=zq0;obtain ⟨i,j,e,⟨q1,q2,q3,q4⟩,q⟩:=q1;subst e;cases r1 with
  | cons r rr=>
    cases rr with
    | cons r' rr=>
      cases rr
      obtain ⟨t,rfl⟩:=r;obtain ⟨t',rfl⟩:=r';exact call_range_2 (xR I1 q1 q2 q3 q4 q)
def tFor (wi:TI)(g:TG)(tb:TS):TS:=λD U H=>wi U H λJ H1=>∃ W:Nat->Nat->St->Hp->Prop,(∃ m,W 0 m U H1)/\∀ i m U H,W i m U H->
  (J.stop i H/\D.nx U H)\/(J.go i H/\∃ N:St->Hp->Prop,(∀ U' H',N U' H'->∃ m',m'<m/\W (i+1) m' U' H')/\∀ x H',J.yld i H x H'->g x U H' λU2 H2=>tb { D with nx:=N,ct:=N,bk:=D.nx } U2 H2)
def jE (fp:List Addr)(h:Heap):List (Addr×Obj):=fp.filterMap λb=>(h.get? b).map λo=>(b,o)
def jF {fp:List Addr}{h:Heap}{b:Addr}{o:Obj}(hb:b∈fp)(e:h.get? b=some o):(b,o)∈jE fp h:=sf.mpr #[b,hb,by rw[e];rfl]
def Dp {p:Addr×Obj}(hp:p∈jE fp h):p.1∈fp/\h.get? p.1=some p.2:=by
  obtain ⟨b,hb,e⟩:=sf.mp hp;cases q:h.get? b with
  | none=>rw[q]at e;cases e
  | some o=>
    rw[q]at e;have e':(b,o)=p:=aK e;subst e';exact #[hb,q]
def Inv.pinned {fp:List Addr}(I:Inv X LI U H s)(hf:∀ b∈fp,FpOk X LI H b)(ho:∀ b∈fp,∃ o,s.heap.get? b=some o/\∀ v,o.data≠.cell v):Inv X (LI++jE fp s.heap) U H s:=
  I.pins_of λp hp=>(bj.mp hp).elim (λz=>I.pin p (bV _ z)) λz=>by
    obtain ⟨hb,e⟩:=Dp z;obtain ⟨f0,f1,f2,_⟩:=hf p.1 hb;obtain ⟨o,e',d⟩:=ho p.1 hb;rw[e]at e';cases e'
    exact #[e,f0,f1,f2,d]
def Inv.unpinned {LI pl:List (Addr×Obj)}(I:Inv X (LI++pl) U H s):Inv X LI U H s:=I.pins_of λp hp=>I.pin p (bV _ (eE _ hp))
def bW {pos:Pos}(hp:PassesOwn (model X.prog X.w) X.A X.env X.xe)(hc:X.calm=true)(hi:PI X tg iter wi)(hg:PG X tg g)(hb:PSs X body tb)
    (hs:∀ x,foldedSetIterable iter X.env x=pure x:=by intro _;rfl):PS X (.For tg iter body [] pos) (tFor wi g tb):=by
  intro LI s U H D I h;refine wpAny_For (thn (hi LI s U H _ I h) λv s1 h1=>thn h1 λitv s2 h2=>?_) hs;obtain ⟨it,fp,tn,J,H2,e,I2,T,st2,f2,W,⟨m0,w0⟩,turn⟩:=h2;subst e;have stat:∀{H':Hp},(∀ b∈fp,H' b=none)->∀ b∈fp,FpOk X LI H' b:=λhn b hb=>#[hn b hb,(f2 b hb).2];refine codeAny_forLoop_any (λn s'=>∃ i U' H',Inv X LI U' H' s'/\tn i s'.heap/\(∀ b∈fp,H' b=none)/\W i n U' H') ?_ m0 #[0,U,H2,I2,st2,λb hb=>(f2 b hb).1,w0];rintro n s3 ⟨i,U3,H3,I3,st3,fr3,w3⟩;rcases turn i n U3 H3 w3 with ⟨stop,qn⟩|⟨go,N,hN,step⟩
  · refine wpAny_passesOwn hp (thn (T.done X rfl rfl rfl hc i LI s3 U3 H3 X.xe I3 (stat fr3) st3 stop) λr s4 zq0=>?_)
    obtain ⟨hr,I4⟩:=zq0;subst hr;exact wpAny_execs_nil #[U3,H3,I4,qn]
  · refine wpAny_passesOwn hp (thn (T.item X rfl rfl rfl hc i LI s3 U3 H3 X.xe I3 (stat fr3) st3 go) λr s4 zq0=>?_)
    obtain ⟨u,hr,h4⟩:=zq0;subst hr;refine wpAny_passesOwn hp (thn h4 λ_ s5 zq0=>?_);obtain ⟨x,H5,I5,r5,y5,st5,fr5⟩:=zq0;have I5':=I5.pinned (stat fr5) (T.obj _ _ st5);refine wpAny_passesOwn hp (thn (hg _ s5 U3 H5 x u _ I5' r5 (step x H5 y5)) λ_ s6 zq0=>?_);obtain ⟨U6,H6,I6,q6⟩:=zq0;refine wpAny_passesOwn hp (thn (hb _ s6 U6 H6 _ I6 q6) λf s7 q7=>?_);have again:∀{U7:St} {H7:Hp},Inv X (LI++jE fp s5.heap) U7 H7 s7->N U7 H7->∃ m,m<n/\∃ i U' H',Inv X LI U' H' s7/\tn i s7.heap/\(∀ b∈fp,H' b=none)/\W i m U' H':=λ{U7 H7} I7 n7=>by
      obtain ⟨m',hm,w7⟩:=hN U7 H7 n7;refine #[m',hm,i+1,U7,H7,I7.unpinned,T.keep _ _ _ st5 λb hb o e=>(I7.pin (b,o) (bV _ (bV _ (jF hb e)))).1,λb hb=>?_,w7];obtain ⟨o,e,d⟩:=T.obj _ _ st5 b hb;exact (I7.pin (b,o) (bV _ (bV _ (jF hb e)))).2.1
    cases f with
    | next=>obtain ⟨U7,H7,I7,n7⟩:=q7;exact again I7 n7
    | cont=>obtain ⟨U7,H7,I7,n7⟩:=q7;exact again I7 n7
    | brk=>obtain ⟨U7,H7,I7,q7⟩:=q7;exact #[U7,H7,I7.unpinned,q7]
    | ret v=>obtain ⟨x7,U7,H7,I7,r7,q7⟩:=q7;exact #[x7,U7,H7,I7.unpinned,r7,q7]
end
def lz {K:Frag}{a:Addr}{g:TG}{tb:TS}{D:Ends}{U:St}{H:Hp}(Pv:Nat->St->Hp->Prop)(h0:Pv 0 U H)(hl:∀ i U H,i<=xs.length->Pv i U H->SqL K H a xs)
    (hs:∀ i x U H,xs[i]?=some x->Pv i U H->g x U H λU2 H2=>tb { D with nx:=Pv (i+1),ct:=Pv (i+1),bk:=D.nx } U2 H2) (hd:∀ U H,Pv xs.length U H->D.nx U H) :
    ∃ W:Nat->Nat->St->Hp->Prop,(∃ m,W 0 m U H)/\∀ i m U H,W i m U H->
      ((Itl K a).stop i H/\D.nx U H)\/((Itl K a).go i H/\∃ N:St->Hp->Prop,(∀ U' H',N U' H'->∃ m',m'<m/\W (i+1) m' U' H')/\∀ x H',(Itl K a).yld i H x H'->g x U H' λU2 H2=>tb { D with nx:=N,ct:=N,bk:=D.nx } U2 H2):=by
  refine #[λi m U H=>m=xs.length-i/\i<=xs.length/\Pv i U H,#[xs.length,by simp,bG _,h0],?_];rintro i m U H ⟨rfl,hi,p⟩;have q:=hl i U H hi p;by_cases hlt:i<xs.length
  · refine .inr #[#[xs,xs[i],q,by simp[hlt]],Pv (i+1),λU' H' p'=>#[xs.length-(i+1),by lia,rfl,hlt,p'],λx H' y=>?_]
    obtain ⟨e,y⟩:=y;subst e;exact hs i x U _ (y xs q) p
  · have e:i=xs.length:=by lia
    subst e;exact .inl #[#[xs,q,ai _],hd U H p]
def nK {K:Frag}{a:Addr}{g:TG}{tb:TS}{D:Ends}{U:St}{H:Hp}(Pv:Nat->St->Hp->Prop)(h0:Pv 0 U H)(hl:∀ i U H,i<=xs.length->Pv i U H->SqT K H a xs)
    (hs:∀ i x U H,xs[i]?=some x->Pv i U H->g x U H λU2 H2=>tb { D with nx:=Pv (i+1),ct:=Pv (i+1),bk:=D.nx } U2 H2) (hd:∀ U H,Pv xs.length U H->D.nx U H) :
    ∃ W:Nat->Nat->St->Hp->Prop,(∃ m,W 0 m U H)/\∀ i m U H,W i m U H->
      ((Itt K a).stop i H/\D.nx U H)\/((Itt K a).go i H/\∃ N:St->Hp->Prop,(∀ U' H',N U' H'->∃ m',m'<m/\W (i+1) m' U' H')/\∀ x H',(Itt K a).yld i H x H'->g x U H' λU2 H2=>tb { D with nx:=N,ct:=N,bk:=D.nx } U2 H2):=by
  refine #[λi m U H=>m=xs.length-i/\i<=xs.length/\Pv i U H,#[xs.length,by simp,bG _,h0],?_];rintro i m U H ⟨rfl,hi,p⟩;have q:=hl i U H hi p;by_cases hlt:i<xs.length
  · refine .inr #[#[xs,xs[i],q,by simp[hlt]],Pv (i+1),λU' H' p'=>#[xs.length-(i+1),by lia,rfl,hlt,p'],λx H' y=>?_]
    obtain ⟨e,y⟩:=y;subst e;exact hs i x U _ (y xs q) p
  · have e:i=xs.length:=by lia
    subst e;exact .inl #[#[xs,q,ai _],hd U H p]
def fB {lo:Int}{n:Nat}{g:TG}{tb:TS}{D:Ends}{U:St}{H:Hp}(Pv:Nat->St->Hp->Prop)(h0:Pv 0 U H)
    (hs:∀ i U H,i<n->Pv i U H->g (.int (lo+i)) U H λU2 H2=>tb { D with nx:=Pv (i+1),ct:=Pv (i+1),bk:=D.nx } U2 H2) (hd:∀ U H,Pv n U H->D.nx U H) :
    ∃ W:Nat->Nat->St->Hp->Prop,(∃ m,W 0 m U H)/\∀ i m U H,W i m U H->
      ((Itr lo n).stop i H/\D.nx U H)\/((Itr lo n).go i H/\∃ N:St->Hp->Prop,(∀ U' H',N U' H'->∃ m',m'<m/\W (i+1) m' U' H')/\∀ x H',(Itr lo n).yld i H x H'->g x U H' λU2 H2=>tb { D with nx:=N,ct:=N,bk:=D.nx } U2 H2):=by
  refine #[λi m U H=>m=n-i/\i<=n/\Pv i U H,#[n,by simp,bG _,h0],?_];rintro i m U H ⟨rfl,hi,p⟩;by_cases hlt:i<n
  · refine .inr #[hlt,Pv (i+1),λU' H' p'=>#[n-(i+1),by lia,rfl,hlt,p'],λx H' y=>?_]
    obtain ⟨e,y⟩:=y;subst e y;exact hs i U _ hlt p
  · have e:i=n:=by lia
    subst e;exact .inl #[ai _,hd U H p]
def xU {c:TT}{tb:TS}{D:Ends}{U:St}{H:Hp}(Pv:St->Hp->Prop)(μ:St->Hp->Nat)(h0:Pv U H)
    (hs:∀ U H,Pv U H->c U H λb H1=>if b=true then tb { D with nx:=λU' H'=>Pv U' H'/\μ U' H'<μ U H,ct:=λU' H'=>Pv U' H'/\μ U' H'<μ U H,bk:=D.nx } U H1 else D.nx U H1)
    (mono:∀ U H Q Q',(∀ b H1,Q b H1->Q' b H1)->c U H Q->c U H Q'):sS c tb D U H:=by
  refine #[λm U H=>m=μ U H/\Pv U H,#[_,rfl,h0],?_];rintro m U H ⟨rfl,p⟩;refine mono U H _ _ (λb H1 q=>?_) (hs U H p);cases b with
  | true=>exact #[_,λU' H' ⟨p',l⟩=>#[_,l,rfl,p'],q]
  | false=>exact q
abbrev R2:=V->V->Hp->VK->Prop
def OpR (X:Cx)(f:Value->Value->Sem Value)(r:R2):Prop:=
  ∀(LI:List (Addr×Obj)) (s:Shared) (U:St) (H:Hp) (x y:V) (v u:Value) (Q:VK),Inv X LI U H s->RelV x v->RelV y u->r x y H Q->
    wpAny (model X.prog X.w) X.A (f v u) (EP X LI U Q) X.xe s
def UnR (X:Cx)(f:Value->Sem Value)(r:V->Hp->VK->Prop):Prop:=
  ∀(LI:List (Addr×Obj)) (s:Shared) (U:St) (H:Hp) (x:V) (v:Value) (Q:VK),Inv X LI U H s->RelV x v->r x H Q->
    wpAny (model X.prog X.w) X.A (f v) (EP X LI U Q) X.xe s
def cT (X:Cx)(f:Value)(r:List V->Hp->VK->Prop):Prop:=
  ∀(LI:List (Addr×Obj)) (s:Shared) (U:St) (H:Hp) (xs:List V) (us:List Value) (Q:VK),Inv X LI U H s->Vals xs us->r xs H Q->
    wpAny (model X.prog X.w) X.A (call f us) (EP X LI U Q) X.xe s
def tOp (r:R2)(ta tb:TE):TE:=λU H Q=>ta U H λx H1=>tb U H1 λy H2=>r x y H2 Q
def tUn (r:V->Hp->VK->Prop)(ta:TE):TE:=λU H Q=>ta U H λx H1=>r x H1 Q
inductive rI (C:Int->Int->Prop)(g:Int->Int->V)(x:V)(y:V)(H:Hp)(Q:VK):Prop
  | c:∀ i j,x=.int i->y=.int j->C i j->Q (g i j) H->rI C g x y H Q
inductive rI0 (g:Int->Int->V)(x:V)(y:V)(H:Hp)(Q:VK):Prop
  | c:∀ i j,x=.int i->y=.int j->Q (g i j) H->rI0 g x y H Q
inductive rU (g:Int->V)(x:V)(H:Hp)(Q:VK):Prop
  | c:∀ i,x=.int i->Q (g i) H->rU g x H Q
section
variable {X:Cx}{a b c:Expr}{ta tb tc:TE}{pos:Pos}
def binT (ha:PE X a ta)(hb:PE X b tb){R:V->V->Hp->Prop}(I:Inv X LI U H s)
    (h:ta U H λx H1=>tb U H1 λy H2=>R x y H2) {Q:Value->Shared->Prop} {f:Value->Value->Sem Value}
    (hf:∀ v u s2 x y H2,Inv X LI U H2 s2->RelV x v->RelV y u->R x y H2->wpAny (model X.prog X.w) X.A (f v u) Q X.xe s2) :
    wpAny (model X.prog X.w) X.A (eval a X.env) (λv s₁=>wpAny (model X.prog X.w) X.A (eval b X.env) (λu s₂=>wpAny (model X.prog X.w) X.A (f v u) Q X.xe s₂) X.xe s₁) X.xe s:=by
  refine thn (ha LI s U H _ I h) λv s1 zq0=>?_;obtain ⟨x,H1,I1,r1,q1⟩:=zq0;refine thn (hb LI s1 U H1 _ I1 q1) λu s2 zq0=>?_;obtain ⟨y,H2,I2,r2,q2⟩:=zq0;exact hf v u s2 x y H2 I2 r1 r2 q2
def ax {op:Operator}(ho:OpR X (binaryOp op) r)(ha:PE X a ta)(hb:PE X b tb):PE X (.BinOp a op b pos) (tOp r ta tb):=by
  intro LI s U H Q I h;exact wpAny_BinOp (binT ha hb I h λv u s2 x y H2 I2 rx ry q=>ho LI s2 U H2 x y v u Q I2 rx ry q)
def fc {op:UnaryOp}(ho:UnR X (unaryOp op) r)(ha:PE X a ta):PE X (.UnaryOp op a pos) (tUn r ta):=by
  intro LI s U H Q I h;exact UnaryOp_ (thn (ha LI s U H _ I h) λv s1 zq0=>(by obtain ⟨x,H1,I1,r1,q1⟩:=zq0;exact ho LI s1 U H1 x v Q I1 r1 q1))
def opI {f:Value->Value->Sem Value}{C:Int->Int->Prop}{g:Int->Int->Int}
    (rule:∀(i j:Int) (t u:Tok) (s:Shared) (Q:Value->Shared->Prop) (E:Value->Shared->Prop),C i j->Q (.int (g i j) s.toks) { s with toks:=s.toks+1 }->wpAny (model X.prog X.w) X.A (f (.int i t) (.int j u)) Q E s) :
    OpR X f (rI C λi j=>.int (g i j)):=by
  intro LI s U H x y v u Q I rx ry h;obtain ⟨i,j,rfl,rfl,hc,q⟩:=h;obtain ⟨t,rfl⟩:=rx;obtain ⟨t',rfl⟩:=ry;exact rule i j t t' s _ _ hc #[.int (g i j),H,I.tok _,#[_,rfl],q]
def opI0 {f:Value->Value->Sem Value}{g:Int->Int->Int}
    (rule:∀(i j:Int) (t u:Tok) (s:Shared) (Q:Value->Shared->Prop) (E:Value->Shared->Prop),Q (.int (g i j) s.toks) { s with toks:=s.toks+1 }->wpAny (model X.prog X.w) X.A (f (.int i t) (.int j u)) Q E s) :
    OpR X f (rI0 λi j=>.int (g i j)):=by
  intro LI s U H x y v u Q I rx ry h;obtain ⟨i,j,rfl,rfl,q⟩:=h;obtain ⟨t,rfl⟩:=rx;obtain ⟨t',rfl⟩:=ry;exact rule i j t t' s _ _ #[.int (g i j),H,I.tok _,#[_,rfl],q]
def opB0 {f:Value->Value->Sem Value}{g:Int->Int->Bool}
    (rule:∀(i j:Int) (t u:Tok) (s:Shared) (Q:Value->Shared->Prop) (E:Value->Shared->Prop),Q (.bool (g i j)) s->wpAny (model X.prog X.w) X.A (f (.int i t) (.int j u)) Q E s) :
    OpR X f (rI0 λi j=>.bl (g i j)):=by
  intro LI s U H x y v u Q I rx ry h;obtain ⟨i,j,rfl,rfl,q⟩:=h;obtain ⟨t,rfl⟩:=rx;obtain ⟨t',rfl⟩:=ry;exact rule i j t t' s _ _ #[.bl (g i j),H,I,rfl,q]
def CDiv (i j:Int):Prop:=0<j/\j<1073741824
def CPow (i j:Int):Prop:=0<=j/\j<=1000000/\i.natAbs<2^64
def CMul (i j:Int):Prop:=(-(2^64)<i/\i<2^64)\/(-(2^64)<j/\j<2^64)
def CMul.ok (h:CMul i j):IntMulOk i j:=by
  rcases h with ⟨h1,h2⟩|⟨h1,h2⟩
  · exact .of_left (intBits_le_64 h1 h2)
  · exact .of_right (intBits_le_64 h1 h2)
def Dq (k:Nat):(0:Int)<=2^k:=by
  rw[two_pow_cast];exact iF _
def bH:OpR X (binaryOp .Add) (rI0 λi j=>.int (i+j)):=opI0 λ_ _ _ _ _ _ _ q=>add_int q
def c4:OpR X (binaryOp .Sub) (rI0 λi j=>.int (i-j)):=opI0 λ_ _ _ _ _ _ _ q=>sub_int q
def dm:OpR X (binaryOp .Mult) (rI CMul λi j=>.int (i*j)):=opI λ_ _ _ _ _ _ _ hc q=>mul_int q hc.ok
def jG:OpR X (binaryOp .FloorDiv) (rI CDiv λi j=>.int (i/j)):=opI λi j _ _ _ _ _ hc q=>by
  have h1:(0:Int)<j:=hc.1;have h2:j<1073741824:=hc.2;exact floordiv_int (by lia) (by rw[Int.fdiv_eq_ediv_of_nonneg i (by lia)];exact q) (.inl (PyProof.noPylong_small (by lia)))
def fD:OpR X (binaryOp .Mod) (rI (λ_ j=>0<j) λi j=>.int (i%j)):=opI λi j _ _ _ _ _ hc q=>by
  have h1:(0:Int)<j:=hc;exact mod_int' (by lia) (by rw[Int.fmod_eq_emod_of_nonneg i (by lia)];exact q)
def jH:OpR X (binaryOp .Pow) (rI CPow λi j=>.int (i^j.toNat)):=opI λ_ _ _ _ _ _ _ hc q=>pow_int_small hc.1 hc.2.1 hc.2.2 q
def Dr:OpR X (binaryOp .RShift) (rI (λ_ j=>0<=j) λi j=>.int (i/2^j.toNat)):=opI λi j _ _ _ _ _ hc q=>
  rshift_int hc (by rw[Int.fdiv_eq_ediv_of_nonneg i (Dq _)];exact q)
def xV:OpR X (binaryOp .BitAnd) (rI0 λi j=>.int (Builtin.bitAnd i j)):=opI0 λ_ _ _ _ _ _ _ q=>and_int q
def Ds:OpR X (binaryOp .BitXor) (rI0 λi j=>.int (Builtin.bitXor i j)):=opI0 λ_ _ _ _ _ _ _ q=>xor_int q
def unI {f:Value->Sem Value}{g:Int->Int}
    (rule:∀(i:Int) (t:Tok) (s:Shared) (Q:Value->Shared->Prop) (E:Value->Shared->Prop),Q (.int (g i) s.toks) { s with toks:=s.toks+1 }->wpAny (model X.prog X.w) X.A (f (.int i t)) Q E s) :
    UnR X f (rU λi=>.int (g i)):=by
  intro LI s U H x v Q I rx h;obtain ⟨i,rfl,q⟩:=h;obtain ⟨t,rfl⟩:=rx;exact rule i t s _ _ #[.int (g i),H,I.tok _,#[_,rfl],q]
def fe:UnR X (unaryOp .USub) (rU λi=>.int (-i)):=unI λ_ _ _ _ _ q=>neg_int q
end
def scal:V->V->Bool
  | .non,.non=>true|.non,.int _=>true|.int _,.non=>true|.non,.bl _=>true|.bl _,.non=>true|.non,.str _=>true|.str _,.non=>true
  | .int _,.int _=>true|.bl _,.bl _=>true|.str _,.str _=>true|.byt _,.byt _=>true
  | .int _,.str _=>true|.str _,.int _=>true|.bl _,.str _=>true|.str _,.bl _=>true
  | _,_=>false
inductive rEq (x:V)(y:V)(H:Hp)(Q:VK):Prop
  | c:scal x y=true->Q (.bl (decide (x=y))) H->rEq x y H Q
inductive rNe (x:V)(y:V)(H:Hp)(Q:VK):Prop
  | c:scal x y=true->Q (.bl (!decide (x=y))) H->rNe x y H Q
def xW {i j:Int}:decide (V.int i=V.int j)=(i==j):=by
  rw[mS];simp
def xX {i j:Bool}:decide (V.bl i=V.bl j)=(i==j):=by
  rw[mS];simp
def xY {i j:Str}:decide (V.str i=V.str j)=(i==j):=by
  rw[mS];simp
def xZ {i j:Array UInt8}:decide (V.byt i=V.byt j)=(i.toList==j.toList):=by
  rw[mS];cases i
  cases j
  simp
section
variable {X:Cx}{a b c:Expr}{ta tb tc:TE}{pos:Pos}
def bT {Q:VK}{k k':Bool}(I:Inv X LI U H s)(q:Q (.bl k) H)(e:k=k'):EP X LI U Q (.bool k') s:=by
  subst e;exact #[.bl k,H,I,rfl,q]
def c9:OpR X (compareOp .Eq) rEq:=by
  intro LI s U H x y v u Q I rx ry h;obtain ⟨hs,q⟩:=h;cases x with
  | non=>
    cases rx
    cases y with
    | non=>cases ry;exact PySem.EqNone.eq_none_none (bT I q (by simp))
    | bl j=>cases ry;exact PySem.EqNone.eq_none_bool (bT I q (by simp))
    | int j=>obtain ⟨t',rfl⟩:=ry;exact PySem.EqNone.eq_none_int (bT I q (by simp))
    | str j=>obtain ⟨t',rfl⟩:=ry;exact PySem.EqNone.eq_none_str (bT I q (by simp))
    | _=>exact absurd (show false=true from hs) bY
  | bl i=>
    cases rx
    cases y with
    | non=>cases ry;exact PySem.EqNone.eq_bool_none (bT I q (by simp))
    | bl j=>cases ry;exact eq_bool (bT I q xX)
    | str j=>obtain ⟨t',rfl⟩:=ry;exact PySem.EqMixed.eq_bool_str (bT I q (by simp))
    | _=>exact absurd (show false=true from hs) bY
  | int i=>
    obtain ⟨t,rfl⟩:=rx;cases y with
    | non=>cases ry;exact PySem.EqNone.eq_int_none (bT I q (by simp))
    | int j=>obtain ⟨t',rfl⟩:=ry;exact eq_int (bT I q xW)
    | str j=>obtain ⟨t',rfl⟩:=ry;exact PySem.EqMixed.eq_int_str (bT I q (by simp))
    | _=>exact absurd (show false=true from hs) bY
  | str i=>
    obtain ⟨t,rfl⟩:=rx;cases y with
    | non=>cases ry;exact PySem.EqNone.eq_str_none (bT I q (by simp))
    | bl j=>cases ry;exact PySem.EqMixed.eq_str_bool (bT I q (by simp))
    | int j=>obtain ⟨t',rfl⟩:=ry;exact PySem.EqMixed.eq_str_int (bT I q (by simp))
    | str j=>obtain ⟨t',rfl⟩:=ry;exact eq_str (bT I q xY)
    | _=>exact absurd (show false=true from hs) bY
  | byt i=>
    obtain ⟨t,rfl⟩:=rx;cases y with
    | byt j=>obtain ⟨t',rfl⟩:=ry;exact W.eq_bytes (bT I q xZ)
    | _=>exact absurd (show false=true from hs) bY
  | _=>cases y<;>exact absurd (show false=true from hs) bY
def sT:OpR X (compareOp .NotEq) rNe:=by
  intro LI s U H x y v u Q I rx ry h;obtain ⟨hs,q⟩:=h;cases x with
  | non=>
    cases rx
    cases y with
    | non=>cases ry;exact PySem.EqNone.ne_none_none (bT I q (by simp))
    | bl j=>cases ry;exact PySem.EqNone.ne_none_bool (bT I q (by simp))
    | int j=>obtain ⟨t',rfl⟩:=ry;exact PySem.EqNone.ne_none_int (bT I q (by simp))
    | str j=>obtain ⟨t',rfl⟩:=ry;exact PySem.EqNone.ne_none_str (bT I q (by simp))
    | _=>exact absurd (show false=true from hs) bY
  | bl i=>
    cases rx
    cases y with
    | non=>cases ry;exact PySem.EqNone.ne_bool_none (bT I q (by simp))
    | bl j=>cases ry;exact ne_bool (bT I q (congrArg not xX))
    | str j=>obtain ⟨t',rfl⟩:=ry;exact PySem.EqMixed.ne_bool_str (bT I q (by simp))
    | _=>exact absurd (show false=true from hs) bY
  | int i=>
    obtain ⟨t,rfl⟩:=rx;cases y with
    | non=>cases ry;exact PySem.EqNone.ne_int_none (bT I q (by simp))
    | int j=>obtain ⟨t',rfl⟩:=ry;exact ne_int (bT I q (congrArg not xW))
    | str j=>obtain ⟨t',rfl⟩:=ry;exact PySem.EqMixed.ne_int_str (bT I q (by simp))
    | _=>exact absurd (show false=true from hs) bY
  | str i=>
    obtain ⟨t,rfl⟩:=rx;cases y with
    | non=>cases ry;exact PySem.EqNone.ne_str_none (bT I q (by simp))
    | bl j=>cases ry;exact PySem.EqMixed.ne_str_bool (bT I q (by simp))
    | int j=>obtain ⟨t',rfl⟩:=ry;exact PySem.EqMixed.ne_str_int (bT I q (by simp))
    | str j=>obtain ⟨t',rfl⟩:=ry;exact ne_str (bT I q (congrArg not xY))
    | _=>exact absurd (show false=true from hs) bY
  | byt i=>
    obtain ⟨t,rfl⟩:=rx;cases y with
    | byt j=>obtain ⟨t',rfl⟩:=ry;exact W.ne_bytes (bT I q (congrArg not xZ))
    | _=>exact absurd (show false=true from hs) bY
  | _=>cases y<;>exact absurd (show false=true from hs) bY
def fS:OpR X (compareOp .Lt) (rI0 λi j=>.bl (decide (i<j))):=opB0 λ_ _ _ _ _ _ _ q=>lt_int q
def ya:OpR X (compareOp .LtE) (rI0 λi j=>.bl (decide (i<=j))):=opB0 λ_ _ _ _ _ _ _ q=>le_int q
def lA:OpR X (compareOp .Gt) (rI0 λi j=>.bl (decide (j<i))):=opB0 λ_ _ _ _ _ _ _ q=>gt_int q
def yb:OpR X (compareOp .GtE) (rI0 λi j=>.bl (decide (j<=i))):=opB0 λ_ _ _ _ _ _ _ q=>ge_int q
def bp (b:Expr){op:CmpOp}(h:op≠.In:=by decide)(h2:op≠.NotIn:=by decide):behindInMarks op b=false:=by
  have e1:(op==CmpOp.In)=false:=by cases op<;>first|rfl|exact absurd rfl h
  have e2:(op==CmpOp.NotIn)=false:=by cases op<;>first|rfl|exact absurd rfl h2
  cases b<;>simp[behindInMarks,e1,e2]
def Dt {op:CmpOp}(ho:OpR X (compareOp op) r)(ha:PE X a ta)(hb:PE X b tb)(hm:behindInMarks op b=false):PE X (.Compare a [op] [b] pos) (tOp r ta tb):=by
  intro LI s U H Q I h;exact wpAny_Compare1 (binT ha hb I h λv u s2 x y H2 I2 rx ry q=>ho LI s2 U H2 x y v u Q I2 rx ry q) hm
inductive yc (Q:Bool->Hp->Prop)(x:V)(H':Hp):Prop
  | c:∀ k,x=.bl k->Q k H'->yc Q x H'
def sU (t:TE):TT:=λU H Q=>t U H λx H'=>yc Q x H'
def aZ {op:CmpOp}(ho:OpR X (compareOp op) r)(ha:PE X a ta)(hb:PE X b tb)(hm:behindInMarks op b=false):PT X (.Compare a [op] [b] pos) (sU (tOp r ta tb)):=by
  intro LI s U H Q I h;refine wpAny_isTrue_Compare1 (thn (ha LI s U H _ I h) λv s1 ⟨x,H1,I1,r1,q1⟩=>thn (hb LI s1 U H1 _ I1 q1) λu s2 ⟨y,H2,I2,r2,q2⟩=>
    thn (ho LI s2 U H2 x y v u _ I2 r1 r2 q2) λc s3 ⟨z,H3,I3,r3,k,e,q3⟩=>?_) hm
  subst e;cases r3
  exact wpAny_truthy_bool #[H3,I3,q3]
inductive yd (r':R2)(tc:TE)(U:St)(Q:VK)(y:V)(z:V)(H3:Hp):Prop
  | c:∀ k,z=.bl k->(if k=true then tc U H3 λw' H4=>r' y w' H4 Q else Q (.bl false) H3)->yd r' tc U Q y z H3
def ye (r r':R2)(ta tb tc:TE):TE:=λU H Q=>ta U H λx H1=>tb U H1 λy H2=>r x y H2 λz H3=>yd r' tc U Q y z H3
def Du {op op':CmpOp}(ho:OpR X (compareOp op) r)(ho':OpR X (compareOp op') r')(ha:PE X a ta)(hb:PE X b tb)(hc:PE X c tc)
    (hm:lastMarks [op,op'] [b,c]=false:=by with_unfolding_all rfl):PE X (.Compare a [op,op'] [b,c] pos) (ye r r' ta tb tc):=by
  intro LI s U H Q I h;refine Compare_chain (thn (ha LI s U H _ I h) λv s1 ⟨x,H1,I1,r1,q1⟩=>chain_link (thn (hb LI s1 U H1 _ I1 q1) λu s2 ⟨y,H2,I2,r2,q2⟩=>
    thn (ho LI s2 U H2 x y v u _ I2 r1 r2 q2) λd s3 ⟨z,H3,I3,r3,k,e,q3⟩=>?_)) hm
  subst e;cases r3
  refine wpAny_truthy_bool ?_;cases k with
  | false=>exact ite_ff #[.bl false,H3,I3,rfl,q3]
  | true=>exact ite_tt (chain_last (thn (hc LI s3 U H3 _ I3 q3) λw' s4 ⟨z',H4,I4,r4,q4⟩=>ho' LI s4 U H4 y z' u w' Q I4 r2 r4 q4))
def Dv {op op':CmpOp}(ho:OpR X (compareOp op) r)(ho':OpR X (compareOp op') r')(ha:PE X a ta)(hb:PE X b tb)(hc:PE X c tc)
    (hm:lastMarks [op,op'] [b,c]=false:=by with_unfolding_all rfl):PT X (.Compare a [op,op'] [b,c] pos) (sU (ye r r' ta tb tc)):=by
  intro LI s U H Q I h;refine isTrue_chain (thn (ha LI s U H _ I h) λv s1 ⟨x,H1,I1,r1,q1⟩=>test_link (thn (hb LI s1 U H1 _ I1 q1) λu s2 ⟨y,H2,I2,r2,q2⟩=>
    thn (ho LI s2 U H2 x y v u _ I2 r1 r2 q2) λd s3 ⟨z,H3,I3,r3,k,e,q3⟩=>?_)) hm
  subst e;cases r3
  refine wpAny_truthy_bool ?_;cases k with
  | false=>
    obtain ⟨k',e',q'⟩:=q3;cases e'
    exact ite_ff #[H3,I3,q']
  | true=>
    refine ite_tt (test_last (thn (hc LI s3 U H3 _ I3 q3) λw' s4 zq0=>?_));obtain ⟨z',H4,I4,r4,q4⟩:=zq0;refine thn (ho' LI s4 U H4 y z' u w' _ I4 r2 r4 q4) λd' s5 cL=>?_;obtain ⟨z2,H5,I5,r5,k2,e2,q5⟩:=cL;subst e2;cases r5
    exact wpAny_truthy_bool #[H5,I5,q5]
def nM:(sizeLine:Nat)<2^63:=by rw[sizeLine_eq];decide
def fE {x:V}{us:List Value}(r:Vals [x] us):∃ u,us=[u]/\RelV x u:=by
  cases r with
  | cons r1 r2=>cases r2;exact #[_,rfl,r1]
def gM {x y:V}{us:List Value}(r:Vals [x,y] us):∃ u w',us=[u,w']/\RelV x u/\RelV y w':=by
  cases r with
  | cons r1 r2=>
    cases r2 with
    | cons r3 r4=>cases r4;exact #[_,_,rfl,r1,r3]
def yf:cT X (.builtin "abs") (λxs H Q=>∃ i,xs=[.int i]/\Q (.int (if i<0 then -i else i)) H):=by
  intro LI s U H xs us Q I r h;obtain ⟨i,rfl,q⟩:=h;obtain ⟨u,rfl,t,rfl⟩:=fE r;exact call_abs_int λu tk=>#[.int (if i<0 then -i else i),H,I.tok _,#[_,rfl],q]
def sV (hc:X.calm=true):cT X (.builtin "max") (λxs H Q=>∃ i j,xs=[.int i,.int j]/\Q (.int (if j>i then j else i)) H):=by
  intro LI s U H xs us Q I r h;obtain ⟨i,j,rfl,q⟩:=h;obtain ⟨u,w',rfl,⟨t,rfl⟩,⟨t',rfl⟩⟩:=gM r;refine max_two_ints (I.ok.hd hc) λh' tk k=>#[_,H,I.kept k,?_,q];by_cases hj:j>i
  · rw[af hj,af hj];exact #[_,rfl]
  · rw[ag hj,ag hj];exact #[_,rfl]
def Dw (hc:X.calm=true):cT X (.builtin "min") (λxs H Q=>∃ i j,xs=[.int i,.int j]/\Q (.int (if j<i then j else i)) H):=by
  intro LI s U H xs us Q I r h;obtain ⟨i,j,rfl,q⟩:=h;obtain ⟨u,w',rfl,⟨t,rfl⟩,⟨t',rfl⟩⟩:=gM r;refine min_two_ints (I.ok.hd hc) λh' tk k=>#[_,H,I.kept k,?_,q];by_cases hj:j<i
  · rw[af hj,af hj];exact #[_,rfl]
  · rw[ag hj,ag hj];exact #[_,rfl]
end
structure ObjM (h:Heap)(x dx C:Addr)(mA:Str->Option Value):Prop where
  obj:h.get? x=some (W.instObj C dx)
  ns:h.Ns1 dx mA
  ne:dx≠x
def Dx {h:Heap}{dx:Addr}{mA:Str->Option Value}(n:h.Ns1 dx mA):∃ od,h.get? dx=some od/\∀ name,W.lookIn name od=some (mA name):=by
  obtain ⟨o,es,ep,ho,hd,hk,_,hm⟩:=n;refine #[o,ho,λname=>?_];have e:=hm name;unfold nsFind findBy at e;rw[<-Array.find?_toList]at e;unfold W.lookIn;rw[hd];dsimp only;split
  · rename_i y q
    rw[q]at e;exact congrArg some e
  · rename_i q
    rw[q]at e;have a:es.toList.any (·.refKey)=false:=by
      rw[List.any_eq_false];intro y hy;obtain ⟨z,t,hkey⟩:=hk y (Array.mem_toList_iff.mp hy);simp[DictEntry.refKey,hkey]
    have a':¬ es.toList.any (·.refKey)=true:=by rw[a];exact bY
    rw[ag a'];exact congrArg some e
def ObjM.look (I:ObjM h x dx C mA):∃ od,W.InstAt h x (W.instObj C dx) C (some od)/\∀ name,W.lookIn name od=some (mA name):=
  let ⟨od,ho,hl⟩:=Dx I.ns
  #[od,#[I.obj,rfl,rfl,ho],hl]
def RelO.some_of {v:V}{o:Option Value}(r:RelO (some v) o):∃ u,o=some u/\RelV v u:=by
  cases o with
  | none=>exact (show False from r).elim
  | some u=>exact #[u,rfl,r]
section
variable {P:Program}{w:World}{H H':Hp}{h h':Heap}{a C dx:Addr}{fs fs':List (Str×V)}
def Dy (hok:HOk P w H h)(e:H a=some (.ins C dx fs)):∃ mA,ObjM h a dx C mA/\(∀ f,RelO (fs.lookup f) (mA f))/\PySem.Within mA (fs.map (·.1))/\fs.length<=1000/\H dx=some (.own a):=by
  obtain ⟨d,z,ne,ob,mA,n,r,q⟩:=(show bB P w H h a (.ins C dx fs) from hok a _ e);exact #[mA,#[ob,n,ne],r,q,z,d]
end
structure Cls (K:Frag)(C:Addr):Prop where
  pg:W.plainGet K C Str.empty=true
  hd:W.hasDictIn K C=true
  po:W.plainOver K C=true
  sa:findIn K (.ref C) "__setattr__" = some (some (.builtin "object.__setattr__"))
def Cls.get {K:Frag}(c:Cls K C)(f:Str):W.plainGet K C f=true:=c.pg
section
variable {X:Cx}{LI:List (Addr×Obj)}{U:St}{H:Hp}{s:Shared}{A:Around}{E:Value->Shared->Prop}{Q:Value->Shared->Prop}{c:Value}{b:Bool}
inductive TyOf (K:Frag)(H:Hp):V->Value->Prop where
  | non:TyOf K H .non (.type "NoneType")
  | bl (x:Bool):TyOf K H (.bl x) (.type "bool")
  | int (i:Int):TyOf K H (.int i) (.type "int")
  | str (x:Str):TyOf K H (.str x) (.type "str")
  | flt (x:UInt64):TyOf K H (.flt x) (.type "float")
  | lst {a:Addr} {xs:List V} (e:H a=some (.lst xs)):TyOf K H (.ref a) (.type "list")
  | frz {a:Addr} {o:Obj} {xs:List V} (e:H a=some (.frz o (.lst xs))):TyOf K H (.ref a) (.type "list")
  | tup {a:Addr} {xs:List V} (e:H a=some (.tup xs)):TyOf K H (.ref a) (.type "tuple")
  | dK {a:Addr} {kvs:List (Key×V)} (e:H a=some (.dK kvs)):TyOf K H (.ref a) (.type "dict")
  | dT {a:Addr} {kvs:List (List Key×V)} (e:H a=some (.dT kvs)):TyOf K H (.ref a) (.type "dict")
  | ins {a C dx:Addr} {fs:List (Str×V)} (e:H a=some (.ins C dx fs)) (cl:Cls K C) (ha:findIn K (.ref C) "__class__" = some (some (.builtin "object.__class__")))
      (hn:W.specialIn K (.builtin "object.__class__") "__get__" = some (some (.builtin "getset_descriptor.__get__"))) (htk:W.takesIn K (.builtin "object.__class__")=some true)
      (hm:mroIn K C (.type "object")=some true):TyOf K H (.ref a) (.ref C)
def Dz {x:V}{u t:Value}(I:Inv X LI U H s)(rx:RelV x u)(ty:TyOf X.K H x t)(e:kitOne X.K t c=some b)(h:∀ tk,Q (.bool b) { s with toks:=tk }) :
    wpAny (model X.prog X.w) A (call (.builtin "isinstance") [u,c]) Q E s:=by
  cases ty with
  | non=>cases (show u=Value.none from rx);exact W.kia_one W.kitx_none I.kIn True.intro e nofun h
  | bl y=>cases (show u=Value.bool y from rx);exact W.kia_one W.kitx_bool I.kIn True.intro e nofun h
  | int i=>obtain ⟨t,q⟩:=(show ∃ t,u=Value.int i t from rx);cases q;exact W.kia_one W.kitx_int I.kIn True.intro e nofun h
  | str y=>obtain ⟨t,q⟩:=(show ∃ t,u=Value.str y t from rx);cases q;exact W.kia_one W.kitx_str I.kIn True.intro e nofun h
  | flt y=>obtain ⟨t,q⟩:=(show ∃ t,u=Value.float y t from rx);cases q;exact W.kia_one W.kitx_float I.kIn True.intro e nofun h
  | @lst a xs ea=>
    cases (show u=Value.ref a from rx)
    obtain ⟨_,_,n,_,h1⟩:=(show bB X.prog X.w H s.heap a (.lst xs) from I.hok a _ ea);exact W.kia_one W.kitx_list I.kIn #[_,h1,rfl] e nofun h
  | @frz a ob xs ea=>
    cases (show u=Value.ref a from rx)
    obtain ⟨_,_,_,n,_,h1⟩:=(show bB X.prog X.w H s.heap a (.frz ob (.lst xs)) from I.hok a _ ea);exact W.kia_one W.kitx_list I.kIn #[_,h1,rfl] e nofun h
  | @tup a xs ea=>
    cases (show u=Value.ref a from rx)
    obtain ⟨_,_,_,p⟩:=(show bB X.prog X.w H s.heap a (.tup xs) from I.hok a _ ea);obtain ⟨o,h1,h2,_⟩:=p;exact W.kia_one W.kitx_tuple I.kIn #[o,h1,h2] e nofun h
  | @dK a kvs ea=>
    cases (show u=Value.ref a from rx)
    obtain ⟨_,_,vs,_,p⟩:=(show bB X.prog X.w H s.heap a (.dK kvs) from I.hok a _ ea);obtain ⟨o,es,ep,h1,h2,_⟩:=p;exact W.kia_one W.kitx_dict I.kIn #[o,h1,h2.1] e nofun h
  | @dT a kvs ea=>
    cases (show u=Value.ref a from rx)
    obtain ⟨_,_,xs,_,o,es,ep,h1,h2,_⟩:=(show bB X.prog X.w H s.heap a (.dT kvs) from I.hok a _ ea);exact W.kia_one W.kitx_dict I.kIn #[o,h1,h2.1] e nofun h
  | @ins a C dx fs ea cl ha hn htk hm=>
    cases (show u=Value.ref a from rx)
    obtain ⟨mA,O,_⟩:=Dy I.hok ea;obtain ⟨od,J,_⟩:=O.look;exact W.kia_one (W.kitx_own (cl.get _) cl.hd ha hn htk hm) I.kIn J e nofun h
end
structure Room (k:Nat)(A:Around):Prop where
  hd:A.handled=none
  dp:A.depth+3*k+5<recursionLimit
  un:A.units+16*k+200<cLine
  gd:A.guards=some []
def Room.mono {j k:Nat}{A:Around}(r:Room k A)(h:j<=k):Room j A:=#[r.hd,by have:=r.dp;lia,by have:=r.un;lia,r.gd]
def Room.deeper {k:Nat}{A:Around}(r:Room (k+1) A)(env:Env):Room k (A.deeper env):=
  #[r.hd,by have:=r.dp;show A.depth+1+3*k+5<_;lia,by have:=r.un;show A.units+3+16*k+200<_;lia,r.gd]
def Room.depth {k:Nat}{A:Around}(r:Room k A):A.depth<recursionLimit:=by have:=r.dp;lia
def Room.units {k:Nat}{A:Around}(r:Room k A):A.units+64<cLine:=by have:=r.un;lia
def tNil:TA:=λ_ H Q=>Q [] H
def sW (ta:TE)(tr:TA):TA:=λU H Q=>ta U H λx H1=>tr U H1 λxs H2=>Q (x::xs) H2
section
variable {X:Cx}{e:Expr}{es:List Expr}{te:TE}{t:TA}{pos:Pos}
def ae:PA X [] tNil:=λ_ _ _ _ H Q I h=>Calls.spliced_nil #[[],H,I,.nil,h]
def aa (ha:PE X e te)(hr:PA X es t)(hs:starEach (e::es) X.env=(false,eval e X.env)::starEach es X.env:=by rfl):PA X (e::es) (sW te t):=by
  intro pos LI s U H Q I h;rw[hs];show wpAny _ _ (spliced ((false,eval e X.env)::backTo pos (starEach es X.env))) _ _ s;refine Calls.spliced_cons (thn (ha LI s U H _ I h) λu s1 zq0=>?_);obtain ⟨x,H1,I1,r1,q1⟩:=zq0;exact thn (hr pos LI s1 U H1 _ I1 q1) λus s2 zq0=>(by obtain ⟨xs,H2,I2,r2,q2⟩:=zq0;exact #[x::xs,H2,I2,.cons r1 r2,q2])
inductive yh (Q:VK)(xs:List V)(H1:Hp):Prop
  | c:xs.length<=sizeLine->(∀ p,H1 p=none->Q (.ref p) (upd H1 p (.tup xs)))->yh Q xs H1
def tTup (t:TA):TE:=λU H Q=>t U H λxs H1=>yh Q xs H1
inductive yi (Q:VK)(xs:List V)(H1:Hp):Prop
  | c:xs.length<=sizeLine->(∀ p,H1 p=none->Q (.ref p) (upd H1 p (.lst xs)))->yi Q xs H1
def tLst (t:TA):TE:=λU H Q=>t U H λxs H1=>yi Q xs H1
def cN {x1}(h:PA X es t):PE X (.Tuple es x1 pos) (tTup t):=by
  intro LI s U H Q I hq;refine wpAny_Tuple_spliced (thn (h pos LI s U H _ I hq) λus s1 zq0=>?_);obtain ⟨xs,H1,I1,r,z,q⟩:=zq0;refine #[by rw[<-r.length];exact z,?_];have hf:H1 s1.heap.objs.size=none:=I1.hok.fresh (ai _);refine #[.ref s1.heap.objs.size,upd H1 s1.heap.objs.size (.tup xs),I1.laid (t':=s1.toks) (λb u e=>aU _ e) (ai _) ?_,rfl,q _ hf];exact #[z,us,r,#[_,cQ _ rfl,rfl,_,rfl]]
def dn (h:PA X es t):PE X (.List es pos) (tLst t):=by
  intro LI s U H Q I hq;refine wpAny_List_spliced (thn (h pos LI s U H _ I hq) λus s1 zq0=>?_);obtain ⟨xs,H1,I1,r,z,q⟩:=zq0;refine #[by rw[<-r.length];exact z,?_];have hf:H1 s1.heap.objs.size=none:=I1.hok.fresh (ai _);refine #[.ref s1.heap.objs.size,upd H1 s1.heap.objs.size (.lst xs),I1.laid (t':=s1.toks) (λb u e=>aU _ e) (ai _) ?_,rfl,q _ hf];exact #[z,us,0,r,cQ _ rfl]
end
abbrev Sp:=List V->Hp->VK->XK->Prop
abbrev CXT:=List Env->Hp->Shared->XK->Value->Shared->Prop
structure Env0 (P:Program)(w:World)(K:Frag)(mg:Str->Option Value)(base:Heap)(A:Around)(outer:List Env)(s:Shared)(H:Hp):Prop where
  frames:A.frames=some outer
  mod:Mod K mg base
  bs:∀ b o,base.get? b=some o->s.heap.get? b=some o/\H b=none
  bsz:base.objs.size<=s.heap.objs.size
  funs:s.heap.FunFrames base outer
  frf:∀ b∈frs outer,H b=none
  hok:HOk P w H s.heap
  bare:AllBare s.gens
def CE (outer:List Env)(P:Program)(w:World)(H:Hp)(s:Shared)(Q:VK)(u:Value)(s':Shared):Prop:=
  ∃ v H',s'.os=s.os/\AllBare s'.gens/\Un (frs outer) [] H H' s.heap s'.heap/\HOk P w H' s'.heap/\RelV v u/\Q v H'
def CR (CX:CXT)(outer:List Env)(P:Program)(w:World)(H:Hp)(s:Shared)(Q:VK)(E:XK)(r:Result)(s':Shared):Prop:=
  match r with
  | .ok (.ret u)=>CE outer P w H s Q u s'
  | .ok _=>False
  | .error e=>CX outer H s E e s'
structure FnOk (P:Program)(w:World)(K:Frag)(mg:Str->Option Value)(base:Heap)(CX:CXT)(k:Nat)(f:Addr)(fd:FuncData)(ps:List Str)(sp:Sp):Prop where
  len:∀ vs H Q E,sp vs H Q E->vs.length=ps.length
  run:∀(A:Around) (outer:List Env) (s:Shared) (H:Hp) (args:Args) (us:List Value) (vs:List V) (Q:VK) (E:XK),Room k A->Env0 P w K mg base A outer s H->BindsTo s fd args (ps.zip us)->Vals vs us->sp vs H Q E->
    codeAny (model P w) A (.call (.ref f) args) (CR CX outer P w H s Q E) s
section
variable {X:Cx}{LI:List (Addr×Obj)}{U:St}{H:Hp}{s s':Shared}
def Inv.env0 (I:Inv X LI U H s):Env0 X.prog X.w X.K X.mg X.base X.A X.stack s H:=
  #[I.ok.frames,I.ok.mod,I.bs,az I.ok.bsz I.sz,I.stack,I.stkFree,I.hok,I.bare]
def Inv.after (I:Inv X LI U H s)(h:CE X.stack X.prog X.w H s Q u s'):EP X LI U Q u s':=by
  obtain ⟨v,H',os,bare,un,hok,r,q⟩:=h;obtain ⟨hh,g,d,t,os'⟩:=s';obtain rfl:os'=s.os:=os;exact #[v,H',I.call (h':=hh) (g':=g) (d':=d) (t':=t) (ch:=[]) un hok bare (λb z=>absurd z (by simp)),r,q]
end
def yj (sp:Sp)(dvs:List V)(E:XK)(t:TA):TE:=λU H Q=>t U H λvs H1=>sp (vs++dvs) H1 Q E
def gN (K:Frag)(fd:FuncData)(ps:List Str)(ds:List Value):Prop:=
  ∀(s:Shared) (us:List Value),K.In s.heap->(us++ds).length=ps.length->BindsTo s fd #[us,[]] (ps.zip (us++ds))
def gN.all {K:Frag}{fd:FuncData}{ps:List Str}(h:∀ us:List Value,us.length=ps.length->bindArgs fd #[us,[]]=pure (ps.zip us)):gN K fd ps []:=λs us _ hl=>by
  rw[bZ]at hl ⊢;exact .of_eq (h us hl)
def sZ (CX:CXT)(X:Cx)(E:XK):Prop:=∀(LI:List (Addr×Obj)) (U:St) (H:Hp) (s:Shared) (e:Value) (s':Shared),Inv X LI U H s->CX X.stack H s E e s'->X.xe e s'
section
variable {X:Cx}{CX:CXT}{k:Nat}{f C:Addr}{fd:FuncData}{ps:List Str}{sp:Sp}{dvs:List V}{ds:List Value}{E:XK}{x m:Str}{p pos apos:Pos}{e o:Expr}{es:List Expr}{ta:TE}{t:TA}
def yk {Q:VK}{us:List Value}{vs:List V}(F:FnOk X.prog X.w X.K X.mg X.base CX k f fd ps sp)(hr:Room k X.A)(hb:gN X.K fd ps ds)(hd:Vals dvs ds)(hx:sZ CX X E)
    (I:Inv X LI U H s) (r:Vals vs us) (h:sp (vs++dvs) H Q E):wpAny (model X.prog X.w) X.A (call (.ref f) us) (EP X LI U Q) X.xe s:=by
  have r2:Vals (vs++dvs) (us++ds):=r.append hd;have hl:(us++ds).length=ps.length:=by rw[<-r2.length];exact F.len _ _ _ _ h
  refine wpAny_call (codeAny_mono (F.run X.A X.stack s H #[us,[]] (us++ds) (vs++dvs) Q E hr I.env0 (hb s us I.kIn hl) r2 h) λr s' hq=>?_);cases r with
  | error e=>exact hx LI U H s e s' I hq
  | ok fl=>
    cases fl with
    | ret u=>exact I.after hq
    | next=>exact False.elim hq
    | brk=>exact False.elim hq
    | cont=>exact False.elim hq
def DA (F:FnOk X.prog X.w X.K X.mg X.base CX k f fd ps sp)(hr:Room k X.A)(hg:Gl X x)(hm:X.mg x=some (.ref f))(hk:keepIn X.K (.ref f)=true)(hb:gN X.K fd ps ds)(hd:Vals dvs ds)(hx:sZ CX X E)
    (ha:PA X (e::es) t) (hdb:(x==("__debug__" : Str))=false:=by decide) (he:starEach (e::es) X.env=(false,eval e X.env)::starEach es X.env:=by rfl) (hpl:(backTo pos (starEach es X.env)).any (·.1)=false:=by rfl) :
    PE X (.Call (.Name x p) (e::es) [] pos) (yj sp dvs E t):=by
  intro LI s U H Q I h;refine wpAny_Call_Name_kw (nH I hg hm ?_ hdb);refine W.callWith_K (h₀:=X.base) I.ok.mod.kin hk (thn (ha pos LI s U H _ I h) λus s1 zq0=>?_) he hpl;obtain ⟨vs,H1,I1,r,q⟩:=zq0;refine #[I1.kIn,?_];exact yk F hr hb hd hx I1 r q
end
structure aP (N P:List Str)(sc:Scope):Prop where
  kind:sc.kind=.function
  co:sc.isCoroutine=false
  gen:sc.isGenerator=false
  nd:N.Nodup
  pre:N.take P.length=P
  par:∀ x∈P,sc.names.lookup x=some .local\/sc.names.lookup x=some .cell
  nofree:∀ y∈sc.names,y.2≠.free
def yn {kindOf:Str->Option NameKind}{x:Str}:∀{binds:List (Str×Value)} {m:Str->Option Value},(∀ v,(x,v)∉binds)->bindL kindOf binds m x=m x
  | [],_,_=>rfl
  | (n,v)::r,m,h=>by
    unfold bindL;rw[yn λw hw=>h w (bE _ hw)];split
    · have:x≠n:=by rintro rfl;exact h v bu
      simp[this]
    · rfl
def yo {kindOf:Str->Option NameKind}{x:Str}:∀{binds:List (Str×Value)} {m:Str->Option Value},(∀ v,(x,v)∉binds)->bindC kindOf binds m x=m x
  | [],_,_=>rfl
  | (n,v)::r,m,h=>by
    unfold bindC;rw[yo λw hw=>h w (bE _ hw)];split
    · rfl
    · have:x≠n:=by rintro rfl;exact h v bu
      simp[this]
def yp {kindOf:Str->Option NameKind}{x:Str}{v:Value}:∀{P:List Str} {vs:List Value} {i:Nat} {m:Str->Option Value},P.Nodup->P[i]?=some x->vs[i]?=some v->kindOf x=some .local->
    bindL kindOf (P.zip vs) m x=some v
  | [],_,_,_,_,h,_,_=>by simp at h
  | _::_,[],_,_,_,_,h,_=>by simp at h
  | p::P,w::vs,0,m,nd,h1,h2,hk=>by
    simp at h1 h2;subst h1;subst h2;show bindL kindOf ((p,w)::P.zip vs) m p=_;unfold bindL;rw[yn λv hv=>(dN.mp nd).1 (kJ hv).1,af hk];simp
  | p::P,w::vs,i+1,m,nd,h1,h2,hk=>by
    show bindL kindOf ((p,w)::P.zip vs) m x=_;unfold bindL;exact yp (i:=i) (dN.mp nd).2 (by simpa using h1) (by simpa using h2) hk
def yr {kindOf:Str->Option NameKind}{x:Str}{v:Value}:∀{P:List Str} {vs:List Value} {i:Nat} {m:Str->Option Value},P.Nodup->P[i]?=some x->vs[i]?=some v->kindOf x≠some .local->
    bindC kindOf (P.zip vs) m x=some v
  | [],_,_,_,_,h,_,_=>by simp at h
  | _::_,[],_,_,_,_,h,_=>by simp at h
  | p::P,w::vs,0,m,nd,h1,h2,hk=>by
    simp at h1 h2;subst h1;subst h2;show bindC kindOf ((p,w)::P.zip vs) m p=_;unfold bindC;rw[yo λv hv=>(dN.mp nd).1 (kJ hv).1,ag hk];simp
  | p::P,w::vs,i+1,m,nd,h1,h2,hk=>by
    show bindC kindOf ((p,w)::P.zip vs) m x=_;unfold bindC;exact yr (i:=i) (dN.mp nd).2 (by simpa using h1) (by simpa using h2) hk
def da (N:List Str)(vs:List V):St:=vs.map some++List.replicate (N.length-vs.length) none
def cxOf (CX:CXT)(P:Program)(w:World)(K:Frag)(mg:Str->Option Value)(base:Heap)(N:List Str)(qual:Str)(scope:Scope)(f:Addr)(cd:Value)(A:Around)(outer:List Env)(s:Shared)(H:Hp)(E:XK):Cx where
  prog:=P
  w:=w
  K:=K
  mg:=mg
  base:=base
  A:=A.deeper (envOfC qual scope s.heap.objs.size f cd)
  N:=N
  s₀:=s
  H₀:=H
  env:=envOfC qual scope s.heap.objs.size f cd
  outer:=outer
  stack:=envOfC qual scope s.heap.objs.size f cd::outer
  ex:=[]
  calm:=true
  fn:=λ_=>true
  pn:=[]
  xe:=λe s'=>wpAny (model P w) (A.deeper (envOfC qual scope s.heap.objs.size f cd)) (leaving (envOfC qual scope s.heap.objs.size f cd) e) (λ_ s''=>CX outer H s E e s'') (λe' s''=>CX outer H s E e' s'') s'
def yt {sc:Scope}{n:Nat}{x:Str}(h:sc.names.lookup x=some .cell):∃ c,(cellsFrom n sc.names []).lookup x=some c:=by
  have q:=W.cellsFrom_some sc.names n [] (.inl h);exact Option.isSome_iff_exists.mp q
def DB {K:Frag}{qual:Str}{f:Addr}{cd:Value}{A:Around}{s1:Shared}{us:List Value}{vs:List V}
    (S:aP N ps scope) (hd:A.handled=none) (e0:Env0 P w K mg base A outer s H) (hl:vs.length=ps.length) (r:Vals vs us)
    (x:InCallC s s.heap.objs.size (bindL (envOfC qual scope s.heap.objs.size f cd).kindOf (ps.zip us) λ_=>none) (cellsFrom (s.heap.objs.size+1) scope.names []) (bindC (envOfC qual scope s.heap.objs.size f cd).kindOf (ps.zip us) λ_=>none) s1) :
    Inv (cxOf CX P w K mg base N qual scope f cd A outer s H E) [] (da N vs) H s1:=by
  have hpl:ps.length<=N.length:=by have:=congrArg List.length S.pre;rw[aW]at this;lia
  obtain ⟨h1,tk,rfl,hk⟩:=x.done;have noA:∀ b:Addr,b∉(cxOf CX P w K mg base N qual scope f cd A outer s H E).ex:=λb z=>absurd (show b∈([]:List Addr) from z) (by simp);refine #[#[e0.mod,S.kind,rfl,rfl,ai _,λy z c h1 h2=>?_,λy hy=>?_,λy c _ h=>?_,λ_=>hd,Around.frames_deeper e0.frames,.inr #[rfl,rfl],λb z=>absurd z (noA b),e0.bs,e0.bsz,λb _ _=>noA b,λb z=>absurd z (noA b),e0.funs,e0.frf],
    rfl,e0.bare,Un.kept hk,#[_,x.toInCall.ns,λi y v h1 h2 h3=>?_],λy c h=>#[_,x.cell y c h],e0.hok.fresh (ai _),λy c h=>?_,λp hp=>absurd (show p∈([]:List (Addr×Obj)) from hp) (by simp),e0.hok.kept hk,?_]
  · exact name_of_addr x.apart (PySem.mem_of_lookup h1) (PySem.mem_of_lookup h2)
  · have hy:scope.names.lookup y=some .cell\/scope.names.lookup y=some .free:=hy
    rcases hy with hy|hy
    · exact yt hy
    · exact absurd rfl (S.nofree _ (PySem.mem_of_lookup hy))
  · exact bf (x.above y c (PySem.mem_of_lookup h))
  · have hi:i<vs.length:=by
      unfold da at h2;by_cases hi:i<vs.length
      · exact hi
      · rw[eF (by simpa using hi)]at h2
        rw[sg]at h2;split at h2<;>cases h2
    have ha:vs[i]?=some v:=by
      unfold da at h2;rw[fZ (by simpa using hi),aY]at h2;cases e:vs[i]? with
      | none=>rw[e]at h2;cases h2
      | some a=>rw[e]at h2;cases h2;rfl
    obtain ⟨u,hu,rv⟩:=r.get ha;have hp:ps[i]?=some y:=by
      rw[<-S.pre,List.getElem?_take_of_lt (by lia)];exact h1
    have ndP:ps.Nodup:=by rw[<-S.pre];exact S.nd.sublist (List.take_sublist _ _)
    refine #[u,rv,?_];rcases S.par y (cB hp) with k|k
    · exact .inl #[k,yp ndP hp hu k]
    · obtain ⟨c,e⟩:=yt (n:=s.heap.objs.size+1) k
      refine .inr #[.inl k,c,e,?_];have q:=x.cell y c e;rw[yr ndP hp hu (by show scope.names.lookup y≠_;rw[k];decide)]at q;exact q
  · exact e0.hok.fresh (bf (x.above y c (PySem.mem_of_lookup h)))
  · unfold da
    show _=N.length;rw[aV,aq,fk];lia
def yu {K:Frag}{k:Nat}{f:Addr}{name qual:Str}{params:Arguments}{body:List Stmt}{scope:Scope}{dV kV doc pm cdv ct oc:Value}{an od:Option Addr}
    {osl:Array (Option Value)}  {sp:Sp} (lk:K.lookup f=some #[oc,od,.func (fnOf name qual params body scope dV kV doc pm an cdv ct),osl]) (hcd:codeIn K cdv qual=true) (S:aP N ps scope)
    (len:∀ vs H Q E,sp vs H Q E->vs.length=ps.length)
    (hbody:∀(A:Around) (outer:List Env) (s:Shared) (H:Hp) (vs:List V) (Q:VK) (E:XK),Room k (A.deeper (envOfC qual scope s.heap.objs.size f cdv))->sp vs H Q E->
      ∃ t,PSs (cxOf CX P w K mg base N qual scope f cdv A outer s H E) body t/\t { nx:=λ_ H'=>Q .non H',rt:=Q } (da N vs) H) :
    FnOk P w K mg base CX (k+1) f (fnOf name qual params body scope dV kV doc pm an cdv ct) ps sp:=by
  refine #[len,λA outer s H args us vs Q E hr e0 hb r hsp=>?_];have hl:=len _ _ _ _ hsp;have KX:K.In s.heap:=e0.mod.kin.keeps λb o e=>(e0.bs b o e).1;have lim:s.heap.NoLimit:=e0.mod.nolimit.keeps λb o e=>(e0.bs b o e).1;have hkind:∀ y∈ps.zip us,scope.names.lookup y.1=some .local\/(scope.names.lookup y.1=some .cell/\((cellsFrom (s.heap.objs.size+1) scope.names []).lookup y.1).isSome=true):=λ⟨n,v⟩ hy=>by
    rcases S.par n (kJ hy).1 with q|q
    · exact .inl q
    · exact .inr #[q,W.cellsFrom_some _ _ _ (.inl q)]
  refine codeAny_call_function hr.depth (KX _ _ lk) rfl S.co S.gen rfl (W.codeRec_of KX hcd) (hb _ _ _ _ ?_);refine wpAny_newFunctionEnv_cells S.kind hkind λenv he s1 x=>?_;subst he;refine #[lim.keeps x.toInCall.keep,codeAny_func ?_];obtain ⟨t,ht,hq⟩:=hbody A outer s H vs Q E (hr.deeper _) hsp;have I:Inv (cxOf CX P w K mg base N qual scope f cdv A outer s H E) [] (da N vs) H s1:=DB S hr.hd e0 hl r x;refine dM (ht [] s1 (da N vs) H _ I hq) (λfl s' hs=>?_) λe s' hs=>hs;have fin:∀{U':St} {H':Hp} {v:V} {u:Value},Inv (cxOf CX P w K mg base N qual scope f cdv A outer s H E) [] U' H' s'->RelV v u->Q v H'->CE outer P w H s Q u s':=
    λ{U' H' v u} J rv q=>#[v,H',J.os,J.bare,J.base,J.hok,rv,q]
  cases fl with
  | ret u=>
    obtain ⟨v,U',H',J,rv,q⟩:=hs;exact fin J rv q
  | next=>
    obtain ⟨U',H',J,q⟩:=hs;exact fin (v:=V.non) (u:=Value.none) J rfl q
  | brk=>
    obtain ⟨_,_,_,q⟩:=hs;exact False.elim q
  | cont=>
    obtain ⟨_,_,_,q⟩:=hs;exact False.elim q
section
variable {X:Cx}{x:Str}{p pos:Pos}{e:Expr}{es:List Expr}{t:TA}{id T:String}{r:List V->Hp->VK->Prop}
def tCB (r:List V->Hp->VK->Prop)(t:TA):TE:=λU H Q=>t U H λvs H1=>r vs H1 Q
def bc (hc:cT X (.builtin id) r)(hg:Gl X x)(hm:X.mg x=none)(hv:bootBuiltins x=some (.builtin id))(ha:PA X (e::es) t)(hn:x ≠ "__name__":=by decide)(hdb:(x==("__debug__" : Str))=false:=by decide)
    (he:starEach (e::es) X.env=(false,eval e X.env)::starEach es X.env:=by rfl) (hpl:(backTo pos (starEach es X.env)).any (·.1)=false:=by rfl):PE X (.Call (.Name x p) (e::es) [] pos) (tCB r t):=by
  intro LI s U H Q I h;refine wpAny_Call_Name_kw (gI I hg hm hv ?_ hn hdb);exact PyProof.Rows.callWith_builtin1 (thn (ha pos LI s U H _ I h) λus s1 zq0=>(by obtain ⟨vs,H1,I1,r1,q1⟩:=zq0;exact hc LI s1 U H1 vs us Q I1 r1 q1)) he hpl
def ff (hc:cT X (.type T) r)(hg:Gl X x)(hm:X.mg x=none)(hv:bootBuiltins x=some (.type T))(ha:PA X (e::es) t)(hn:x ≠ "__name__":=by decide)(hdb:(x==("__debug__" : Str))=false:=by decide)
    (he:starEach (e::es) X.env=(false,eval e X.env)::starEach es X.env:=by rfl) (hpl:(backTo pos (starEach es X.env)).any (·.1)=false:=by rfl):PE X (.Call (.Name x p) (e::es) [] pos) (tCB r t):=by
  intro LI s U H Q I h;refine wpAny_Call_Name_kw (gI I hg hm hv ?_ hn hdb);exact PyProof.Rows.callWith_type1 (thn (ha pos LI s U H _ I h) λus s1 zq0=>(by obtain ⟨vs,H1,I1,r1,q1⟩:=zq0;exact hc LI s1 U H1 vs us Q I1 r1 q1)) he hpl
end
end L2
namespace HT
open PySem PyProof.Rows
section
variable {prog:Program}{w:World}{A:Around}{E:Value->Shared->Prop}{s:Shared}
def cat_tup {t b:Addr}{vs ws:List Value}{Q:Value->Shared->Prop}(ht:IsTup s.heap t vs.toArray)(hb:IsTup s.heap b ws.toArray)(hv:vs≠[])
    (h1:ws=[]->Q (.ref t) s) (h2:ws≠[]->Q (.ref s.heap.objs.size) { s with heap:=s.heap.push { cls:=.type "tuple",data:=.seq (vs++ws).toArray } })
    (hsz:vs.length+ws.length<=sizeLine):wpAny (model prog w) A (binaryOp .Add (.ref t) (.ref b)) Q E s:=by
  obtain ⟨⟨cls,dd,data,sl⟩,ho,hc,n,hd⟩:=id ht;obtain ⟨⟨cls2,dd2,data2,sl2⟩,ho2,hc2,n2,hd2⟩:=id hb;simp only at hc hd hc2 hd2;subst hc hd hc2 hd2;have e:vs.toArray++ws.toArray=(vs++ws).toArray:=by simp
  by_cases hw:ws=[]
  · exact concat_meets #[_,ho,rfl] #[_,ho2,rfl] noFill_tuple_add seq_tuple_add PySem.F.slot_tuple_add PySem.F.entry_tuple_add (PySem.F.args_tuple_add_2 _ _)
      (tuple_addW1 t b vs.toArray ws.toArray n n2 dd dd2 sl sl2 (by simpa using hv) (by simp[hw])) #[ho,ho2,h1 hw]
  · refine concat_meets #[_,ho,rfl] #[_,ho2,rfl] noFill_tuple_add seq_tuple_add PySem.F.slot_tuple_add PySem.F.entry_tuple_add (PySem.F.args_tuple_add_2 _ _)
      (tuple_addW2 t b vs.toArray ws.toArray n n2 dd dd2 sl sl2 (by simpa using hv) (by simpa using hw) (by rw[bM,bM];exact hsz)) #[ho,ho2,?_]
    rw[e];exact h2 hw
def sIx (n d:Nat):Option Int->Nat
  | none=>d
  | some v=>if v<0 then (v+(n:Int)).toNat else min v.toNat n
def iS (n d k:Nat):sIx n d (some (k:Int))=min k n:=by
  show (if (k:Int)<0 then ((k:Int)+(n:Int)).toNat else min (k:Int).toNat n)=min k n
  rw[ag (by lia),fm]
def DC (n d:Nat)(hd:d<=n)(o:Option Int):sIx n d o<=n:=by
  cases o with
  | none=>exact hd
  | some v=>
    show (if v<0 then (v+(n:Int)).toNat else min v.toNat n)<=n
    by_cases hv:v<0
    · rw[af hv];lia
    · rw[ag hv];exact Nat.min_le_right _ _
def yv (v:Int)(n d:Nat):(if v<0 then max (v+(n:Int)) 0 else min v (n:Int))=((sIx n d (some v):Nat):Int):=by
  show (if v<0 then max (v+(n:Int)) 0 else min v (n:Int))=(((if v<0 then (v+(n:Int)).toNat else min v.toNat n):Nat):Int)
  by_cases hv:v<0
  · simp only[af hv];lia
  · simp only[ag hv];lia
def DD (lo hi:Option Int)(n:Nat):Builtin.Slice.sliceAdjust lo hi 1 (n:Int)=(((sIx n 0 lo:Nat):Int),((sIx n n hi:Nat):Int)):=by
  have h1:¬ ((1:Int)<0):=by lia
  unfold Builtin.Slice.sliceAdjust;simp only[h1,if_false];refine Prod.ext ?_ ?_
  · cases lo with
    | none=>rfl
    | some v=>exact yv v n 0
  · cases hi with
    | none=>rfl
    | some v=>exact yv v n n
def DE (i j:Nat):Builtin.Slice.slicePlaces (i:Int) (j:Int) 1=j-i:=by
  unfold Builtin.Slice.slicePlaces;have h1:(1:Int)>0:=by lia
  simp only[h1,if_true,Int.ediv_one];split<;>lia
def yw {v:Value}{o:Option Int}{Q:Option Int->Shared->Prop}(p:IsPart v o)(h:Q o s):wpAny (model prog w) A (Builtin.Slice.slicePartIndex v) Q E s:=by
  cases p with
  | none=>exact slicePart_none h
  | int i t=>exact slicePart_int h
def yx {sl:Addr}{vl vu:Value}{lo hi:Option Int}{Q:Int×Int×Nat->Shared->Prop}(hs:s.heap.IsSliceOf sl vl vu .none)(pl:IsPart vl lo)(pu:IsPart vu hi)
    (h:Q (((sIx n 0 lo:Nat):Int),1,sIx n n hi-sIx n 0 lo) s):wpAny (model prog w) A (Builtin.Slice.sliceApplied (.ref sl) (pure (n:Int))) Q E s:=by
  obtain ⟨os,hos,hcs,hds⟩:=id hs;unfold Builtin.Slice.sliceApplied Builtin.Slice.sliceFields;refine ao (ao (wpAny_field hos hds (x:=vl) rfl (ao (wpAny_field hos hds (x:=vu) rfl (ao (wpAny_field hos hds (x:=.none) rfl (aC ?_)))))));refine ao (slicePart_none ?_);show wpAny _ _ (if ((1:Int)==0)=true then _ else _) _ _ s
  rw[ag (by decide)];refine ao (yw pl (ao (yw pu (ao (aC ?_)))));show wpAny _ _ (match Builtin.Slice.sliceAdjust lo hi 1 (n:Int) with|(lo,hi)=>pure (lo,(1:Int),Builtin.Slice.slicePlaces lo hi 1)) _ _ s
  rw[DD lo hi n];show wpAny _ _ (pure (((sIx n 0 lo:Nat):Int),(1:Int),Builtin.Slice.slicePlaces ((sIx n 0 lo:Nat):Int) ((sIx n n hi:Nat):Int) 1)) _ _ s;rw[DE];exact aC h
def DG (xs:Array Value)(i k:Nat):((List.range k).filterMap λ(m:Nat)=>xs[((i:Int)+(m:Int)*1).toNat]?).toArray=((xs.toList.drop i).take k).toArray:=by
  have e:(λ(m:Nat)=>xs[((i:Int)+(m:Int)*1).toNat]?)=λm=>xs[i+m]?:=by
    funext m
    have:((i:Int)+(m:Int)*1).toNat=i+m:=by lia
    rw[this]
  rw[e];have:=pick_run xs i k;rw[List.filterMap_map]at this;have e2:((λx=>xs[x]?) ∘ λx=>i+x)=λm=>xs[i+m]?:=rfl;rw[e2]at this;rw[this]
def getItem_tuple_cut {t sl:Addr}{items:Array Value}{vl vu:Value}{lo hi:Option Int}{Q:Value->Shared->Prop}(ht:IsTup s.heap t items)(hs:s.heap.IsSliceOf sl vl vu .none)(pl:IsPart vl lo)(pu:IsPart vu hi)
    (hw:¬ (sIx items.size 0 lo=0/\sIx items.size items.size hi=items.size))
    (h:Q (.ref s.heap.objs.size) { s with heap:=s.heap.push { cls:=.type "tuple",data:=.seq ((items.toList.drop (sIx items.size 0 lo)).take (sIx items.size items.size hi-sIx items.size 0 lo)).toArray } })
    (hsz:items.size<=sizeLine):wpAny (model prog w) A (getItem (.ref t) (.ref sl)) Q E s:=by
  have htake:sizeOk (.seq ((items.toList.drop (sIx items.size 0 lo)).take (sIx items.size items.size hi-sIx items.size 0 lo)).toArray):=by
    show ((items.toList.drop (sIx items.size 0 lo)).take (sIx items.size items.size hi-sIx items.size 0 lo)).toArray.size<=sizeLine;rw[bM,aW,eG,bF];lia
  have hj:sIx items.size items.size hi<=items.size:=DC _ _ (ai _) hi;obtain ⟨os,hos,hcs,hds⟩:=id hs;have hTs:s.TypeIs (.ref sl) "slice":=#[os,hos,hcs];unfold getItem
  try with_reducible refine wpAny_holding ?_
  first|refine ao (aC ?_)|skip
  refine ao (wpAny_sequenceKey ht.typeIs (by decide) ?_);refine ao (wpAny_callSpecial?_slot (name:=Str.ofString "__getitem__") ht.typeIs PyProof.Rows.slot_tuple_getitem
    (wpAny_call_entry PyProof.Rows.slot_tuple_getitem ht.typeIs entry_tuple_getitem ?_ (args_tuple_getitem _ _)))
  show wpAny _ _ (Builtin.Tuple.tupleItemsOf (.ref t) >>= _) _ _ s;refine ao (tupleItemsOf_ ht ?_);refine ao (wpAny_typeOf hTs ?_);rw[af (by decide)];refine ao (yx hs pl pu ?_);have hno:¬ ((((sIx items.size 0 lo:Nat):Int)==0&&(1:Int)==1&&(sIx items.size items.size hi-sIx items.size 0 lo)==items.size)=true):=by
    intro q;rw[d6,d6]at q;have q1:((sIx items.size 0 lo:Nat):Int)=0:=eq_of_beq q.1.1;have q2:sIx items.size items.size hi-sIx items.size 0 lo=items.size:=eq_of_beq q.2;exact hw #[by lia,by lia]
  show wpAny _ _ (if (((sIx items.size 0 lo:Nat):Int)==0&&(1:Int)==1&&(sIx items.size items.size hi-sIx items.size 0 lo)==items.size)=true then _ else _) _ _ s
  rw[ag hno,DG]
  first
    | exact ao (m:=Builtin.Tuple.tupleExact _) (wpAny_newObj_type (aC ⟨_,rfl,aC h⟩) htake)
    | exact ao (m:=Builtin.Tuple.tupleExact _) (wpAny_newObj_type (ao (aC (aC ⟨_,rfl,aC h⟩))) htake)
    | exact ao (ao (m:=Builtin.Tuple.tupleExact _) (wpAny_newObj_type (aC (aC ⟨_,rfl,aC h⟩)) htake))
    | exact ao (ao (m:=Builtin.Tuple.tupleExact _) (wpAny_newObj_type (aC ⟨_,rfl,aC h⟩) htake))
end
end HT
namespace L2
open PySem PySem.Spec PyProof.Rows
abbrev TO:=St->Hp->(Option Int->Hp->Prop)->Prop
def PO (X:Cx)(e:Option Expr)(t:TO):Prop:=
  ∀(LI:List (Addr×Obj)) (s:Shared) (U:St) (H:Hp) (Q:Option Int->Hp->Prop),Inv X LI U H s->t U H Q->
    wpAny (model X.prog X.w) X.A (evalPart e X.env) (λu s'=>∃ o H',Inv X LI U H' s'/\IsPart u o/\Q o H') X.xe s
def DH:TO:=λ_ H Q=>Q none H
inductive yy (Q:Option Int->Hp->Prop)(x:V)(H1:Hp):Prop
  | c:∀ i,x=.int i->Q (some i) H1->yy Q x H1
def lB (t:TE):TO:=λU H Q=>t U H λx H1=>yy Q x H1
section
variable {X:Cx}{e:Expr}{te:TE}{lo hi:Option Expr}{tl th:TO}{pos p2:Pos}
def lC:PO X none DH:=by
  intro LI s U H Q I h;rw[evalPart_none];exact aC #[none,H,I,.none,h]
def eh (h:PE X e te):PO X (some e) (lB te):=by
  intro LI s U H Q I hw;rw[evalPart_some];refine thn (h LI s U H _ I hw) λu s1 zq0=>?_;obtain ⟨x,H1,I1,r1,q1⟩:=zq0;obtain ⟨i,rfl,q⟩:=q1;obtain ⟨t,rfl⟩:=r1;exact #[some i,H1,I1,.int i t,q]
def SlR (X:Cx)(r:V->Option Int->Option Int->Hp->VK->Prop):Prop:=
  ∀(LI:List (Addr×Obj)) (s:Shared) (U:St) (H:Hp) (x:V) (v vl vu:Value) (lo hi:Option Int) (sl:Addr) (Q:VK),Inv X LI U H s->RelV x v->s.heap.IsSliceOf sl vl vu .none->IsPart vl lo->IsPart vu hi->r x lo hi H Q->
    ∃ T id,typeLookup (.type T) "__getitem__" = pure (some (.builtin id))/\s.TypeIs v T/\wpAny (model X.prog X.w) X.A (getItem v (.ref sl)) (EP X LI U Q) X.xe s
def tSl (r:V->Option Int->Option Int->Hp->VK->Prop)(te:TE)(tl th:TO):TE:=λU H Q=>te U H λx H1=>tl U H1 λl H2=>th U H2 λu H3=>r x l u H3 Q
def gb (hr:SlR X r)(he:PE X e te)(hl:PO X lo tl)(hu:PO X hi th):PE X (.Subscript e (.Slice lo hi none p2) pos) (tSl r te tl th):=by
  intro LI s U H Q I h;refine Subscript_ (thn (he LI s U H _ I h) λv s1 zq0=>?_);obtain ⟨x,H1,I1,r1,q1⟩:=zq0;refine wpAny_Slice (thn (hl LI s1 U H1 _ I1 q1) λvl s2 zq0=>?_);obtain ⟨l,H2,I2,pl,q2⟩:=zq0;refine thn (hu LI s2 U H2 _ I2 q2) λvu s3 cL=>?_;obtain ⟨u,H3,I3,pu,q3⟩:=cL;rw[evalPart_none];refine aC ?_;have I4:Inv X LI U H3 { s3 with heap:=s3.heap.push { cls:=.type "slice",data:=.fields (List.toArray [vl,vu,.none]) } }:=I3.kept (t':=s3.toks) λb ob q=>aU _ q;obtain ⟨T,id,hT,ht,hg⟩:=hr LI { s3 with heap:=s3.heap.push { cls:=.type "slice",data:=.fields (List.toArray [vl,vu,.none]) } } U H3 x v vl vu l u s3.heap.objs.size Q I4 r1 (Heap.IsSliceOf.new ..) pl pu q3;show wpAny (model X.prog X.w) X.A (subscriptTail e (.Slice lo hi none p2) v (.ref s3.heap.objs.size)) (EP X LI U Q) X.xe { s3 with heap:=s3.heap.push { cls:=.type "slice",data:=.fields (List.toArray [vl,vu,.none]) } };exact tail_any (ops:=[.ref s3.heap.objs.size,v]) ht hT hg (by with_unfolding_all rfl)
def cutV (xs:List V)(lo hi:Option Int):List V:=(xs.drop (HT.sIx xs.length 0 lo)).take (HT.sIx xs.length xs.length hi-HT.sIx xs.length 0 lo)
def yA (xs:List V)(lo hi:Option Int):(cutV xs lo hi).length<=xs.length:=by
  unfold cutV;rw[aW,eG];lia
inductive rSlT (K:Frag)(x:V)(lo:Option Int)(hi:Option Int)(H:Hp)(Q:VK):Prop
  | c:∀ a xs,x=.ref a->SqT K H a xs->¬ (HT.sIx xs.length 0 lo=0/\HT.sIx xs.length xs.length hi=xs.length)->(∀ p,H p=none->Q (.ref p) (upd H p (.tup (cutV xs lo hi))))->rSlT K x lo hi H Q
def DI:SlR X (rSlT X.K):=by
  intro LI s U H x v vl vu lo hi sl Q I rx hs pl pu h;obtain ⟨a,xs,rfl,hx,hw,q⟩:=h;cases rx
  obtain ⟨its,r,ht,hz⟩:=I.tuple hx;have hlen:its.toArray.size=xs.length:=by rw[bM];exact r.length.symm
  refine #["tuple",_,PyProof.Rows.slot_tuple_getitem.lookup,ht.typeIs,?_];refine HT.getItem_tuple_cut ht hs pl pu (by rw[hlen];exact hw) ?_ (by rw[hlen];exact hz);rw[hlen];refine #[.ref s.heap.objs.size,_,I.laid (t':=s.toks) (o:=.tup (cutV xs lo hi)) (λb ob q=>aU _ q) (ai _) ?_,rfl,q _ (I.hok.fresh (ai _))];exact #[az (yA xs lo hi) hz,_,(r.drop (HT.sIx xs.length 0 lo)).take (HT.sIx xs.length xs.length hi-HT.sIx xs.length 0 lo),IsTup.new _ _]
inductive tj (K:Frag)(x:V)(y:V)(H:Hp)(Q:VK):Prop
  | c:∀ a b xs ys,x=.ref a->y=.ref b->SqT K H a xs->SqT K H b ys->xs≠[]->xs.length+ys.length<=sizeLine->(ys=[]->Q (.ref a) H)->(ys≠[]->∀ p,H p=none->Q (.ref p) (upd H p (.tup (xs++ys))))->tj K x y H Q
def Vals.nil_iff {xs:List V}{us:List Value}(r:Vals xs us):us=[]↔xs=[]:=by
  cases r with
  | nil=>simp
  | cons _ _=>simp
def yB:OpR X (binaryOp .Add) (tj X.K):=by
  intro LI s U H x y v u Q I rx ry h;obtain ⟨a,b,xs,ys,rfl,rfl,ha,hb,hx,hz,q1,q2⟩:=h;cases rx
  cases ry
  obtain ⟨its,r1,p1,_⟩:=I.tuple ha;obtain ⟨its2,r2,p2,_⟩:=I.tuple hb;refine HT.cat_tup p1 p2 (λz=>hx (r1.nil_iff.mp z)) (λz=>#[.ref a,H,I,rfl,q1 (r2.nil_iff.mp z)]) (λz=>?_) (by rw[<-r1.length,<-r2.length];exact hz);refine #[.ref s.heap.objs.size,_,I.laid (t':=s.toks) (o:=.tup (xs++ys)) (λb ob q=>aU _ q) (ai _) ?_,rfl,q2 (λw=>z (r2.nil_iff.mpr w)) _ (I.hok.fresh (ai _))];exact #[by rw[aV];exact hz,_,r1.append r2,IsTup.new _ _]
end
def ixN (n:Nat)(i:Int):Option Nat:=if 0<=i then (if i<n then some i.toNat else none) else if -(n:Int)<=i then some (i+n).toNat else none
def atI {α:Type}(xs:List α)(i:Int):Option α:=(ixN xs.length i).bind λj=>xs[j]?
def yC {j:Nat}(h:ixN n i=some j):seqIndex? i n=some j/\j<n/\-(n:Int)<=i/\i<n:=by
  unfold ixN at h;by_cases h0:0<=i
  · rw[af h0]at h
    by_cases h1:i<n
    · rw[af h1]at h
      have e:i.toNat=j:=aK h;exact #[by rw[seqIndex_of h0 h1,e],by lia,by lia,h1]
    · rw[ag h1]at h;cases h
  · rw[ag h0]at h
    by_cases h1:-(n:Int)<=i
    · rw[af h1]at h
      have e:(i+n).toNat=j:=aK h;exact #[by rw[seqIndex_neg (by lia) h1,e],by lia,h1,by lia]
    · rw[ag h1]at h;cases h
def yD {α:Type}{xs:List α}{v:α}(h:atI xs i=some v):∃ j,seqIndex? i xs.length=some j/\xs[j]?=some v/\j<xs.length/\-(xs.length:Int)<=i/\i<xs.length:=by
  unfold atI at h;cases e:ixN xs.length i with
  | none=>rw[e]at h;cases h
  | some j=>
    rw[e]at h;obtain ⟨h1,h2,h3,h4⟩:=yC e;exact #[j,h1,h,h2,h3,h4]
def cI {α:Type}{xs:List α}{j:Nat}{v:α}(h:xs[j]?=some v):atI xs (j:Int)=some v:=by
  have hj:j<xs.length:=(aN.mp h).1;have e:ixN xs.length (j:Int)=some j:=by
    unfold ixN;rw[af (by lia),af (by lia)];simp
  unfold atI;rw[e];exact h
def DJ (b:Expr):Prop:=∀ o i,subscripted b false o i=operate [o,i] (getItem o i)
def IxR (X:Cx)(r:R2):Prop:=
  ∀(value slice:Expr) (LI:List (Addr×Obj)) (s:Shared) (U:St) (H:Hp) (x y:V) (v u:Value) (Q:VK),Inv X LI U H s->RelV x v->RelV y u->r x y H Q->
    subscripted slice false v u=operate [v,u] (getItem v u)->wpAny (model X.prog X.w) X.A (subscriptTail value slice v u) (EP X LI U Q) X.xe s
def MtR (X:Cx)(id:String)(r:V->List V->Hp->VK->Prop):Prop:=
  ∀(LI:List (Addr×Obj)) (s:Shared) (U:St) (H:Hp) (x:V) (xs:List V) (v:Value) (us:List Value) (Q:VK),Inv X LI U H s->RelV x v->Vals xs us->r x xs H Q->
    wpAny (model X.prog X.w) X.A (call (.builtin id) (v::us)) (EP X LI U Q) X.xe s
section
variable {X:Cx}{a b:Expr}{ta tb:TE}{pos:Pos}
def aD (hr:IxR X r)(ha:PE X a ta)(hb:PE X b tb)(hs:DJ b):PE X (.Subscript a b pos) (tOp r ta tb):=by
  intro LI s U H Q I h;exact Subscript_ (binT ha hb I h λv u s2 x y H2 I2 rx ry q=>hr a b LI s2 U H2 x y v u Q I2 rx ry q (hs _ _))
inductive rIxL (K:Frag)(x:V)(y:V)(H:Hp)(Q:VK):Prop
  | c:∀ p xs i v,x=.ref p->y=.int i->SqL K H p xs->atI xs i=some v->Q v H->rIxL K x y H Q
inductive rIxT (K:Frag)(x:V)(y:V)(H:Hp)(Q:VK):Prop
  | c:∀ p xs i v,x=.ref p->y=.int i->SqT K H p xs->atI xs i=some v->Q v H->rIxT K x y H Q
def DK:IxR X (rIxL X.K):=by
  intro value slice LI s U H x y v u Q I rx ry h hs;obtain ⟨p,xs,i,z,rfl,rfl,hq,he,q⟩:=h;cases rx
  obtain ⟨t,rfl⟩:=ry;obtain ⟨its,r,pl,hz⟩:=I.list hq;obtain ⟨j,h1,h2,h3,h4,h5⟩:=yD he;obtain ⟨w,ew,rw'⟩:=r.get h2;have hl:=r.length;have hn:=nM;have fin:EP X LI U Q w s:=#[z,H,I,rw',q];by_cases h0:0<=i
  · have hj:i.toNat=j:=by
      rw[seqIndex_of h0 h5]at h1;exact aK h1
    exact item_listR pl.isList h0 (by lia) (by rw[hj];simpa using ew) fin hs
  · have hj:(i+(its.toArray.size:Int)).toNat=j:=by
      rw[seqIndex_neg (by lia) h4]at h1;rw[bM,<-hl];exact aK h1
    exact subscriptTail_builtinR (x:=w) pl.isList.typeIs slot_list_getitem.lookup
      (wpAny_getItem_list_neg (Q:=λr s'=>r=w/\EP X LI U Q r s') pl.isList (by lia) (by rw[bM]<;>lia) (by lia) (by rw[hj];simpa using ew) #[rfl,fin]) hs
def DL:IxR X (rIxT X.K):=by
  intro value slice LI s U H x y v u Q I rx ry h hs;obtain ⟨p,xs,i,z,rfl,rfl,hq,he,q⟩:=h;cases rx
  obtain ⟨t,rfl⟩:=ry;obtain ⟨its,r,pl,hz⟩:=I.tuple hq;obtain ⟨j,h1,h2,h3,h4,h5⟩:=yD he;obtain ⟨w,ew,rw'⟩:=r.get h2;have hl:=r.length;have hn:=nM;have fin:EP X LI U Q w s:=#[z,H,I,rw',q];exact subscriptTail_builtinR (x:=w) pl.typeIs slot_tuple_getitem.lookup
    (getItem_tuple (j:=j) (Q:=λr s'=>r=w/\EP X LI U Q r s') pl (by lia) (by lia) (by rw[bM,<-hl];exact h1) (by simpa using ew) #[rfl,fin]) hs
def DM (its:List Value)(n j:Nat)(u:Value):Obj.mapSeq (·.setIfInBounds j u) { cls:=.type "list",data:=.seq its.toArray n }={ cls:=.type "list",data:=.seq (its.set j u).toArray n }:=by
  simp[Obj.mapSeq]
def Inv.lst {LI:List (Addr×Obj)}{U:St}{H:Hp}{s:Shared}{p:Addr}{xs:List V}(I:Inv X LI U H s)(h:H p=some (.lst xs)) :
    ∃(its:List Value) (n:Nat),Vals xs its/\s.heap.get? p=some { cls:=.type "list",data:=.seq its.toArray n }/\xs.length<=sizeLine:=by
  obtain ⟨z,its,n,r,e⟩:=I.hok p _ h;exact #[its,n,r,e,z]
def Inv.lstUpd {p:Addr}{xs ys:List V}{its its':List Value}{n n':Nat}{f:Obj->Obj}(I:Inv X LI U H s)(h:H p=some (.lst xs))
    (ho:s.heap.get? p=some { cls:=.type "list",data:=.seq its.toArray n }) (hf:f { cls:=.type "list",data:=.seq its.toArray n }={ cls:=.type "list",data:=.seq its'.toArray n' }) (r:Vals ys its') (hz:ys.length<=sizeLine) (t:Nat) :
    Inv X LI U (upd H p (.lst ys)) { s with heap:=s.heap.update p f,toks:=t }:=by
  have e:(s.heap.update p f).get? p=some { cls:=.type "list",data:=.seq its'.toArray n' }:=by
    rw[si f ho (by rw[hf]<;>rfl),hf]
  refine I.write (x:=p) (e:=p) (by rw[h];trivial) (.inl rfl) (λb u hb q=>(iG _ _ (aT hb)).trans q) #[_,e] ?_;exact #[hz,its',n',r,e]
inductive yE (o:V)(i:V)(v:V)(H:Hp)(Q:Hp->Prop):Prop
  | c:∀ p xs k j,o=.ref p->i=.int k->H p=some (.lst xs)->ixN xs.length k=some j->Q (upd H p (.lst (xs.set j v)))->yE o i v H Q
def jI:PSet X yE:=by
  intro LI s U H o i v ov iv u Q I ro ri rv h;obtain ⟨p,xs,k,j,rfl,rfl,hp,hj,q⟩:=h;cases ro
  obtain ⟨t,rfl⟩:=ri;obtain ⟨its,n,r,ho,hz⟩:=I.lst hp;obtain ⟨h1,h2,h3,h4⟩:=yC hj;have hl:=r.length;have hn:=nM;have I':Inv X LI U (upd H p (.lst (xs.set j v))) { s with heap:=s.heap.update p (Obj.mapSeq (·.setIfInBounds j u)) }:=
    I.lstUpd hp ho (DM its n j u) (r.set rv j) (by rw[mT];exact hz) s.toks
  by_cases h0:0<=k
  · have hk:k.toNat=j:=by
      rw[seqIndex_of h0 h4]at h1;exact aK h1
    exact W.ki_setAt ho h0 (by lia) (by rw[bM,<-hl];exact h4) (by rw[hk];exact #[_,I',q])
  · have hk:(k+(its.toArray.size:Int)).toNat=j:=by
      rw[seqIndex_neg (by lia) h3]at h1;rw[bM,<-hl];exact aK h1
    exact W.ki_setBack ho (by lia) (by rw[bM,<-hl];exact h3) (by lia) (by rw[hk];exact #[_,I',q])
def DN (lo hi:Option Int)(n:Nat):(sliceBounds lo hi none n).1=((HT.sIx n 0 lo:Nat):Int)/\(sliceBounds lo hi none n).2.1=((HT.sIx n n hi:Nat):Int)/\(sliceBounds lo hi none n).2.2=1:=by
  refine #[?_,?_,rfl]
  · cases lo with
    | none=>simp[sliceBounds,HT.sIx]
    | some i=>
      simp only[sliceBounds,HT.sIx,Option.getD_none,show (1:Int)>0 by decide,if_true];by_cases h:i<0
      · simp only[h,if_true]<;>lia
      · simp only[h,if_false]<;>lia
  · cases hi with
    | none=>simp[sliceBounds,HT.sIx]
    | some i=>
      simp only[sliceBounds,HT.sIx,Option.getD_none,show (1:Int)>0 by decide,if_true];by_cases h:i<0
      · simp only[h,if_true]<;>lia
      · simp only[h,if_false]<;>lia
def DO (its:List Value)(lo hi:Option Int):slicePick its.toArray lo hi none=((its.drop (HT.sIx its.length 0 lo)).take (HT.sIx its.length its.length hi-HT.sIx its.length 0 lo)).toArray:=by
  obtain ⟨h1,h2,h3⟩:=DN lo hi its.toArray.size;unfold slicePick;rw[h1,h2,h3];simp only[sliceRange_one,pick_run,bM]<;>rfl
inductive rSlL (K:Frag)(x:V)(lo:Option Int)(hi:Option Int)(H:Hp)(Q:VK):Prop
  | c:∀ a xs,x=.ref a->SqL K H a xs->(∀ p,H p=none->Q (.ref p) (upd H p (.lst (cutV xs lo hi))))->rSlL K x lo hi H Q
def DP:SlR X (rSlL X.K):=by
  intro LI s U H x v vl vu lo hi sl Q I rx hs pl pu h;obtain ⟨a,xs,rfl,hx,q⟩:=h;cases rx
  obtain ⟨its,r,ht,hz⟩:=I.list hx;have hlen:=r.length;refine #["list",_,slot_list_getitem.lookup,ht.isList.typeIs,?_];refine wpAny_getItem_list_slice ht.isList hs pl pu .none (by simp) ?_ (by rw[bM]<;>lia)
  rw[DO,<-hlen];refine #[.ref s.heap.objs.size,_,I.laid (t':=s.toks) (o:=.lst (cutV xs lo hi)) (λb ob q=>aU _ q) (ai _) ?_,rfl,q _ (I.hok.fresh (ai _))];exact #[az (yA xs lo hi) hz,_,0,(r.drop (HT.sIx xs.length 0 lo)).take (HT.sIx xs.length xs.length hi-HT.sIx xs.length 0 lo),cQ _ rfl]
def gc:V->Bool
  | .non=>true
  | .bl _=>true
  | .int _=>true
  | .str _=>true
  | _=>false
def eqV:V->V->Bool
  | .non,.non=>true
  | .bl a,.bl b=>a==b
  | .bl a,.int b=>(if a then 1 else 0)==b
  | .int a,.bl b=>a==(if b then 1 else 0)
  | .int a,.int b=>a==b
  | .str a,.str b=>a==b
  | _,_=>false
def DQ {A:Around}{s:Shared}{y x:V}{u v:Value}(ry:RelV y u)(rx:RelV x v)(fy:gc y=true)(fx:gc x=true):SeqAt.EqAt A s u v (eqV y x):=by
  cases y with
  | non=>
    cases ry
    cases x with
    | non=>cases rx;exact SeqAt.EqAt.same _
    | bl b=>cases rx;exact SeqAt.EqAt.none_bool b
    | int b=>obtain ⟨t,rfl⟩:=rx;exact SeqAt.EqAt.none_int b t
    | str b=>obtain ⟨t,rfl⟩:=rx;exact SeqAt.EqAt.none_str b t
    | _=>exact absurd (show false=true from fx) bY
  | bl a=>
    cases ry
    cases x with
    | non=>cases rx;exact SeqAt.EqAt.bool_none a
    | bl b=>cases rx;exact SeqAt.EqAt.bool_bool a b
    | int b=>obtain ⟨t,rfl⟩:=rx;exact SeqAt.EqAt.bool_int a b t
    | str b=>obtain ⟨t,rfl⟩:=rx;exact SeqAt.EqAt.bool_str a b t
    | _=>exact absurd (show false=true from fx) bY
  | int a=>
    obtain ⟨t',rfl⟩:=ry;cases x with
    | non=>cases rx;exact SeqAt.EqAt.int_none a t'
    | bl b=>cases rx;exact SeqAt.EqAt.int_bool a t' b
    | int b=>obtain ⟨t,rfl⟩:=rx;exact SeqAt.EqAt.int_int a t' b t
    | str b=>obtain ⟨t,rfl⟩:=rx;exact SeqAt.EqAt.int_str a t' b t
    | _=>exact absurd (show false=true from fx) bY
  | str a=>
    obtain ⟨t',rfl⟩:=ry;cases x with
    | non=>cases rx;exact SeqAt.EqAt.str_none a t'
    | bl b=>cases rx;exact SeqAt.EqAt.str_bool a t' b
    | int b=>obtain ⟨t,rfl⟩:=rx;exact SeqAt.EqAt.str_int a t' b t
    | str b=>obtain ⟨t,rfl⟩:=rx;exact SeqAt.EqAt.str_str a t' b t
    | _=>exact absurd (show false=true from fx) bY
  | _=>exact absurd (show false=true from fy) bY
def eqU (x:V)(u:Value):Bool:=match u with
  | .none=>eqV .non x
  | .bool b=>eqV (.bl b) x
  | .int i _=>eqV (.int i) x
  | .str z _=>eqV (.str z) x
  | _=>false
def yF {y:V}{u:Value}(r:RelV y u)(f:gc y=true):eqU x u=eqV y x:=by
  cases y with
  | non=>cases r;rfl
  | bl b=>cases r;rfl
  | int i=>obtain ⟨t,rfl⟩:=r;rfl
  | str z=>obtain ⟨t,rfl⟩:=r;rfl
  | _=>exact absurd (show false=true from f) bY
def lD :∀{xs:List V} {us:List Value},Vals xs us->xs.all gc=true->us.any (eqU x)=xs.any λy=>eqV y x
  | _,_,.nil,_=>rfl
  | y::xs,u::us,.cons r t,f=>by
    rw[mU,d6]at f;rw[gC,gC,yF r f.1,lD t f.2]
def lE {A:Around}{s:Shared}{x:V}{v:Value}(rx:RelV x v)(fx:gc x=true):∀{xs:List V} {us:List Value},Vals xs us->xs.all gc=true->∀ u∈us,SeqAt.EqAt A s u v (eqU x u)
  | _,_,.nil,_=>λu hu=>by cases hu
  | y::xs,u::us,.cons r t,f=>λu' hu=>by
    rw[mU,d6]at f;rcases aX.mp hu with rfl|hu
    · rw[yF r f.1];exact DQ r rx f.1 fx
    · exact lE rx fx t f.2 u' hu
def inV (x:V)(xs:List V):Bool:=xs.any λy=>eqV y x
inductive rIn (K:Frag)(neg:Bool)(x:V)(y:V)(H:Hp)(Q:VK):Prop
  | c:∀ p xs,y=.ref p->(SqL K H p xs\/SqT K H p xs)->gc x=true->xs.all gc=true->Q (.bl (if neg then !inV x xs else inV x xs)) H->rIn K neg x y H Q
def DR:OpR X (compareOp .In) (rIn X.K false):=by
  intro LI s U H x y v u Q I rx ry h;obtain ⟨p,xs,rfl,hq,fx,fs,q⟩:=h;cases ry
  rcases hq with hq|hq
  · obtain ⟨its,r,pl,hz⟩:=I.list hq
    refine SeqAt.in_listAt (eqU x) pl.isList (λw hw=>lE rx fx r fs w (by simpa using hw)) #[.bl _,H,I,rfl,?_];rw[show its.toArray.any (eqU x)=its.any (eqU x) by simp,lD r fs];exact q
  · obtain ⟨its,r,pl,hz⟩:=I.tuple hq
    refine SeqAt.in_tupleAt (eqU x) pl (λw hw=>lE rx fx r fs w (by simpa using hw)) #[.bl _,H,I,rfl,?_];rw[show its.toArray.any (eqU x)=its.any (eqU x) by simp,lD r fs];exact q
def DS:OpR X (compareOp .NotIn) (rIn X.K true):=by
  intro LI s U H x y v u Q I rx ry h;obtain ⟨p,xs,rfl,hq,fx,fs,q⟩:=h;cases ry
  rcases hq with hq|hq
  · obtain ⟨its,r,pl,hz⟩:=I.list hq
    refine SeqAt.notIn_listAt (eqU x) pl.isList (λw hw=>lE rx fx r fs w (by simpa using hw)) #[.bl _,H,I,rfl,?_];rw[show its.toArray.any (eqU x)=its.any (eqU x) by simp,lD r fs];exact q
  · obtain ⟨its,r,pl,hz⟩:=I.tuple hq
    refine SeqAt.notIn_tupleAt (eqU x) pl (λw hw=>lE rx fx r fs w (by simpa using hw)) #[.bl _,H,I,rfl,?_];rw[show its.toArray.any (eqU x)=its.any (eqU x) by simp,lD r fs];exact q
def DT:cT X (.builtin "len") (λxs H Q=>∃ p ys,xs=[.ref p]/\(SqL X.K H p ys\/SqT X.K H p ys)/\Q (.int ys.length) H):=by
  intro LI s U H xs us Q I r h;obtain ⟨p,ys,rfl,hq,q⟩:=h;obtain ⟨u,rfl,rx⟩:=fE r;cases rx
  have hn:=nM;rcases hq with hq|hq
  · obtain ⟨its,r',pl,hz⟩:=I.list hq
    have hlen:=r'.length;exact Calls.call_len_list pl.isList (by simp only[bM]<;>lia) #[.int ys.length,H,I.tok _,#[s.toks+1,by rw[bM,hlen]],q]
  · obtain ⟨its,r',pl,hz⟩:=I.tuple hq
    have hlen:=r'.length;exact len_tuple pl (by simp only[bM]<;>lia) #[.int ys.length,H,I.tok _,#[s.toks+1,by rw[bM,hlen]],q]
def DU:cT X (.type "list") (λxs H Q=>∃ p ys,xs=[.ref p]/\(SqL X.K H p ys\/SqT X.K H p ys)/\∀ l,H l=none->Q (.ref l) (upd H l (.lst ys))):=by
  intro LI s U H xs us Q I r h;obtain ⟨p,ys,rfl,hq,q⟩:=h;obtain ⟨u,rfl,rx⟩:=fE r;cases rx
  have fin:∀(its:List Value),Vals ys its->ys.length<=sizeLine->∀(h':Heap) (c':Nat),(∀ b o',s.heap.get? b=some o'->h'.get? b=some o')->
      h'.get? s.heap.objs.size=some { cls:=.type "list",dict:=none,data:=.seq its.toArray c',slots:=(List.toArray []) }->EP X LI U Q (.ref s.heap.objs.size) { s with heap:=h' }:=λits r' hz h' c' kp e=>
    #[.ref s.heap.objs.size,_,I.laid (t':=s.toks) kp (ai _) (show bB X.prog X.w _ h' _ (.lst ys) from #[hz,its,c',r',e]),rfl,q _ (I.hok.fresh (ai _))]
  rcases hq with hq|hq
  · obtain ⟨its,r',pl,hz⟩:=I.list hq
    have hlen:=r'.length;obtain ⟨o,ho,hc,n,hd⟩:=pl.isList;exact call_list_seq p (.inl rfl) ho hc hd (λh' c' kp e=>fin its r' hz h' c' kp e) (by simp only[bM]<;>lia)
  · obtain ⟨its,r',pl,hz⟩:=I.tuple hq
    have hlen:=r'.length;obtain ⟨o,ho,hc,n,hd⟩:=pl;exact call_list_seq p (.inr rfl) ho hc hd (λh' c' kp e=>fin its r' hz h' c' kp e) (by simp only[bM]<;>lia)
def DV:cT X (.type "tuple") (λxs H Q=>∃ p ys,xs=[.ref p]/\((SqL X.K H p ys/\∀ l,H l=none->Q (.ref l) (upd H l (.tup ys)))\/(SqT X.K H p ys/\Q (.ref p) H))):=by
  intro LI s U H xs us Q I r h;obtain ⟨p,ys,rfl,h⟩:=h;obtain ⟨u,rfl,rx⟩:=fE r;cases rx
  rcases h with ⟨hq,q⟩|⟨hq,q⟩
  · obtain ⟨its,r',pl,hz⟩:=I.list hq
    have hlen:=r'.length;refine call_tuple_list pl.isList (λh' kp=>?_) (by simp only[bM]<;>lia)
    have I1:Inv X LI U H { s with heap:=h' }:=I.kept (t':=s.toks) kp;have I2:Inv X LI U (upd H h'.objs.size (.tup ys)) { s with heap:=h'.push { cls:=.type "tuple",data:=.seq its.toArray } }:=
      I1.laid (t':=s.toks) (λb o e=>aU _ e) (ai _) (show bB X.prog X.w _ _ _ (.tup ys) from #[hz,its,r',IsTup.new _ _])
    exact #[.ref h'.objs.size,_,I2,rfl,q _ (I1.hok.fresh (ai _))]
  · obtain ⟨its,r',pl,hz⟩:=I.tuple hq
    exact call_tuple_same pl #[.ref p,H,I,rfl,q]
def tyV (K:Frag)(T:String)(x:V)(H:Hp):Prop:=match x with
  | .str _=>T = "str"
  | .int _=>T = "int"
  | .ref p=>(T = "list"/\∃ xs,SqL K H p xs)\/(T = "tuple"/\∃ o,K.lookup p=some o/\o.cls=.type "tuple"/\o.dict=none)\/
      (T = "dict"/\((∃ kvs,H p=some (.dK kvs))\/∃ kvs,H p=some (.dT kvs)))\/(T = "set"/\∃ S n,H p=some (.set S n))
  | _=>False
def yG {x:V}{v:Value}(I:Inv X LI U H s)(r:RelV x v)(ty:tyV X.K T x H) :
    s.TypeIs v T/\∀ a,v=.ref a->∃ ob,s.heap.get? a=some ob/\ob.dict=none:=by
  cases x with
  | str z=>
    obtain ⟨t,rfl⟩:=r;cases (show T = "str" from ty)
    exact #[typeIs_str s z t,λ_ e=>nomatch e]
  | int i=>
    obtain ⟨t,rfl⟩:=r;cases (show T = "int" from ty)
    exact #[typeIs_int s i t,λ_ e=>nomatch e]
  | ref p=>
    cases r
    rcases ty with ⟨rfl,xs,hq⟩|⟨rfl,o,hk,hc,hd⟩|⟨rfl,hk⟩|⟨rfl,S,n,hk⟩
    · obtain ⟨its,_,pl,_⟩:=I.list hq
      refine #[pl.isList.typeIs,λa e=>?_];cases e
      obtain ⟨o,n,e,c,hd,_⟩:=pl;exact #[o,e,hd]
    · refine #[#[o,I.kIn p o hk,hc],λa e=>?_]
      cases e
      exact #[o,I.kIn _ o hk,hd]
    · have z:∃ o,s.heap.get? p=some o/\o.ExactDict:=by
        rcases hk with ⟨kvs,hk⟩|⟨kvs,hk⟩
        · obtain ⟨_,_,_,_,o,_,_,e,ex,_⟩:=I.hok p _ hk
          exact #[o,e,ex]
        · obtain ⟨_,_,_,_,o,_,_,e,ex,_⟩:=I.hok p _ hk
          exact #[o,e,ex]
      obtain ⟨o,e,ex⟩:=z;refine #[#[o,e,ex.1],λa e2=>?_];cases e2
      exact #[o,e,ex.2.1]
    · obtain ⟨o,_,_,_,e,ex,_⟩:=I.hok p _ hk
      refine #[#[o,e,ex.1],λa e2=>?_];cases e2
      exact #[o,e,ex.2.1]
  | _=>exact False.elim ty
inductive yH (K:Frag)(T:String)(r:V->List V->Hp->VK->Prop)(Q:VK)(x:V)(H1:Hp):Prop
  | c:tyV K T x H1->r x [] H1 Q->yH K T r Q x H1
def tBM0 (K:Frag)(T:String)(r:V->List V->Hp->VK->Prop)(to:TE):TE:=λU H Q=>to U H λx H1=>yH K T r Q x H1
inductive GtBM (K:Frag)(T:String)(r:V->List V->Hp->VK->Prop)(t:TA)(U:St)(Q:VK)(x:V)(H1:Hp):Prop
  | c:tyV K T x H1->(t U H1 λxs H2=>r x xs H2 Q)->GtBM K T r t U Q x H1
def tBM (K:Frag)(T:String)(r:V->List V->Hp->VK->Prop)(to:TE)(t:TA):TE:=λU H Q=>to U H λx H1=>GtBM K T r t U Q x H1
variable {o e:Expr}{es:List Expr}{to:TE}{t:TA}{name:Str}{apos cpos:Pos}{T id:String}{r:V->List V->Hp->VK->Prop}
def DW (pa:PlainAttrs T)(slot:Slot T name id)(hty:typeOf (.builtin id)=pure (.type "method_descriptor"))(hm:MtR X id r)(ho:PE X o to)
    (hbase:attributeBase o name X.env (eval o X.env)=eval o X.env:=by rfl) (hline:(apos.endLine==cpos.line)=true:=by rfl):PE X (.Call (.Attribute o name apos) [] [] cpos) (tBM0 X.K T r to):=by
  intro LI s U H Q I h;refine wpAny_Call_method0_late hbase hline (thn (ho LI s U H _ I h) λv s1 zq0=>?_);obtain ⟨x,H1,I1,r1,ty,q1⟩:=zq0;obtain ⟨h1,h2⟩:=yG I1 r1 ty;exact #[T,id,pa,slot,hty,h1,h2,Calls.callWith_builtin rfl (PySem.evalArgs_none (hm LI s1 U H1 x [] v [] Q I1 r1 .nil q1))]
def dU (pa:PlainAttrs T)(slot:Slot T name id)(hty:typeOf (.builtin id)=pure (.type "method_descriptor"))(hm:MtR X id r)(ho:PE X o to)(ha:PA X (e::es) t)
    (hbase:attributeBase o name X.env (eval o X.env)=eval o X.env:=by rfl)
    (hfew:((backTo cpos (starEach (e::es) X.env)).all (λx=>!x.1) && (backToKw cpos (keywordEach [] X.env)).all (λx=>x.1.isSome)
      && decide ((e::es).length+([]:List Keyword).length+(if ([]:List Keyword).isEmpty then 0 else 1)<30))=true:=by rfl)
    (hline:(apos.endLine==cpos.line)=true:=by rfl) (hs:starEach (e::es) X.env=(false,eval e X.env)::starEach es X.env:=by rfl) (hplain:(backTo cpos (starEach es X.env)).any (·.1)=false:=by rfl) :
    PE X (.Call (.Attribute o name apos) (e::es) [] cpos) (tBM X.K T r to t):=by
  intro LI s U H Q I h;refine wpAny_Call_method_late hbase hfew hline rfl (thn (ho LI s U H _ I h) λv s1 zq0=>?_);obtain ⟨x,H1,I1,r1,ty,q1⟩:=zq0;obtain ⟨h1,h2⟩:=yG I1 r1 ty;refine #[T,id,pa,slot,hty,h1,h2,?_];have hA:=ha cpos LI s1 U H1 _ I1 q1;rw[hs]at hA ⊢;refine Calls.callWith_builtin (by show (false||(backTo cpos (starEach es X.env)).any (·.1))=false;rw[hplain]<;>rfl) (Calls.evalArgs_plain ?_)
  exact thn hA λus s2 zq0=>(by obtain ⟨vs,H2,I2,r2,q2⟩:=zq0;exact hm LI s2 U H2 x vs v us Q I2 r1 r2 q2)
end
def MtM (X:Cx)(id:String)(r:V->List V->Hp->VK->Prop):Prop:=
  ∀(LI:List (Addr×Obj)) (s:Shared) (U:St) (H:Hp) (x:V) (xs:List V) (v:Value) (us:List Value) (Q:VK),Inv X LI U H s->RelV x v->Vals xs us->r x xs H Q->
    wpAny (model X.prog X.w) X.A (call (.builtin id) (v::us)) (EP X LI U Q) X.xe s
def Vals.one:∀{x:V} {us:List Value},Vals [x] us->∃ u,us=[u]/\RelV x u
  | _,_,.cons r .nil=>#[_,rfl,r]
section
variable {X:Cx}{LI:List (Addr×Obj)}{U:St}{H:Hp}{s:Shared}{l b:Addr}{xs ys zs:List V}
def Inv.lset {its its':List Value}{n:Nat}{f:Array Value->Array Value}{t':Nat}(I:Inv X LI U H s)(hH:H l=some (.lst xs))
    (e:s.heap.get? l=some { cls:=.type "list",data:=.seq its.toArray n }) (hf:f its.toArray=its'.toArray) (hv:Vals ys its') (hz:ys.length<=sizeLine) :
    Inv X LI U (upd H l (.lst ys)) { s with heap:=s.heap.update l (Obj.mapSeq f),toks:=t' }:=by
  have q:=PySem.IsL.update e f;rw[hf]at q;refine I.write (x:=l) (e:=l) (by rw[hH];exact trivial) (.inl rfl) (λb' u hb hu=>(iG s.heap (Obj.mapSeq f) (aT hb)).trans hu) #[_,q] ?_;exact #[hz,its',_,hv,q]
def Inv.lnew {its:List Value}{t':Nat}(I:Inv X LI U H s)(hv:Vals ys its)(hz:ys.length<=sizeLine) :
    Inv X LI U (upd H s.heap.objs.size (.lst ys)) { s with heap:=s.heap.push { cls:=.type "list",data:=.seq its.toArray },toks:=t' }:=
  I.laid (λ_ _ q=>aU _ q) (ai _) #[hz,its,0,hv,cQ _ rfl]
def Inv.fresh (I:Inv X LI U H s):H s.heap.objs.size=none:=I.hok.fresh (ai _)
def Inv.lstM (I:Inv X LI U H s)(hH:H l=some (.lst xs)):xs.length<=sizeLine/\∃(its:List Value) (n:Nat),Vals xs its/\xs.length=its.length/\s.heap.get? l=some { cls:=.type "list",data:=.seq its.toArray n }:=by
  obtain ⟨z,its,n,r,e⟩:=I.hok l _ hH;exact #[z,its,n,r,r.length,e]
def DX {n:Nat}(h:n<=sizeLine):Builtin.List.listTooLong n=false:=by
  unfold Builtin.List.listTooLong;exact bD (by lia)
end
section
variable {X:Cx}
inductive yI (x:V)(vs:List V)(H:Hp)(Q:VK):Prop
  | c:∀ l xs y,x=.ref l->vs=[y]->H l=some (.lst xs)->xs.length<sizeLine->Q .non (upd H l (.lst (xs++[y])))->yI x vs H Q
def dD:MtM X "list.append" yI:=by
  intro LI s U H x vs v us Q I rx rv h;obtain ⟨l,xs,y,rfl,rfl,hH,hz,q⟩:=h;cases rx
  obtain ⟨u,rfl,ru⟩:=rv.one;obtain ⟨z,its,n,r,hl,e⟩:=I.lstM hH;refine call_meets F.slot_list_append #[_,e,rfl] F.entry_list_append (F.args_list_append_2 _ _) (PySem.list_append l its.toArray n u (by rw[bM];lia)) #[e,?_];refine #[.non,_,I.lset (its':=its++[u]) hH e (by simp) (r.append (.cons ru .nil)) ?_,rfl,q];rw[aV,di];lia
inductive yJ (x:V)(vs:List V)(H:Hp)(Q:VK):Prop
  | c:∀ l b xs zs,x=.ref l->vs=[.ref b]->H l=some (.lst xs)->H b=some (.lst zs)->xs.length+zs.length<=sizeLine->Q .non (upd H l (.lst (xs++zs)))->yJ x vs H Q
def DY:MtM X "list.extend" yJ:=by
  intro LI s U H x vs v us Q I rx rv h;obtain ⟨l,b,xs,zs,rfl,rfl,hH,hB,hz,q⟩:=h;cases rx
  obtain ⟨u,rfl,ru⟩:=rv.one;cases ru
  obtain ⟨z,its,n,r,hl,e⟩:=I.lstM hH;obtain ⟨z2,its2,n2,r2,hl2,e2⟩:=I.lstM hB;have hsz:its.toArray.size+its2.toArray.size<=sizeLine:=by rw[bM,bM];lia
  have hlong:¬ (!its.toArray.isEmpty&&Builtin.List.listTooLong (its.toArray.size+its2.toArray.size))=true:=by
    rw[DX hsz,Bool.and_false];exact bY
  refine call_meets F.slot_list_extend #[_,e,rfl] F.entry_list_extend (F.args_list_extend_2 _ _)
    (AutoSeq1.list_extend_list_list_0 l its.toArray n b its2.toArray n2 hlong (by rw[bM];lia) (by lia)) #[e,e2,?_]
  refine #[.non,_,I.lset (its':=its++its2) hH e (by simp) (r.append r2) ?_,rfl,q];rw[aV];lia
inductive rCat (x:V)(y:V)(H:Hp)(Q:VK):Prop
  | c:∀ l b xs zs,x=.ref l->y=.ref b->H l=some (.lst xs)->H b=some (.lst zs)->xs.length+zs.length<=sizeLine->(∀ p,H p=none->Q (.ref p) (upd H p (.lst (xs++zs))))->rCat x y H Q
def yK:OpR X (binaryOp .Add) rCat:=by
  intro LI s U H x y v u Q I rx ry h;obtain ⟨l,b,xs,zs,rfl,rfl,hH,hB,hz,q⟩:=h;cases rx
  cases ry
  obtain ⟨z,its,n,r,hl,e⟩:=I.lstM hH;obtain ⟨z2,its2,n2,r2,hl2,e2⟩:=I.lstM hB;refine PySem.P.add_list e e2 ?_ (by rw[bM,bM];lia);have ea:its.toArray++its2.toArray=(its++its2).toArray:=by simp
  rw[ea];exact #[.ref _,_,I.lnew (t':=s.toks) (r.append r2) (by rw[aV];lia),rfl,q _ I.fresh]
end
section
variable {κ:Type}[DecidableEq κ]
def valV (kvs:List (κ×V))(k:κ):Option V:=(kvs.find? λkv=>decide (kv.1=k)).map (·.2)
def putK (kvs:List (κ×V))(k:κ)(v:V):List (κ×V):=
  if (kvs.any λkv=>decide (kv.1=k))=true then kvs.map (λkv=>if kv.1=k then (kv.1,v) else kv) else kvs++[(k,v)]
def ij {p:κ×V}{r:List (κ×V)}{k:κ}(e:p.1=k):valV (p::r) k=some p.2:=by simp[valV,jl,e]
def fF {p:κ×V}{r:List (κ×V)}{k:κ}(e:¬ p.1=k):valV (p::r) k=valV r k:=by simp[valV,jl,e]
def tm (k:κ):∀ kvs:List (κ×V),(kvs.any λkv=>decide (kv.1=k))=(valV kvs k).isSome
  | []=>rfl
  | p::r=>by
    rw[gC];by_cases e:p.1=k
    · simp only[ij e,bg e,Bool.true_or,Option.isSome_some]
    · rw[fF e,bD e,Bool.false_or];exact tm k r
def nN (kvs:List (κ×V))(k:κ)(v:V):(putK kvs k v).length<=kvs.length+1:=by
  unfold putK;split
  · rw[aq];lia
  · rw[aV,cR,mV];lia
def lF {kvs:List (κ×V)}{k:κ}(v:V)(h:valV kvs k=none):putK kvs k v=kvs++[(k,v)]:=by
  unfold putK;rw[tm,h];exact ag (by decide)
def RelO.isSome_eq {o:Option V}{u:Option Value}(r:RelO o u):o.isSome=u.isSome:=by
  cases o with
  | none=>cases u with
    | none=>rfl
    | some _=>exact (show False from r).elim
  | some _=>cases u with
    | none=>exact (show False from r).elim
    | some _=>rfl
def RelO.getD {o:Option V}{u:Option Value}{d:V}{d':Value}(r:RelO o u)(rd:RelV d d'):RelV (o.getD d) (u.getD d'):=by
  cases o with
  | none=>cases u with
    | none=>exact rd
    | some _=>exact (show False from r).elim
  | some _=>cases u with
    | none=>exact (show False from r).elim
    | some _=>exact r
def KV.val {kvs:List (κ×V)}{vs:List (κ×Value)}(r:KV kvs vs)(k:κ):RelO (valV kvs k) (valueAt vs k):=by
  unfold KV at r
  induction r with
  | nil=>exact True.intro
  | @cons p q ps qs h t ih=>
    obtain ⟨h1,h2⟩:=h;by_cases e:p.1=k
    · have e':q.1=k:=h1.symm.trans e
      have b:valueAt (q::qs) k=some q.2:=by simp[valueAt,jl,e']
      rw[ij e,b];exact h2
    · have e':¬ q.1=k:=λz=>e (h1.trans z)
      have b:valueAt (q::qs) k=valueAt qs k:=by simp[valueAt,jl,e']
      rw[fF e,b];exact ih
def KV.any {kvs:List (κ×V)}{vs:List (κ×Value)}(r:KV kvs vs)(k:κ):(kvs.any λkv=>decide (kv.1=k))=vs.any λkv=>decide (kv.1=k):=by
  unfold KV at r
  induction r with
  | nil=>rfl
  | cons h t ih=>rw[gC,gC,ih,h.1]
def KV.repl {kvs:List (κ×V)}{vs:List (κ×Value)}(r:KV kvs vs)(k:κ){y:V}{u:Value}(ry:RelV y u) :
    KV (kvs.map λkv=>if kv.1=k then (kv.1,y) else kv) (vs.map λkv=>if kv.1=k then (kv.1,u) else kv):=by
  unfold KV at r ⊢
  induction r with
  | nil=>exact .nil
  | @cons p q ps qs h t ih=>
    rw[bS,bS];refine .cons ?_ ih;obtain ⟨h1,h2⟩:=h;by_cases e:p.1=k
    · rw[af e,af (h1.symm.trans e)];exact #[h1,ry]
    · rw[ag e,ag (λz=>e (h1.trans z))];exact #[h1,h2]
def KV.put {kvs:List (κ×V)}{vs:List (κ×Value)}(r:KV kvs vs)(k:κ){y:V}{u:Value}(ry:RelV y u):KV (putK kvs k y) (stored vs k u):=by
  unfold putK stored;rw[r.any k];by_cases e:(vs.any λkv=>decide (kv.1=k))=true
  · rw[af e,af e];exact r.repl k ry
  · rw[ag e,ag e];exact Paired.snoc r #[rfl,ry]
def KV.length {kvs:List (κ×V)}{vs:List (κ×Value)}(r:KV kvs vs):kvs.length=vs.length:=Paired.length r
end
def jJ {k:Key}{u:Value}(r:RelV (kV k) u):(bz P w).is k u=true:=by
  cases k with
  | inl i=>obtain ⟨t,e⟩:=(show ∃ t,u=Value.int i t from r);subst e;exact sQ P w i t
  | inr x=>obtain ⟨t,e⟩:=(show ∃ t,u=Value.str x t from r);subst e;exact C1 P w x t
def yL :∀{ks:List Key} {us:List Value},Vals (ks.map kV) us->ItemsAre (bz P w) ks us
  | [],_,r=>by rw[jm]at r;cases r;exact .nil
  | k::ks,_,r=>by
    rw[bS]at r;cases r with
    | cons h t=>exact .cons (jJ h) (yL t)
abbrev KT (H:Hp):List (List Key×V)->List (List Key×Addr×Value)->Prop:=Paired λp q=>p.1=q.1/\H q.2.1=some (.tup (p.1.map kV))/\RelV p.2 q.2.2
def KT.val {kvs:List (List Key×V)}{xs:List (List Key×Addr×Value)}(r:KT H kvs xs)(k:List Key):RelO (valV kvs k) ((atKey xs k).map (·.2)):=by
  induction r with
  | nil=>exact True.intro
  | @cons p q ps qs h t ih=>
    obtain ⟨h1,_,h2⟩:=h;by_cases e:p.1=k
    · have e':q.1=k:=h1.symm.trans e
      have b:atKey (q::qs) k=some q.2:=by simp[atKey,jl,e']
      rw[ij e,b];exact h2
    · have e':¬ q.1=k:=λz=>e (h1.trans z)
      have b:atKey (q::qs) k=atKey qs k:=by simp[atKey,jl,e']
      rw[fF e,b];exact ih
def KT.repl {kvs:List (List Key×V)}{xs:List (List Key×Addr×Value)}(r:KT H kvs xs)(k:List Key){y:V}{u:Value}(ry:RelV y u) :
    KT H (kvs.map λkv=>if kv.1=k then (kv.1,y) else kv) (xs.map (putAt k u)):=by
  induction r with
  | nil=>exact .nil
  | @cons p q ps qs h t ih=>
    rw[bS,bS];refine .cons ?_ ih;obtain ⟨h1,h2,h3⟩:=h;unfold putAt;by_cases e:p.1=k
    · rw[af e,af (h1.symm.trans e)];exact #[h1,h2,ry]
    · rw[ag e,ag (λz=>e (h1.trans z))];exact #[h1,h2,h3]
def KT.put {kvs:List (List Key×V)}{xs:List (List Key×Addr×Value)}(r:KT H kvs xs)(k:List Key){b:Addr}{y:V}{u:Value}(hb:H b=some (.tup (k.map kV)))(ry:RelV y u) :
    KT H (putK kvs k y) (storedH xs k b u):=by
  have e:(kvs.any λkv=>decide (kv.1=k))=(atKey xs k).isSome:=by
    rw[tm,(r.val k).isSome_eq,Option.isSome_map]
  unfold putK storedH;rw[e];by_cases q:(atKey xs k).isSome=true
  · rw[af q,af q];exact r.repl k ry
  · rw[ag q,ag q];exact Paired.snoc r #[rfl,hb,ry]
def KT.keeps {H':Hp}{kvs:List (List Key×V)}{xs:List (List Key×Addr×Value)}(r:KT H kvs xs)(ht:∀ b ys,H b=some (.tup ys)->H' b=some (.tup ys)):KT H' kvs xs:=
  Paired.mapP r λ_ _ z=>#[z.1,ht _ _ z.2.1,z.2.2]
section
variable {P:Program}{w:World}{H:Hp}{h:Heap}{a:Addr}
def yM (ok:HOk P w H h)(e:Rd H a u):bB P w H h a u:=e.ok ok
def lG {kvs:List (Key×V)}(ok:HOk P w H h)(e:Rd H a (.dK kvs)):kvs.length<=sizeLine/\(a==sysModules)=false/\∃ vs,KV kvs vs/\h.DictOf (bz P w) a vs:=
  show bB P w H h a (.dK kvs) from yM ok e
def tq {kvs:List (Key×V)}(ok:HOk P w H h)(e:H a=some (.dK kvs)):kvs.length<=sizeLine/\(a==sysModules)=false/\∃ vs,KV kvs vs/\h.DictOf (bz P w) a vs:=lG ok (.inl e)
def nO {ks:List Key}(ok:HOk P w H h)(e:H a=some (.tup (ks.map kV))):(tupleKind (bz P w)).is h ks a:=by
  obtain ⟨_,its,r,o,h1,h2,n,h3⟩:=(show bB P w H h a (.tup (ks.map kV)) from ok a _ e);exact #[o,its.toArray,n,h1,h2,h3,by simpa using yL r]
def lH {kvs:List (List Key×V)}(ok:HOk P w H h)(e:Rd H a (.dT kvs)):kvs.length<=sizeLine/\(a==sysModules)=false/\
    ∃ xs,KT H kvs xs/\h.DictOfH (tupleKind (bz P w)) a xs:=by
  obtain ⟨z,y,xs,r,o,es,ep,h1,h2,h3,h4,h5⟩:=(show bB P w H h a (.dT kvs) from yM ok e);refine #[z,y,xs,r,o,es,ep,h1,h2,h3,h4,λx hx=>?_,h5];have all:∀{l:List (List Key×V)} {m:List (List Key×Addr×Value)},KT H l m->∀ x∈m,(tupleKind (bz P w)).is h x.1 x.2.1:=by
    intro l m q
    induction q with
    | nil=>intro x hx;exact nomatch hx
    | @cons p q ps qs hq t ih=>
      intro x hx;rcases aX.mp hx with e|hx
      · subst e
        exact nO ok (by rw[<-hq.1];exact hq.2.1)
      · exact ih x hx
  exact all r x hx
def DZ {kvs:List (List Key×V)}(ok:HOk P w H h)(e:H a=some (.dT kvs)):kvs.length<=sizeLine/\(a==sysModules)=false/\
    ∃ xs,KT H kvs xs/\h.DictOfH (tupleKind (bz P w)) a xs:=lH ok (.inl e)
end
def DGet (H:Hp)(a:Addr)(y:V)(r:Option V):Prop:=
  (∃ kvs k,Rd H a (.dK kvs)/\y=kV k/\r=valV kvs k)\/∃ kvs k b,Rd H a (.dT kvs)/\y=.ref b/\H b=some (.tup (k.map kV))/\r=valV kvs k
def DPut (H:Hp)(a:Addr)(y v:V)(H':Hp):Prop:=
  (∃ kvs k,H a=some (.dK kvs)/\y=kV k/\kvs.length<sizeLine/\H'=upd H a (.dK (putK kvs k v)))\/
  ∃ kvs k b,H a=some (.dT kvs)/\y=.ref b/\H b=some (.tup (k.map kV))/\kvs.length<sizeLine/\H'=upd H a (.dT (putK kvs k v))
def DGet.k {H:Hp}{a:Addr}{kvs:List (Key×V)}{k:Key}(e:H a=some (.dK kvs)):DGet H a (kV k) (valV kvs k):=.inl #[kvs,k,.inl e,rfl,rfl]
def DGet.t {H:Hp}{a b:Addr}{kvs:List (List Key×V)}{k:List Key}(e:H a=some (.dT kvs))(eb:H b=some (.tup (k.map kV))):DGet H a (.ref b) (valV kvs k):=.inr #[kvs,k,b,.inl e,rfl,eb,rfl]
def DPut.k {H:Hp}{a:Addr}{kvs:List (Key×V)}{k:Key}(e:H a=some (.dK kvs))(hl:kvs.length<sizeLine):DPut H a (kV k) v (upd H a (.dK (putK kvs k v))):=.inl #[kvs,k,e,rfl,hl,rfl]
def DPut.t {H:Hp}{a b:Addr}{kvs:List (List Key×V)}{k:List Key}(e:H a=some (.dT kvs))(eb:H b=some (.tup (k.map kV)))(hl:kvs.length<sizeLine) :
    DPut H a (.ref b) v (upd H a (.dT (putK kvs k v))):=.inr #[kvs,k,b,e,rfl,eb,hl,rfl]
section
variable {X:Cx}{LI:List (Addr×Obj)}{U:St}{H:Hp}{s:Shared}{a:Addr}{y v:V}{u r:Value}{o:Option V}{A:Around}{E:Value->Shared->Prop}
def Inv.big (I:Inv X LI U H s):sysModules<s.heap.objs.size:=by
  have h:mainGlobals<s.heap.objs.size:=(I.mod.glob.keeps I.bk).lt;exact jn (by decide) h
def D0 {Q:Value->Shared->Prop}(hu:A.units+1<cLine)(I:Inv X LI U H s)(g:DGet H a y (some v))(ry:RelV y u)(h:∀ w' s',Inv X LI U H s'->RelV v w'->Q w' s') :
    wpAny (model X.prog X.w) A (getItem (.ref a) u) Q E s:=by
  rcases g with ⟨kvs,k,e,ey,l⟩|⟨kvs,k,b,e,ey,eb,l⟩
  · subst ey
    obtain ⟨z,hd,vs,rel,dd⟩:=lG I.hok e;obtain ⟨w',hw,rw'⟩:=RelO.some_of (v:=v) (o:=valueAt vs k) (by rw[l];exact rel.val k);exact wpAny_getItem_of (jJ ry) dd.mapOf hw (h w' _ (I.tok _) rw')
  · subst ey
    cases (show u=Value.ref b from ry)
    obtain ⟨z,hd,xs,rel,dd⟩:=lH I.hok e;obtain ⟨w',hw,rw'⟩:=RelO.some_of (v:=v) (o:=(atKey xs k).map (·.2)) (by rw[l];exact rel.val k);obtain ⟨p,hp,hp2⟩:=eV.mp hw;refine wpAny_getItem_heap (tupleKind_room_in1 hu) (nO I.hok eb) dd hp ?_;rw[hp2];exact h w' _ (I.tok _) rw'
def tu {h':Heap}{t':Nat}(I:Inv X LI U H s)(mu:Mut (H a))(hs:Heap.SameBut a s.heap h')(he:∃ q,h'.get? a=some q)(new:bB X.prog X.w (upd H a ob) h' a ob) :
    Inv X LI U (upd H a ob) { s with heap:=h',toks:=t' }:=
  I.write (x:=a) (e:=a) mu (.inl rfl) (λb q hb z=>(hs.2 b hb).trans z) he new
def yN {h':Heap}{kvs:List (Key×V)}{vs:List (Key×Value)}(z:kvs.length<=sizeLine)(hd:(a==sysModules)=false)(rel:KV kvs vs)(dd:h'.DictOf (bz P w) a vs) :
    bB P w H' h' a (.dK kvs):=#[z,hd,vs,rel,dd]
def D1 {Q:Unit->Shared->Prop}(hu:A.units+1<cLine)(I:Inv X LI U H s)(g:DPut H a y v H')(ry:RelV y u)(rv:RelV v r)(h:∀ s',Inv X LI U H' s'->Q () s') :
    wpAny (model X.prog X.w) A (setItem (.ref a) u r) Q E s:=by
  rcases g with ⟨kvs,k,e,ey,l,eH⟩|⟨kvs,k,b,e,ey,eb,l,eH⟩
  · subst ey eH
    obtain ⟨z,hd,vs,rel,dd⟩:=tq I.hok e;have hz:vs.length<=sizeLine:=by rw[<-rel.length];exact z
    have hl:(putK kvs k v).length<=sizeLine:=by have:=nN kvs k v;lia
    refine wpAny_setItem_pairs (hsz:=hz) (jJ ry) dd λh' dd' hs=>h _ ?_;have he:∃ q,h'.get? a=some q:=let ⟨q,_,_,hq,_⟩:=dd';#[q,hq];exact tu I (by rw[e];exact True.intro) hs he (yN hl hd (rel.put k rv) dd')
  · subst ey eH
    cases (show u=Value.ref b from ry)
    obtain ⟨z,hd,xs,rel,dd⟩:=DZ I.hok e;have hz:xs.length<=sizeLine:=by rw[<-Paired.length rel];exact z
    have hl:(putK kvs k v).length<=sizeLine:=by have:=nN kvs k v;lia
    refine wpAny_setItem_heap (hsz:=hz) (tupleKind_room_in1 hu) (nO I.hok eb) dd λh' dd' hs=>h _ ?_;obtain ⟨q,es,ep,hq,h2,h3,h4,_,h5⟩:=dd';refine tu I (by rw[e];exact True.intro) hs #[q,hq] #[hl,hd,_,(rel.put k eb rv).keeps λc ys ec=>?_,q,es,ep,hq,h2,h3,h4,h5];rw[ak (xE ec e nofun)];exact ec
end
def NoSl (i:Expr):Prop:=∀ ov iv,subscripted i false ov iv=operate [ov,iv] (getItem ov iv)
def D4 {prog:Program}{w:World}{A:Around}{E:Value->Shared->Prop}{s:Shared}{env:Env}{value:Expr}{pos:Pos}{T id:String}{Q:Value->Shared->Prop}
    (hl:typeLookup (.type T) "__getitem__" = pure (some (.builtin id))) (hs:NoSl slice)
    (h:wpAny (model prog w) A (eval value env) (λo s₁=>wpAny (model prog w) A (eval slice env) (λi s₂=>s₂.TypeIs o T/\wpAny (model prog w) A (getItem o i) Q E s₂) E s₁) E s) :
    wpAny (model prog w) A (eval (.Subscript value slice pos) env) Q E s:=by
  refine Subscript_ (dM h (λo s₁ h₁=>dM h₁ (λi s₂ h₂=>?_) λ_ _ x=>x) λ_ _ x=>x);obtain ⟨hT,h₂⟩:=h₂;unfold subscriptTail;refine ao ?_;rw[getitemInPython_of_ne hT.not_modules];refine ao (wpAny_specialOf hT hl ?_);have fin:wpAny (model prog w) A (subscripted slice false o i) (λr s₃=>wpAny (model prog w) A (letTemporaryGo value o r >>= λ_=>pure r) Q E s₃) E s₂:=by
    rw[hs o i];exact wpAny_operating (dM h₂ (λr s₃ h₃=>ao (wpAny_letTemporaryGo (aC h₃))) λ_ _ x=>x)
  first
    | exact aC (ao fin)
    | exact ao (aC (ao fin))
    | exact ao fin
def D5 {a:Addr}(I:Inv X LI U H s)(g:DGet H a y o):s.TypeIs (.ref a) "dict":=by
  rcases g with ⟨kvs,k,e,_,_⟩|⟨kvs,k,b,e,_,_,_⟩
  · obtain ⟨_,_,vs,_,dd⟩:=lG I.hok e
    exact dd.typeIs
  · obtain ⟨_,_,xs,_,dd⟩:=lH I.hok e
    exact dd.typeIs
inductive yO (Q:VK)(x:V)(y:V)(H2:Hp):Prop
  | c:∀ a v,x=.ref a->DGet H2 a y (some v)->Q v H2->yO Q x y H2
def D6 (td ty:TE):TE:=λU H Q=>td U H λx H1=>ty U H1 λy H2=>yO Q x y H2
inductive yP (D:Ends)(U:St)(v:V)(x:V)(y:V)(H3:Hp):Prop
  | c:∀ a H4,x=.ref a->DPut H3 a y v H4->D.nx U H4->yP D U v x y H3
def D7 (td ty tv:TE):TS:=λD U H=>tv U H λv H1=>td U H1 λx H2=>ty U H2 λy H3=>yP D U v x y H3
section
variable {X:Cx}{o i e value:Expr}{pos pos' tpos:Pos}{td ty tv:TE}
def gO (hu:X.A.units+1<cLine)(ho:PE X o td)(hi:PE X i ty)(hs:NoSl i):PE X (.Subscript o i pos) (D6 td ty):=by
  intro LI s U H Q I h;refine D4 PySem.F.slot_dict_getitem.lookup hs (thn (ho LI s U H _ I h) λu s1 zq0=>?_);obtain ⟨x,H1,I1,rx,q1⟩:=zq0;refine thn (hi LI s1 U H1 _ I1 q1) λiv s2 cL=>?_;obtain ⟨y,H2,I2,ry,a,v,ex,g,q2⟩:=cL;subst ex;obtain rfl:u=Value.ref a:=rx;exact #[D5 I2 g,D0 hu I2 g ry λw' s3 I3 rw'=>#[v,H2,I3,rw',q2]]
def jK (hu:X.A.units+1<cLine)(ho:PE X o td)(hi:PE X i ty)(hv:PE X value tv)(hs:swapsWith value (some (.Subscript o i pos')) pos.line X.env=pure false) :
    PS X (.Assign [.Subscript o i pos'] value pos) (D7 td ty tv):=by
  intro LI s U H D I h;refine wpAny_Assign_Subscript (thn (hv LI s U H _ I h) λr s1 zq0=>?_) hs;obtain ⟨v,H1,I1,rv,q1⟩:=zq0;refine thn (ho LI s1 U H1 _ I1 q1) λu s2 cL=>?_;obtain ⟨x,H2,I2,rx,q2⟩:=cL;refine thn (hi LI s2 U H2 _ I2 q2) λiv s3 zq2=>?_;obtain ⟨y,H3,I3,ry,a,H4,ex,g,q3⟩:=zq2;subst ex;obtain rfl:u=Value.ref a:=rx;exact D1 hu I3 g ry rv λs4 I4=>#[U,H4,I4,q3]
end
def yQ (h:Heap)(hb:sysModules<h.objs.size):bB P w H (h.push { cls:=.type "dict",data:=.dict (List.toArray []) }) h.objs.size (.dK []):=
  #[bG _,beq_eq_false_iff_ne.mpr (aT (bh hb)),[],.nil,Heap.DictOf.new h]
def D8 (h:Heap)(hb:sysModules<h.objs.size):bB P w H (h.push { cls:=.type "dict",data:=.dict (List.toArray []) }) h.objs.size (.dT []):=
  #[bG _,beq_eq_false_iff_ne.mpr (aT (bh hb)),[],.nil,_,(List.toArray []),0,cQ _ rfl,#[rfl,rfl,rfl],rfl,rfl,gD]
def D9:TE:=λ_ H Q=>∀ p,H p=none->Q (.ref p) (upd H p (.dK []))
def Ea:TE:=λ_ H Q=>∀ p,H p=none->Q (.ref p) (upd H p (.dT []))
section
variable {X:Cx}{pos:Pos}
def yR:PE X (.Dict [] [] pos) D9:=λLI s U H Q I h=>
  wpAny_Dict_empty #[.ref s.heap.objs.size,_,I.laid (a:=s.heap.objs.size) (o:=.dK []) (t':=s.toks) (λ_ _ q=>aU _ q) (ai _) (yQ s.heap I.big),rfl,h _ (I.hok.fresh (ai _))]
def Eb:PE X (.Dict [] [] pos) Ea:=λLI s U H Q I h=>
  wpAny_Dict_empty #[.ref s.heap.objs.size,_,I.laid (a:=s.heap.objs.size) (o:=.dT []) (t':=s.toks) (λ_ _ q=>aU _ q) (ai _) (D8 s.heap I.big),rfl,h _ (I.hok.fresh (ai _))]
end
def tw:List (TE×TE)->St->Hp->(List (V×V)->Hp->Prop)->Prop
  | [],_,H,Q=>Q [] H
  | (tk,tv)::r,U,H,Q=>tk U H λx H1=>tv U H1 λy H2=>tw r U H2 λps H3=>Q ((x,y)::ps) H3
abbrev VV:List (V×V)->List (Value×Value)->Prop:=Paired λp q=>RelV p.1 q.1/\RelV p.2 q.2
def PPs (X:Cx)(pos:Pos)(keys:List (Option Expr))(values:List Expr)(trs:List (TE×TE)):Prop:=
  ∀(LI:List (Addr×Obj)) (s:Shared) (U:St) (H:Hp) (Q:List (V×V)->Hp->Prop),Inv X LI U H s->tw trs U H Q->
    wpAny (model X.prog X.w) X.A (evalPairs (pairTrees keys values X.env pos)) (λvs s'=>∃ ps H',Inv X LI U H' s'/\VV ps vs/\Q ps H') X.xe s
def Ec :PPs X pos [] [] []:=λLI s U H Q I h=>pairTrees_nil_walk #[[],H,I,.nil,h]
def tD {k:Expr}(hk:PE X k tk)(hv:PE X v tv)(hr:PPs X pos ks vs trs) :
    PPs X pos (some k::ks) (v::vs) ((tk,tv)::trs):=λLI s U H Q I h=>
  pairTrees_cons_walk (thn (hk LI s U H _ I h) λu s1 ⟨x,H1,I1,rx,q1⟩=>thn (hv LI s1 U H1 _ I1 q1) λw2 s2 ⟨y,H2,I2,ry,q2⟩=>
    thn (hr LI s2 U H2 _ I2 q2) λws s3 ⟨ps,H3,I3,rel,q3⟩=>#[(x,y)::ps,H3,I3,.cons #[rx,ry] rel,q3])
def ik (kvs more:List (Key×V)):List (Key×V):=more.foldl (λacc kv=>putK acc kv.1 kv.2) kvs
def KV.merge:∀{more:List (Key×V)} {rs:List (Key×Value)} {kvs:List (Key×V)} {vs:List (Key×Value)},KV more rs->KV kvs vs->KV (ik kvs more) (merged vs rs):=by
  intro more rs kvs vs r;unfold KV at r
  induction r generalizing kvs vs with
  | nil=>intro q;exact q
  | @cons p q ps qs h t ih=>
    intro r0;have e:KV (putK kvs p.1 p.2) (stored vs q.1 q.2):=by
      have:=r0.put p.1 h.2;rw[<-h.1];exact this
    exact ih e
def yS:∀(more kvs:List (Key×V)),(ik kvs more).length<=kvs.length+more.length
  | [],kvs=>by show kvs.length<=kvs.length+0;lia
  | p::r,kvs=>by
    have h1:=yS r (putK kvs p.1 p.2);have h2:=nN kvs p.1 p.2;show (ik (putK kvs p.1 p.2) r).length<=_;rw[cR];lia
def yT :∀{kvs:List (Key×V)} {ws:List (Value×Value)},VV (kvs.map λkv=>(kV kv.1,kv.2)) ws->∃ rs,Carries (bz P w) ws rs/\KV kvs rs
  | [],_,r=>by rw[jm]at r;cases r;exact #[[],True.intro,.nil]
  | p::kvs,_,r=>by
    rw[bS]at r;cases r with
    | @cons a b as bs h t=>
      obtain ⟨rs,c,q⟩:=yT (P:=P) (w:=w) t;obtain ⟨b1,b2⟩:=b;exact #[(p.1,b2)::rs,#[jJ h.1,rfl,c],.cons #[rfl,h.2] q]
def Ed (trs:List (TE×TE)):TE:=λU H Q=>∀ p,H p=none->tw trs U (upd H p (.dK [])) λps H2=>H2 p=some (.dK [])/\∃ kvs:List (Key×V),ps=kvs.map (λkv=>(kV kv.1,kv.2))/\kvs.length<=15/\Q (.ref p) (upd H2 p (.dK (ik [] kvs)))
def Ee (h:PPs X pos keys values trs)(hall:keys.all (·.isSome)=true)(hl:keys.length=values.length)(h0:keys≠[])
    (h15:keys.length<=15):PE X (.Dict keys values pos) (Ed trs):=by
  intro LI s U H Q I q;have hn:=I.hok.fresh (ai s.heap.objs.size);have I1:=I.laid (a:=s.heap.objs.size) (o:=.dK []) (h':=s.heap.push { cls:=.type "dict",data:=.dict (List.toArray []) }) (t':=s.toks) (λ_ _ q=>aU _ q) (ai _) (yQ s.heap I.big);refine wpAny_Dict_walk (knd:=bz X.prog X.w) hall hl h0 h15 (thn (h LI _ U _ _ I1 (q _ hn)) λws s2 zq0=>?_);obtain ⟨ps,H2,I2,rel,e,kvs,ep,lk,q2⟩:=zq0;subst ep;obtain ⟨rs,c,rk⟩:=yT (P:=X.prog) (w:=X.w) rel;obtain ⟨z,hd,vs0,r0,dd⟩:=tq I2.hok e;cases r0
  refine #[rs,c,dd,λh' dd' hs=>#[.ref s.heap.objs.size,_,?_,rfl,q2]];have hz:(ik [] kvs).length<=sizeLine:=by
    have h1:=yS kvs [];rw[mV]at h1;rw[sizeLine_eq];lia
  have he:∃ q,h'.get? s.heap.objs.size=some q:=let ⟨q,_,_,hq,_⟩:=dd';#[q,hq];exact tu I2 (by rw[e];exact True.intro) hs he (yN hz hd (rk.merge .nil) dd')
structure M2 (X:Cx)(o:Expr)(m:Str)(apos:Pos)(e f:Expr)(cpos:Pos):Prop where
  base:attributeBase o m X.env (eval o X.env)=eval o X.env
  few:((backTo cpos (starEach [e,f] X.env)).all (λx=>!x.1) && (backToKw cpos (keywordEach [] X.env)).all (λx=>x.1.isSome)
    && decide (([e,f]:List Expr).length+([]:List Keyword).length+(if ([]:List Keyword).isEmpty then 0 else 1)<30))=true
  line:(apos.endLine==cpos.line)=true
  trees:backTo cpos (starEach [e,f] X.env)=[(false,eval e X.env),(false,eval f X.env)]
def IsD (H:Hp)(a:Addr):Prop:=(∃ kvs,Rd H a (.dK kvs))\/∃ kvs,Rd H a (.dT kvs)
def Ef {a:Addr}(I:Inv X LI U H s)(d:IsD H a) :
    s.TypeIs (.ref a) "dict"/\(∀ b,Value.ref a=.ref b->∃ ob,s.heap.get? b=some ob/\ob.dict=none)/\(a==sysModules)=false:=by
  rcases d with ⟨kvs,e⟩|⟨kvs,e⟩
  · obtain ⟨_,hd,vs,_,dd⟩:=lG I.hok e
    refine #[dd.typeIs,λb q=>?_,hd];cases q
    obtain ⟨ob,_,_,h1,h2,_⟩:=dd;exact #[ob,h1,h2.2.1]
  · obtain ⟨_,hd,xs,_,dd⟩:=lH I.hok e
    refine #[dd.typeIs,λb q=>?_,hd];cases q
    obtain ⟨ob,_,_,h1,h2,_⟩:=dd;exact #[ob,h1,h2.2.1]
section
variable {X:Cx}{LI:List (Addr×Obj)}{U:St}{H:Hp}{s:Shared}{a:Addr}{y d:V}{u r:Value}{o:Option V}{A:Around}{E:Value->Shared->Prop}
def Eg {Q:Value->Shared->Prop}(hu:A.units+1<cLine)(I:Inv X LI U H s)(g:DGet H a y o)(ry:RelV y u)(rd:RelV d r)(h:∀ w' s',Inv X LI U H s'->RelV (o.getD d) w'->Q w' s') :
    wpAny (model X.prog X.w) A (call (.builtin "dict.get") [.ref a,u,r]) Q E s:=by
  rcases g with ⟨kvs,k,e,ey,l⟩|⟨kvs,k,b,e,ey,eb,l⟩
  · subst ey
    obtain ⟨z,hd,vs,rel,dd⟩:=lG I.hok e;refine call_meetsIn PySem.F.slot_dict_get dd.typeIs PySem.F.entry_dict_get (PySem.F.args_dict_get_3 _ _ _) (meets_dict_get_default (bz X.prog X.w) a (jJ ry) hd r) #[_,dd.mapOf,h _ _ (I.tok _) ?_];rw[l];exact (rel.val k).getD rd
  · subst ey
    cases (show u=Value.ref b from ry)
    obtain ⟨z,hd,xs,rel,dd⟩:=lH I.hok e;refine call_meetsIn PySem.F.slot_dict_get dd.typeIs PySem.F.entry_dict_get (PySem.F.args_dict_get_3 _ _ _) (meetsH_dict_get_default (tupleKind (bz X.prog X.w)) a b hd r) #[tupleKind_room_in1 hu,k,xs,nO I.hok eb,dd,h _ _ (I.tok _) ?_];rw[l];exact (rel.val k).getD rd
end
inductive yU (ty:TE)(tx:TE)(U:St)(Q:VK)(x:V)(H1:Hp):Prop
  | c:∀ a,x=.ref a->IsD H1 a->(ty U H1 λy H2=>tx U H2 λz H3=>∃ o,DGet H3 a y o/\Q (o.getD z) H3)->yU ty tx U Q x H1
def Eh (td ty tx:TE):TE:=λU H Q=>td U H λx H1=>yU ty tx U Q x H1
section
variable {X:Cx}{o e f:Expr}{apos cpos:Pos}{td ty tx:TE}
def Ei (hu:X.A.units+1<cLine)(ho:PE X o td)(he:PE X e ty)(hf:PE X f tx)(m:M2 X o "get" apos e f cpos):PE X (.Call (.Attribute o "get" apos) [e,f] [] cpos) (Eh td ty tx):=by
  intro LI s U H Q I h;refine wpAny_Call_method m.base m.few m.line PySem.F.plainAttrs_dict PySem.F.slot_dict_get PySem.F.type_dict_get (thn (ho LI s U H _ I h) λu s1 zq0=>?_);obtain ⟨x,H1,I1,rx,a,ex,d,q1⟩:=zq0;subst ex;obtain rfl:u=Value.ref a:=rx;obtain ⟨t1,t2,_⟩:=Ef I1 d;refine #[t1,t2,?_];rw[m.trees];refine Calls.callWith_builtin rfl (Calls.evalArgs_plain (Calls.spliced_cons (thn (he LI s1 U H1 _ I1 q1) λiv s2 ⟨y,H2,I2,ry,q2⟩=>
    Calls.spliced_cons (thn (hf LI s2 U H2 _ I2 q2) λfv s3 ⟨z,H3,I3,rz,ov,g,q3⟩=>Calls.spliced_nil ?_))))
  exact Eg hu I3 g ry rz λw' s4 I4 rw'=>#[_,H3,I4,rw',q3]
end
end L2
namespace Att
open PySem PySem.W PySem.Calls PyProof.Rows
def Ej {P:Params}{h:Heap}:∀(ns:List Int) (vs:List Value),WellAll P h vs (ns.map WData.int)->IntsAre vs ns:=by
  intro ns
  induction ns with
  | nil=>
    intro vs w;rw[jm]at w;cases w
    exact .nil
  | cons n ns ih=>
    intro vs w;rw[bS]at w;cases w with
    | cons a b=>
      cases a
      exact .cons _ _ (ih _ b)
def Ek {l:OpenLaw}{n:Nat}(hn:l.most=some n){P:Params}{h:Heap}{args:List WData}{vals:List Value}
    (hpre:l.row.toRowW.claim.pre args=true) (hwl:WellAll P h vals args) :
    ∃ a vs ns,vals=[Value.ref a]/\args=[WData.list (ns.map WData.int)]/\h.get? a=some { cls:=.type "list",data:=.seq vs.toArray }/\IntsAre vs ns/\ns.length<=n:=by
  have hsh:WShape.hasAll [] args [.list .int]=true:=(pre_splitW hpre).1;have hc:l.pre.holds [] { args:=args }=true:=(pre_splitW hpre).2;obtain ⟨d,r,rfl,h1,h2⟩:=hasAllW_cons hsh;obtain rfl:=hasAllW_nil h2;obtain ⟨xs,rfl,h3⟩:=hasW_list h1;obtain ⟨ns,rfl⟩:=items_int h3;have hlen:ns.length<=n:=by
    unfold OpenLaw.pre at hc;have h4:(WTm.not (.lt (.lit (.int (n:Int))) (.len (.arg 0)))).holds [] { args:=[.list (ns.map .int)] }=true:=by
      have h4:=(holds_andW hc).1;rw[hn]at h4;exact h4
    have h5:=condW_of h4 (w_not (w_lt w_lit (w_len_list (w_arg rfl))));rw[aq]at h5;refine cf λq=>?_;have q':(n:Int)<((ns.length:Nat):Int):=by lia
    first
      | (rw[bg q']at h5;exact absurd h5 (by decide))
      | (simp at h5;lia)
  cases hwl with
  | cons w1 w2=>
    cases w2
    cases w1 with
    | list ho hall=>exact #[_,_,ns,rfl,rfl,ho,Ej ns _ hall,hlen]
def El (l:OpenLaw)(args:List WData):l.row.toRowW.claim.post args (.bool true) args=true:=
  postW_of (r:=l.row.toRowW) (X:=(true==true))
    (show WShape.has [] (.bool true) .bool=true by first|rfl|decide|simp[WShape.has,WShape.arms,WShape.armsAll])
    (show (WTm.eq .res (.lit (.bool true))).value [] { args:=args,res:=some (.bool true),after:=args }=some (.bool (true==true)) from w_eq_bool (w_res rfl) w_lit) rfl
def attach_call {l:OpenLaw}{n:Nat}{q:Program}{loose:List Str}{XP:(Str->Option Value)->Heap->Prop}{YP:World->Heap->Prop}{d:DefRec}
    (hn:l.most=some n) (hdf:d.params.defaults=[])
    (call:∀(w:World) (s₀ s₁:Shared) (mg mb:Str->Option Value) (fa:Addr) (o:Obj) (pm cd doc:Value) (a:Addr) (vs:List Value) (ns:List Int),
      Ground q loose [] XP w s₀ mg mb s₁.heap->YP w s₁.heap->
      s₁.heap.get? fa=some o->o.data=.func (docDef d.name d.params d.body d.scope pm cd doc)->s₁.heap.CodeRec cd d.name->mg d.name=some (.ref fa)->
      s₁.heap.get? a=some { cls:=.type "list",data:=.seq vs.toArray }->IntsAre vs ns->ns.length<=n->s₁.gens=(List.toArray [])->
      codeAny (model l.prog w) callerA (.call (.ref fa) #[[.ref a],[]]) (λr s'=>r=.ok (.ret (.bool true))/\OldK s₁.heap s'.heap/\s'.os=s₁.os/\AllBare s'.gens) s₁) :
    WalkO q loose XP YP l.row.toRowW d [] (λf vs=>PySem.call f vs):=by
  intro w s₀ s₁ mg mb G Y fa o pm cd doc dV kV ho hd hcd hD hmg hg args vals as hpre hlay hrd hwl hlo;obtain rfl:dV=.none:=Dflts.none hD hdf;obtain rfl:kV=.none:=Dflts.noKw hD;obtain ⟨a,vs,ns,rfl,rfl,hobj,hints,hlen⟩:=Ek hn hpre hwl;refine enter_call (codeAny_mono (call w s₀ s₁ mg mb fa o pm cd doc a vs ns G Y ho (fd_plain hd) hcd hmg hobj hints hlen hg) λr s' hq=>?_);obtain ⟨rfl,h2,h3,h4⟩:=hq;exact #[.inl #[.bool true,.bool true,[],rfl,λ_=>rfl,.bool true,El l _,λ_=>#[List.Pairwise.nil,λ_ hm=>(nomatch hm)]],h2,h3,h4]
end Att
namespace L2
open PySem PySem.Spec PyProof.Rows
def yV:∀{vs:List Value} {ns:List Int},IntsAre vs ns->Vals (ns.map V.int) vs
  | _,_,.nil=>.nil
  | _,_,.cons n t h=>.cons #[t,rfl] (yV h)
def gf (s:Stmt):Arguments:=match s with
  | .FunctionDef _ a _ _ _ _ _ _ _ _=>a
  | _=>{ posonlyargs:=[],args:=[],vararg:=none,kwonlyargs:=[],kw_defaults:=[],kwarg:=none,defaults:=[] }
def fg (s:Stmt):List Stmt:=match s with
  | .FunctionDef _ _ b _ _ _ _ _ _ _=>b
  | _=>[]
def aH (s:Stmt):Scope:=match s with
  | .FunctionDef _ _ _ _ _ _ sc _ _ _=>sc
  | _=>{ kind:=.function,names:=[],isGenerator:=false,isCoroutine:=false }
abbrev CX0:CXT:=λ_ _ _ _ _ _=>False
abbrev E0:XK:=λ_ _ _=>False
def yW :sZ CX0 X E0:=λ_ _ _ _ _ _ _ h=>h.elim
structure Fun (K:Frag)(x qual:Str)(st:Stmt)(f:Addr)(fd:FuncData):Prop where
  ex:∃(oc:Value) (od:Option Addr) (kV doc pm:Value) (an:Option Addr) (cdv ct:Value) (osl:Array (Option Value)),
    fd=fnOf x qual (gf st) (fg st) (aH st) .none kV doc pm an cdv ct/\K.lookup f=some #[oc,od,.func fd,osl]/\codeIn K cdv qual=true
  kp:keepIn K (.ref f)=true
section
variable {P:Program}{w:World}{K:Frag}{mg:Str->Option Value}{base:Heap}
def Fun.ok {st:Stmt}{f:Addr}{fd:FuncData}{N:List Str}{k:Nat}{sp:Sp}(F:Fun K x qual st f fd)(S:aP N ps (aH st))(len:∀ vs H Q E,sp vs H Q E->vs.length=ps.length)
    (hbody:∀(cdv:Value) (A:Around) (outer:List Env) (s:Shared) (H:Hp) (vs:List V) (Q:VK) (E:XK),Room k (A.deeper (envOfC qual (aH st) s.heap.objs.size f cdv))->sp vs H Q E->
      ∃ t,PSs (cxOf CX0 P w K mg base N qual (aH st) f cdv A outer s H E).nox (fg st) t/\t { nx:=λ_ H'=>Q .non H',rt:=Q } (da N vs) H):FnOk P w K mg base CX0 (k+1) f fd ps sp:=by
  obtain ⟨oc,od,kV,doc,pm,an,cdv,ct,osl,rfl,lk,hcd⟩:=F.ex;refine yu lk hcd S len λA outer s H vs Q E hr hsp=>?_;obtain ⟨t,h,q⟩:=hbody cdv A outer s H vs Q E hr hsp;exact #[t,h.nox,q]
def Fun.binds {st:Stmt}{f:Addr}{fd:FuncData}{ps:List Str}(F:Fun K x qual st f fd)
    (h:∀(kV doc pm:Value) (an:Option Addr) (cdv ct:Value) (us:List Value),us.length=ps.length->bindArgs (fnOf x qual (gf st) (fg st) (aH st) .none kV doc pm an cdv ct) #[us,[]]=pure (ps.zip us)):gN K fd ps []:=by
  obtain ⟨oc,od,kV,doc,pm,an,cdv,ct,osl,rfl,lk,hcd⟩:=F.ex;exact .all (h kV doc pm an cdv ct)
def tE {x qual:Str}{st:Stmt}{f:Addr}{oc:Value}{od an:Option Addr}{osl:Array (Option Value)}{kV doc pm cdv ct:Value}(l:K.lookup f=some #[oc,od,.func (fnOf x qual (gf st) (fg st) (aH st) .none kV doc pm an cdv ct),osl])
    (c:codeIn K cdv qual=true) (k:keepIn K (.ref f)=true):Fun K x qual st f (fnOf x qual (gf st) (fg st) (aH st) .none kV doc pm an cdv ct):=#[#[oc,od,kV,doc,pm,an,cdv,ct,osl,rfl,l,c],k]
end
def dW {k:Nat}(hr:Room k A):A.units+1<cLine:=cC (cp (by decide:1<=64) _) hr.units
def bt {n:Nat}(h:n<=1000):n<sizeLine:=cC h (by decide)
section
variable {X:Cx}
def pv (i:Nat){x:Str}{pos:Pos}(hN:X.N[i]?=some x:=by rfl)(hv:Vis X.env.scope x:=by first|exact ar rfl|exact dh (ar rfl)|exact dh (dh rfl))(hd:(x==("__debug__" : Str))=false:=by decide)
    (hcd:(x==("__classdict__" : Str))=false:=by decide):PE X (.Name x pos) (tVar i):=C8 hN hv hd hcd
end
def iteF {A B:Prop}(h:B):if false=true then A else B:=by
  rw[ag bY];exact h
def iteT {A B:Prop}(h:A):if true=true then A else B:=by
  rw[af rfl];exact h
def ite2 {c A B:Prop}[Decidable c](h1:c->A)(h2:¬ c->B):if c then A else B:=by
  by_cases h:c
  · rw[af h]
    exact h1 h
  · rw[ag h]
    exact h2 h
def iT {c A B:Prop}[Decidable c](hc:c)(h:B):if (!decide c)=true then A else B:=by
  rw[bg hc];exact iteF h
def Same (H H':Hp):Prop:=∀ b o,H b=some o->H' b=some o
def Same.trans (a:Same H H1)(b:Same H1 H2):Same H H2:=λc o h=>b c o (a c o h)
def Same.free (e:Same H H'){l:Addr}(h:H' l=Option.none):H l=Option.none:=by
  cases q:H l with
  | none=>rfl
  | some o=>
    rw[e l o q]at h;cases h
def Same.seq {K:Frag}{a:Addr}(e:Same H H')(h:SqL K H a xs):SqL K H' a xs:=by
  rcases h with (h|⟨o,h⟩)|h
  · exact .inl (.inl (e _ _ h))
  · exact .inl (.inr #[o,e _ _ h])
  · exact .inr h
end L2
namespace Tim
open PySem PyProof.Rows
section
variable {prog:Program}{w:World}{A:Around}{E:Value->Shared->Prop}{s:Shared}{κ:KeyKind}{kd:SortKind}{a₀:Array Keyed}
def LtG (prog:Program)(w:World)(A:Around)(s:Shared)(κ:KeyKind)(kd:SortKind):Prop:=
 ∀(E:Value->Shared->Prop) (x y:Value) (a b:κ.α) (Q:Bool->Shared->Prop),κ.keyOf x=some a->κ.keyOf y=some b->Q (κ.blt a b) s->wpAny (model prog w) A (keyLt' kd x y) Q E s
def ky (κ:KeyKind)(p:Keyed):κ.α:=(κ.keyOf p.1).getD κ.dflt
def Keyd (κ:KeyKind)(p:Keyed):Prop:=∃ a,κ.keyOf p.1=some a
def Keyd.eq (h:Keyd κ p):κ.keyOf p.1=some (ky κ p):=by
 obtain ⟨a,e⟩:=h;unfold ky;rw[e];rfl
def lt_G {st:SortSt}{Q:Option Bool->SortSt->Prop}(hO:LtG prog w A s κ kd)(hk:kindOf st=kd)(hx:Keyd κ x)(hy:Keyd κ y)(h:Q (some (κ.blt (ky κ x) (ky κ y))) st):wpS (model prog w) A E s (lt' x y) Q st:=by
 rw[lt'_eq];refine wpS_bind (wpS_get ?_);rw[hk];refine wpS_bind (wpS_lift (wpAny_attempt (hO _ x.1 y.1 _ _ _ hx.eq hy.eq #[rfl,?_])));exact wpS_pure h
def cx {xs:Array Keyed}{i:Nat}{st:SortSt}{Q:Keyed->SortSt->Prop}(hi:i<xs.size)(h:Q xs[i] st):wpS (model prog w) A E s (elem' xs i) Q st:=by
 rw[elem'_eq,eJ hi];exact wpS_pure h
structure TB (κ:KeyKind)(kd:SortKind)(n:Nat)(st:SortSt):Prop where
 kind:kindOf st=kd
 keys:∀ p∈(arrOf st).toList,Keyd κ p
 failed:failedOf st=none
 size:(arrOf st).size=n
def kAt (κ:KeyKind)(xs:Array Keyed)(i:Nat):κ.α:=match xs[i]? with
 | some p=>ky κ p
 | none=>κ.dflt
def dq {xs:Array Keyed}{i:Nat}(h:i<xs.size):kAt κ xs i=ky κ xs[i]:=by
 unfold kAt;rw[eJ h]
def gh {xs ys:Array Keyed}{i j:Nat}(h:xs[i]?=ys[j]?):kAt κ xs i=kAt κ ys j:=by
 unfold kAt;rw[h]
def lI {i j n:Nat}{st:SortSt}{Q:Option Bool->SortSt->Prop}(hO:LtG prog w A s κ kd)(hB:TB κ kd n st)(hi:i<n)(hj:j<n)(h:Q (some (κ.blt (kAt κ (arrOf st) i) (kAt κ (arrOf st) j))) st):wpS (model prog w) A E s (ltAt' i j) Q st:=by
 have hi':i<(arrOf st).size:=by rw[hB.size];exact hi
 have hj':j<(arrOf st).size:=by rw[hB.size];exact hj
 rw[ltAt'_eq];refine wpS_bind (wpS_get ?_);refine wpS_bind (cx hi' (wpS_bind (cx hj' ?_)));refine lt_G hO hB.kind (hB.keys _ (by simp)) (hB.keys _ (by simp)) ?_;rw[dq hi',dq hj']at h;exact h
def Up (κ:KeyKind)(xs:Array Keyed)(lo hi:Nat):Prop:=∀ i j,lo<=i->i<=j->j<hi->κ.kle (kAt κ xs i) (kAt κ xs j)
def Dn (κ:KeyKind)(xs:Array Keyed)(lo hi:Nat):Prop:=∀ i j,lo<=i->i<=j->j<hi->κ.kle (kAt κ xs j) (kAt κ xs i)
structure Off (xs ys:Array Keyed)(lo hi:Nat):Prop where
 perm:ys.Perm xs
 out:∀ k,k<lo\/hi<=k->ys[k]?=xs[k]?
def Off.refl (xs:Array Keyed)(lo hi:Nat):Off xs xs lo hi:=#[Array.Perm.refl _,λ_ _=>rfl]
def Off.trans {lo hi:Nat}(a:Off xs ys lo hi)(b:Off ys zs lo hi):Off xs zs lo hi:=#[b.perm.trans a.perm,λk h=>(b.out k h).trans (a.out k h)]
def Off.wide {lo hi lo' hi':Nat}(a:Off xs ys lo hi)(h1:lo'<=lo)(h2:hi<=hi'):Off xs ys lo' hi':=#[a.perm,λk h=>a.out k (by lia)]
def Off.size {lo hi:Nat}(a:Off xs ys lo hi):ys.size=xs.size:=a.perm.size_eq
def TB.off {n lo hi:Nat}{st:SortSt}(hB:TB κ kd n st)(h:Off (arrOf st) ys lo hi):TB κ kd n (setArr st ys):=
 #[hB.kind,λp hp=>hB.keys p ((sk.mp h.perm).mem_iff.mp hp),hB.failed,h.size.trans hB.size]
def lJ {xs:Array Keyed}{j:Nat}(hj:j<=xs.size):Off xs (mirror xs i j ((j-i)/2)) i j:=#[mirror_perm _ _ _ _,λk hk=>by rw[getElem?_mirror_all hj,ag (by lia)]]
def tF {xs:Array Keyed}{i j k:Nat}(hj:j<=xs.size)(hk:i<=k/\k<j):kAt κ (mirror xs i j ((j-i)/2)) k=kAt κ xs (i+j-1-k):=by
 apply gh;rw[getElem?_mirror_all hj,af hk]
def tG {lo k:Nat}(h:Off xs ys lo hi)(hk:k<lo\/hi<=k):kAt κ ys k=kAt κ xs k:=gh (h.out k hk)
def tH {xs:Array Keyed}{i j:Nat}(hj:j<=xs.size)(he:∀ k,i<=k->k<j->kAt κ xs k=kAt κ xs (j-1))(k:Nat):kAt κ (mirror xs i j ((j-i)/2)) k=kAt κ xs k:=by
 by_cases hk:i<=k/\k<j
 .rw[tF hj hk,he _ (by lia) (by lia),he k hk.1 hk.2]
 .exact tG (lJ hj) (by lia)
def nQ {i j:Nat}{st:SortSt}{Q:Unit->SortSt->Prop}(h:Q () (setArr st (mirror (arrOf st) i j ((j-i)/2)))):wpS (model prog w) A E s (reverseSlice' i j) Q st:=by
 rw[reverseSlice'_eq];exact wpS_modify h
def iU {U:Type}{n:String}{Q:Unit->U->Prop}{st:U}(h:Q () st):wpS (model prog w) A E s (liftM (rule n):StateT U Sem Unit) Q st:=wpS_lift (wpAny_rule #[rfl,h])
end
end Tim
namespace Tim
open PySem PyProof.Rows
section
variable {prog:Program}{w:World}{A:Around}{E:Value->Shared->Prop}{s:Shared}{κ:KeyKind}{kd:SortKind}
def iV (κ:KeyKind)(st:SortSt)(lo least nrem:Nat)(r:Option Nat)(st':SortSt):Prop:=
 ∃ n ys,r=some n/\least<=n/\n<=nrem/\st'=setArr st ys/\Off (arrOf st) ys lo (lo+n)/\Up κ ys lo (lo+n)
def Em {lo:Nat}:Up κ xs lo (lo+1):=λi j h1 h2 h3=>by
 have:i=j:=by lia
 subst this;exact KeyOrd.kle_refl _
def Up.more {lo hi:Nat}(h:Up κ xs lo hi)(hlo:lo<hi)(hn:κ.kle (kAt κ xs (hi-1)) (kAt κ xs hi)):Up κ xs lo (hi+1):=λi j h1 h2 h3=>by
 by_cases hj:j<hi
 .exact h i j h1 h2 hj
 .have e:=fM (dy h3) (cf hj);subst e;by_cases hi':i=j
  .subst hi';exact KeyOrd.kle_refl _
  .exact KeyOrd.kle_trans (h i (j-1) h1 (fo (cF h2 hi')) (d7 hlo)) hn
def Dn.more {lo hi:Nat}(h:Dn κ xs lo hi)(hlo:lo<hi)(hn:κ.kle (kAt κ xs hi) (kAt κ xs (hi-1))):Dn κ xs lo (hi+1):=λi j h1 h2 h3=>by
 by_cases hj:j<hi
 .exact h i j h1 h2 hj
 .have e:=fM (dy h3) (cf hj);subst e;by_cases hi':i=j
  .subst hi';exact KeyOrd.kle_refl _
  .exact KeyOrd.kle_trans hn (h i (j-1) h1 (fo (cF h2 hi')) (d7 hlo))
def yX {st:SortSt}{N lo n nrem:Nat}{Q:Option (Option Nat)×Nat->SortSt->Prop}(hO:LtG prog w A s κ kd)(hB:TB κ kd N st)(hlo:lo+nrem<=N)(h1:1<=n)(hn:n<=nrem)(hU:Up κ (arrOf st) lo (lo+n))
  (h:∀ m,n<=m->m<=nrem->Up κ (arrOf st) lo (lo+m)->(m<nrem->κ.klt (kAt κ (arrOf st) (lo+m)) (kAt κ (arrOf st) (lo+m-1)))->Q (none,m) st) :
  wpS (model prog w) A E s (forIn [n:nrem] ((none,n):Option (Option Nat)×Nat) λ_ __s=>do
   let __x <-ltAt' (lo+__s.snd) (lo+__s.snd-1)
   match __x with
   | some smaller=>if smaller=true then pure (ForInStep.done (none,__s.snd)) else pure (ForInStep.yield (none,__s.snd+1))
   | _=>pure (ForInStep.done (some none,__s.snd))) Q st:=by
 refine wpS_forRange (I:=λi c st'=>st'=st/\c=(none,i)/\n<=i/\i<=nrem/\Up κ (arrOf st) lo (lo+i)) ?_ ?_ #[rfl,rfl,ai _,hn,hU]
 .rintro i c st' hi1 hi2 ⟨rfl,rfl,h3,h4,hU'⟩;have l:=aO (dz hi2 lo) hlo;refine wpS_bind (lI hO hB l (cC (eK _ _) l) ?_);dsimp only;cases e:κ.blt (kAt κ (arrOf st') (lo+i)) (kAt κ (arrOf st') (lo+i-1)) with
  | true=>exact wpS_pure (h i h3 h4 hU' λ_=>e)
  | false=>exact wpS_pure #[rfl,rfl,mW h3,hi2,hU'.more (mX (az h1 h3)) e]
 .rintro c st' ⟨rfl,rfl,h3,h4,hU'⟩;exact h _ h3 h4 hU' λz=>absurd z (by lia)
def yY {st:SortSt}{N lo n nrem:Nat}{Q:Option Nat->SortSt->Prop}{k:Option (Option Nat)×Nat->StateT SortSt Sem (Option Nat)}(hk:∀ m,k (none,m)=pure (some m))(hO:LtG prog w A s κ kd)(hB:TB κ kd N st)(hlo:lo+nrem<=N)(h1:1<=n)(hn:n<=nrem)(hD:Dn κ (arrOf st) lo (lo+n))
  (h:∀ r st',iV κ st lo n nrem r st'->Q r st') :
  wpS (model prog w) A E s (do
   reverseSlice' lo (lo+n)
   let c <-forIn [n:nrem] ((none,n):Option (Option Nat)×Nat) λ_ __s=>do
    let __x <-ltAt' (lo+__s.snd) (lo+__s.snd-1)
    match __x with
    | some smaller=>if smaller=true then pure (ForInStep.done (none,__s.snd)) else pure (ForInStep.yield (none,__s.snd+1))
    | _=>pure (ForInStep.done (some none,__s.snd))
   k c) Q st:=by
 have hz:lo+n<=(arrOf st).size:=by rw[hB.size];lia
 have hoff:=lJ (xs:=arrOf st) (i:=lo) (j:=lo+n) hz;refine wpS_bind (nQ ?_);refine wpS_bind (yX hO (hB.off hoff) hlo h1 hn (λi j q1 q2 q3=>?_) λm m1 m2 hU _=>?_)
 .rw[tF hz #[q1,cC q2 q3],tF hz #[az q1 q2,q3]];exact hD _ _ (kK (fo (dz q3 lo))) (mY q2 _) (by lia)
 .rw[hk];exact wpS_pure (h _ _ #[m,_,rfl,m1,m2,rfl,hoff.wide (ai _) (cp m1 lo),hU])
def yZ {st:SortSt}{N lo n nrem:Nat}{Q:Option (Option Nat)×Nat×Nat->SortSt->Prop}(hO:LtG prog w A s κ kd)(hB:TB κ kd N st)(hlo:lo+nrem<=N)(h1:1<=n)(hn:n<=nrem)(hD:Dn κ (arrOf st) lo (lo+n))
  (h:∀ m neq ys,n<=m->m<=nrem->neq<m->Off (arrOf st) ys lo (lo+m)->Dn κ ys lo (lo+m)->(∀ k,lo+m-(neq+1)<=k->k<lo+m->kAt κ ys k=kAt κ ys (lo+m-1))->Q (none,m,neq) (setArr st ys)) :
  wpS (model prog w) A E s (forIn [n:nrem] ((none,n,0):Option (Option Nat)×Nat×Nat) λ_ __s=>do
   let __x <-ltAt' (lo+__s.snd.fst) (lo+__s.snd.fst-1)
   match __x with
   | some smaller=>
    if smaller=true then
     if __s.snd.snd>0 then do
      let _ <-reverseSlice' (lo+__s.snd.fst-(__s.snd.snd+1)) (lo+__s.snd.fst)
      pure (ForInStep.yield (none,__s.snd.fst+1,0))
     else pure (ForInStep.yield (none,__s.snd.fst+1,0))
    else do
     let __x <-ltAt' (lo+__s.snd.fst-1) (lo+__s.snd.fst)
     match __x with
     | some larger=>
      if larger=true then pure (ForInStep.done (none,__s.snd.fst,__s.snd.snd))
      else pure (ForInStep.yield (none,__s.snd.fst+1,__s.snd.snd+1))
     | _=>pure (ForInStep.done (some none,__s.snd.fst,__s.snd.snd))
   | _=>pure (ForInStep.done (some none,__s.snd.fst,__s.snd.snd))) Q st:=by
 refine wpS_forRange (I:=λi c st'=>∃ neq ys,st'=setArr st ys/\c=(none,i,neq)/\n<=i/\i<=nrem/\neq<i/\Off (arrOf st) ys lo (lo+i)/\Dn κ ys lo (lo+i)/\∀ k,lo+i-(neq+1)<=k->k<lo+i->kAt κ ys k=kAt κ ys (lo+i-1)) ?_ ?_ #[0,arrOf st,rfl,rfl,ai _,hn,h1,Off.refl _ _ _,hD,λk q1 q2=>by rw[fM (fo q2) q1]]
 .rintro i c st' hi1 hi2 ⟨neq,ys,rfl,rfl,h3,h4,h5,ho,hD',he⟩;have hB':TB κ kd N (setArr st ys):=hB.off ho;have hz:lo+i<=ys.size:=by rw[ho.size,hB.size];lia
  dsimp only;have l:=aO (dz hi2 lo) hlo;have lp:=mX (n:=lo) (gX h5);refine wpS_bind (lI hO hB' l (cC (eK _ _) l) ?_);dsimp only;cases e:κ.blt (kAt κ ys (lo+i)) (kAt κ ys (lo+i-1)) with
  | true=>
   simp only[if_true];by_cases hq:neq>0
   .rw[af hq];have hoff:=lJ (xs:=ys) (i:=lo+i-(neq+1)) (j:=lo+i) hz;have hk:=tH (κ:=κ) hz he;refine wpS_bind (nQ (wpS_pure #[0,_,rfl,rfl,mW h3,hi2,dO i,ho.wide (ai _) (dj _) |>.trans (hoff.wide (kK (cp h5 lo)) (dj _)),?_,λk q1 q2=>by rw[fM (fo q2) q1]]));have:Dn κ (mirror ys (lo+i-(neq+1)) (lo+i) ((lo+i-(lo+i-(neq+1)))/2)) lo (lo+i):=λa b q1 q2 q3=>by rw[hk,hk];exact hD' a b q1 q2 q3
    exact this.more lp (by rw[hk,hk];exact KeyOrd.kle_of_klt e)
   .rw[ag hq];exact wpS_pure #[0,ys,rfl,rfl,mW h3,hi2,dO i,ho.wide (ai _) (dj _),hD'.more lp (KeyOrd.kle_of_klt e),λk q1 q2=>by rw[fM (fo q2) q1]]
  | false=>
   simp only[cS,if_false];refine wpS_bind (lI hO hB' (cC (eK _ _) l) l ?_);dsimp only;cases e2:κ.blt (kAt κ ys (lo+i-1)) (kAt κ ys (lo+i)) with
   | true=>exact wpS_pure (h i neq ys h3 h4 h5 ho hD' he)
   | false=>
    have eq:kAt κ ys (lo+i)=kAt κ ys (lo+i-1):=κ.total _ _ e e2;refine wpS_pure #[neq+1,ys,rfl,rfl,mW h3,hi2,Nat.succ_lt_succ h5,ho.wide (ai _) (dj _),hD'.more lp (by rw[eq];exact KeyOrd.kle_refl _),λk q1 q2=>?_];rw[show lo+(i+1)-1=lo+i from rfl,eq];by_cases hk:k=lo+i
    .rw[hk];exact eq
    .exact he k (az (dk (Nat.add_sub_add_right (lo+i) 1 (neq+1)).symm) q1) (cF (dy q2) hk)
 .rintro c st' ⟨neq,ys,rfl,rfl,h3,h4,h5,ho,hD',he⟩;exact h _ neq ys h3 h4 h5 ho hD' he
def y9 {st:SortSt}{N lo n nrem m neq:Nat}{Q:Option Nat->SortSt->Prop}{t:StateT SortSt Sem (Option Nat)}(hB:TB κ kd N st)(hlo:lo+nrem<=N)(m1:n+1<=m)(m2:m<=nrem)(m3:neq<m)
  (ho:Off (arrOf st) ys lo (lo+m)) (hD:Dn κ ys lo (lo+m)) (he:∀ k,lo+m-(neq+1)<=k->k<lo+m->kAt κ ys k=kAt κ ys (lo+m-1)) (h:∀ r st',iV κ st lo (n+1) nrem r st'->Q r st')
  (ht:∀ st',TB κ kd N st'->Dn κ (arrOf st') lo (lo+m)->(∀ r st'',iV κ st' lo m nrem r st''->Q r st'')->wpS (model prog w) A E s t Q st') :
  wpS (model prog w) A E s (if neq > 0 then do
   let _ <-reverseSlice' (lo+m-(neq+1)) (lo+m)
   t else t) Q (setArr st ys):=by
 have hz:lo+m<=ys.size:=by rw[ho.size,hB.size];lia
 have back:∀ zs,Off (arrOf st) zs lo (lo+m)->∀ r st',iV κ (setArr st zs) lo m nrem r st'->Q r st':=λzs hz r st' hr=>by
  obtain ⟨q,vs,e1,e2,e3,e4,e5,e6⟩:=hr;exact h r st' #[q,vs,e1,az m1 e2,e3,e4,(hz.wide (ai _) (cp e2 lo)).trans e5,e6]
 by_cases hq:neq>0
 .rw[af hq];have hoff:=lJ (xs:=ys) (i:=lo+m-(neq+1)) (j:=lo+m) hz;have hk:=tH (κ:=κ) hz he;have ho2:=ho.trans (hoff.wide (kK (cp m3 lo)) (ai _));refine wpS_bind (nQ ?_);refine ht _ (hB.off ho2) (λa b q1 q2 q3=>?_) (back _ ho2);show κ.kle (kAt κ (mirror ys (lo+m-(neq+1)) (lo+m) ((lo+m-(lo+m-(neq+1)))/2)) b) (kAt κ (mirror ys (lo+m-(neq+1)) (lo+m) ((lo+m-(lo+m-(neq+1)))/2)) a);rw[hk,hk];exact hD a b q1 q2 q3
 .rw[ag hq];exact ht _ (hB.off ho) hD (back _ ho)
def Eo {st:SortSt}{N lo nrem:Nat}{Q:Option Nat->SortSt->Prop}(hO:LtG prog w A s κ kd)(hB:TB κ kd N st)(hlo:lo+nrem<=N)(h1:1<=nrem)(h:∀ r st',iV κ st lo 1 nrem r st'->Q r st') :
  wpS (model prog w) A E s (countRun' lo nrem) Q st:=by
 rw[countRun'_eq];refine wpS_bind (yX hO hB hlo (ai 1) h1 Em λm m1 m2 hU hnext=>?_);dsimp only;by_cases hm:m=nrem
 .rw[af (by simpa using hm)];exact wpS_pure (h _ _ #[m,arrOf st,rfl,m1,m2,rfl,Off.refl _ _ _,hU])
 .rw[ag (by simpa using hm)];have lm:=cF m2 hm;have hnx:=hnext lm;by_cases hm1:m>1
  .rw[af hm1];have l:=aO (dz lm lo) hlo;refine wpS_bind (lI hO hB (cC (cq _ _) l) (cC (eK _ _) l) ?_);cases e:κ.blt (kAt κ (arrOf st) lo) (kAt κ (arrOf st) (lo+m-1)) with
   | true=>
    simp only[if_true];exact wpS_pure (h _ _ #[m,arrOf st,rfl,m1,m2,rfl,Off.refl _ _ _,hU])
   | false=>
    simp only[cS,if_false];have hz:lo+m<=(arrOf st).size:=by rw[hB.size];exact bf l
    have hoff:=lJ (xs:=arrOf st) (i:=lo) (j:=lo+m) hz;have all:∀ k,lo<=k->k<lo+m->kAt κ (arrOf st) k=kAt κ (arrOf st) (lo+m-1):=λk q1 q2=>
     KeyOrd.kle_antisymm (hU k (lo+m-1) q1 (fo q2) (d7 q2)) (KeyOrd.kle_trans (show κ.kle (kAt κ (arrOf st) (lo+m-1)) (kAt κ (arrOf st) lo) from e) (hU lo k (ai _) q1 q2))
    have hk:=tH (κ:=κ) hz all;refine wpS_bind (nQ ?_);have fin:∀ r st',iV κ (setArr st (mirror (arrOf st) lo (lo+m) ((lo+m-lo)/2))) lo (m+1) nrem r st'->Q r st':=λr st' hr=>by
     obtain ⟨q,vs,e1,e2,e3,e4,e5,e6⟩:=hr;exact h r st' #[q,vs,e1,az m1 (Nat.le_of_succ_le e2),e3,e4,(hoff.wide (ai _) (cp (Nat.le_of_succ_le e2) lo)).trans e5,e6]
    refine wpS_bind (iU (wpS_bind (yZ hO (hB.off hoff) hlo (dO _) lm ?_ λm' neq ys p1 p2 p3 ho hD' he=>?_)))
    rotate_left
    .dsimp only;exact y9 (n:=m) (hB.off hoff) hlo p1 p2 p3 ho hD' he fin λst' hB' hDD hh=>yY (λ_=>rfl) hO hB' hlo (gX p1) p2 hDD hh
    .have d0:Dn κ (arrOf st) lo (lo+m):=λa b q1 q2 q3=>by rw[all a q1 (cC q2 q3),all b (az q1 q2) q3];exact KeyOrd.kle_refl _
     have d1:=d0.more (mX m1) (KeyOrd.kle_of_klt hnx);intro a b q1 q2 q3;show κ.kle (kAt κ (mirror (arrOf st) lo (lo+m) ((lo+m-lo)/2)) b) (kAt κ (mirror (arrOf st) lo (lo+m) ((lo+m-lo)/2)) a);rw[hk,hk];exact d1 a b q1 q2 q3
  .rw[ag hm1];have e1:=fM (cf hm1) m1;subst e1;have fin:∀ r st',iV κ st lo (1+1) nrem r st'->Q r st':=λr st' hr=>by
    obtain ⟨q,vs,e1,e2,e3,e4,e5,e6⟩:=hr;exact h r st' #[q,vs,e1,Nat.le_of_succ_le e2,e3,e4,e5,e6]
   refine wpS_bind (iU (wpS_bind (yZ hO hB hlo (dO _) lm ?_ λm' neq ys p1 p2 p3 ho hD' he=>?_)))
   rotate_left
   .dsimp only;exact y9 (n:=1) hB hlo p1 p2 p3 ho hD' he fin λst' hB' hDD hh=>yY (λ_=>rfl) hO hB' hlo (gX p1) p2 hDD hh
   .intro a b q1 q2 q3;by_cases hab:a=b
    .subst hab;exact KeyOrd.kle_refl _
    .have ea:a=lo:=by lia
     have eb:b=lo+1:=by lia
     rw[ea,eb];exact KeyOrd.kle_of_klt hnx
end
end Tim
namespace Tim
open PySem PyProof.Rows
section
variable {prog:Program}{w:World}{A:Around}{E:Value->Shared->Prop}{s:Shared}{κ:KeyKind}{kd:SortKind}
def Ep {xs:Array Keyed}{src dst hi:Nat}(hs:src<xs.size)(hd:dst<=src)(hh:src<hi):Off xs (bubble xs src (src-dst)) dst hi:=
 #[bubble_perm _ _ _,λk hk=>by
  rw[getElem?_bubble hs _ (eK _ _),Nat.sub_sub_self hd,ag (by lia),ag (by lia)]]
def za {xs:Array Keyed}{src dst:Nat}(hs:src<xs.size)(hd:dst<=src)(k:Nat):kAt κ (bubble xs src (src-dst)) k=if k=dst then kAt κ xs src else if dst<k/\k<=src then kAt κ xs (k-1) else kAt κ xs k:=by
 have e:=getElem?_bubble hs (src-dst) (eK _ _) k;rw[Nat.sub_sub_self hd]at e;by_cases h1:k=dst
 .rw[af h1]at e ⊢;exact gh e
 .rw[ag h1]at e ⊢;by_cases h2:dst<k/\k<=src
  .rw[af h2]at e ⊢;exact gh e
  .rw[ag h2]at e ⊢;exact gh e
def gW {l r:Nat}(h:¬l >= r):l<=(l+r)/2/\(l+r)/2<r:=#[(Nat.le_div_iff_mul_le jo).mpr (by rw[Nat.mul_two];exact cp (Nat.le_of_not_le h) l),Nat.div_lt_of_lt_mul (by rw[Nat.two_mul];exact Nat.add_lt_add_right (eW h) r)]
def rR {l r n x:Nat}(a:r-l<=n-x)(h:¬l >= r):r-((l+r)/2+1)<=n-(x+1):=az (mY (fN (gW h).1 1) r) (by rw[<-iH,<-iH];exact Nat.sub_le_sub_right a 1)
def rS {l r n x:Nat}(a:r-l<=n-x)(h:¬l >= r):(l+r)/2-l<=n-(x+1):=by rw[<-iH];exact fo (aO (Nat.sub_lt_sub_right (gW h).1 (gW h).2) a)
def Er {st:SortSt}{N lo n ok:Nat}{Q:Bool->SortSt->Prop}(hO:LtG prog w A s κ kd)(hB:TB κ kd N st)(hlo:lo+n<=N)(hok:ok<=n)(hU:Up κ (arrOf st) lo (lo+ok))
  (h:∀ ys,Off (arrOf st) ys lo (lo+n)->Up κ ys lo (lo+n)->Q true (setArr st ys)):wpS (model prog w) A E s (binarySort' lo n ok) Q st:=by
 rw[binarySort'_eq];refine wpS_bind (wpS_mono (wpS_forRange (I:=λk c st'=>c=(none,())/\∃ ys,st'=setArr st ys/\Off (arrOf st) ys lo (lo+n)/\Up κ ys lo (lo+min k n))
  (Q:=λc st'=>c=(none,())/\∃ ys,st'=setArr st ys/\Off (arrOf st) ys lo (lo+n)/\Up κ ys lo (lo+n)) ?step ?fin ?init) ?post)
 case post=>
  rintro c st' ⟨rfl,ys,rfl,ho,hu⟩;exact wpS_pure (h ys ho hu)
 case init=>
  refine #[rfl,arrOf st,rfl,Off.refl _ _ _,λi j h1 h2 h3=>?_];by_cases hz:j<lo+ok
  .exact hU i j h1 h2 hz
  .have:i=j:=by lia
   subst this;exact KeyOrd.kle_refl _
 case fin=>
  rintro c st' ⟨rfl,ys,rfl,ho,hu⟩;refine #[rfl,ys,rfl,ho,?_];rwa[iI (Nat.le_max_right _ _)]at hu
 case step=>
  rintro k c st' hk1 hk2 ⟨rfl,ys,rfl,ho,hu⟩;rw[d8 (bf hk2)]at hu;clear hk1;have lk:=aO (dz hk2 lo) hlo;have hB':TB κ kd N (setArr st ys):=hB.off ho;have hz:ys.size=N:=by rw[ho.size,hB.size]
  refine wpS_bind (wpS_mono (wpS_forRange (I:=λx c st''=>st''=setArr st ys/\∃ l r,c=(none,l,r)/\l<=r/\r<=k/\r - l<=k - x/\
    (∀ i,i<l->κ.kle (kAt κ ys (lo+i)) (kAt κ ys (lo+k)))/\(∀ i,r<=i->i<k->κ.klt (kAt κ ys (lo+k)) (kAt κ ys (lo+i))))
   (Q:=λc st''=>st''=setArr st ys/\∃ l r,c=(none,l,r)/\l<=k/\
    (∀ i,i<l->κ.kle (kAt κ ys (lo+i)) (kAt κ ys (lo+k)))/\(∀ i,l<=i->i<k->κ.klt (kAt κ ys (lo+k)) (kAt κ ys (lo+i)))) ?istep ?ifin ?iinit) ?ipost)
  case iinit=>exact #[rfl,0,k,rfl,bG _,ai _,ai _,λi hi=>absurd hi (kL _),λi h1 h2=>absurd h1 (gY h2)]
  case ifin=>
   rintro c st'' ⟨rfl,l,r,rfl,hlr,hrk,hm,a1,a2⟩;have:l=r:=by lia
   subst this;exact #[rfl,l,l,rfl,hrk,a1,a2]
  case istep=>
   rintro x c st'' _ hxk ⟨rfl,l,r,rfl,hlr,hrk,hm,a1,a2⟩;dsimp only;by_cases hge:l >= r
   .rw[af hge];have:=fM hlr hge;subst this;exact wpS_pure #[rfl,l,l,rfl,hrk,a1,a2]
   .rw[ag hge];have zz:=gW hge;refine wpS_bind (lI hO hB' lk (jn (dz (aO zz.2 hrk) lo) lk) ?_);dsimp only;cases e:κ.blt (kAt κ ys (lo+k)) (kAt κ ys (lo+(l+r)/2)) with
    | true=>
     refine wpS_pure #[rfl,l,(l+r)/2,rfl,zz.1,az (bf zz.2) hrk,rS hm hge,a1,λi h1 h2=>?_];exact KeyOrd.klt_of_klt_of_kle e (hu _ _ (cq _ _) (cp h1 lo) (dz h2 lo))
    | false=>
     refine wpS_pure #[rfl,(l+r)/2+1,r,rfl,zz.2,hrk,rR hm hge,λi h1=>?_,a2];exact KeyOrd.kle_trans (hu (lo+i) (lo+(l+r)/2) (cq _ _) (cp (dy h1) lo) (dz (aO zz.2 hrk) lo)) (show κ.kle (kAt κ ys (lo+(l+r)/2)) (kAt κ ys (lo+k)) from e)
  case ipost=>
   rintro c st'' ⟨rfl,l,r,rfl,hlk,a1,a2⟩;dsimp only;rw[moveDown'_eq];have hs:lo+k<ys.size:=by rw[hz];exact lk
   have hd:=cp hlk lo;refine wpS_bind (wpS_modify (wpS_pure #[rfl,_,rfl,ho.trans ((Ep (hi:=lo+n) hs hd (dz hk2 lo)).wide (cq _ _) (ai _)),?_]));rw[d8 hk2];intro i j h1 h2 h3;show κ.kle (kAt κ (bubble ys (lo+k) (lo+k-(lo+l))) i) (kAt κ (bubble ys (lo+k) (lo+k-(lo+l))) j);rw[za hs hd,za hs hd];clear hs hd hz lk;have lowS:∀ i,lo<=i->i<lo+l->κ.kle (kAt κ ys i) (kAt κ ys (lo+k)):=λi q1 q2=>by
    have:=a1 (i-lo) (mZ q1 q2);rw[fq q1]at this;exact this
   have highS:∀ i,lo+l<=i->i<lo+k->κ.kle (kAt κ ys (lo+k)) (kAt κ ys i):=λi q1 q2=>by
    have q3:=jq q1;have:=a2 (i-lo) (m4 q1) (mZ q3 q2);rw[fq q3]at this;exact KeyOrd.kle_of_klt this
   by_cases i1:i=lo+l
   .rw[af i1];by_cases j1:j=lo+l
    .rw[af j1];exact KeyOrd.kle_refl _
    .rw[ag j1,af (by lia)];exact highS _ (by lia) (by lia)
   .rw[ag i1];by_cases i2:lo+l<i/\i<=lo+k
    .rw[af i2,ag (by lia),af (by lia)];exact hu _ _ (by lia) (by lia) (by lia)
    .rw[ag i2];by_cases j1:j=lo+l
     .rw[af j1];exact lowS i h1 (by lia)
     .rw[ag j1];by_cases j2:lo+l<j/\j<=lo+k
      .rw[af j2];exact hu _ _ h1 (by lia) (by lia)
      .rw[ag j2];exact hu _ _ h1 h2 (by lia)
end
end Tim
namespace Tim
open PySem PyProof.Rows
section
variable {M:Model}{A:Around}{E:Value->Shared->Prop}{s:Shared}{st:SortSt}{n hint:Nat}{p:Nat->Bool}
abbrev C2:=Option (Option Nat)×Nat×Nat
def Es {Q:C2->SortSt->Prop}{f:Nat->C2->StateT SortSt Sem (ForInStep C2)}(hn:hint<n)(hp:p hint=true)
  (f1:∀ x l o,o >= n-hint->f x (none,l,o)=pure (.done (none,l,o)))
  (f2:∀ x l o (R:ForInStep C2->SortSt->Prop),o<n-hint->(p (hint+o)=true->R (.yield (none,o,2*o+1)) st)->(p (hint+o)=false->R (.done (none,l,o)) st)->wpS M A E s (f x (none,l,o)) R st)
  (h:∀ l o,l<o->hint+l<n->p (hint+l)=true->(o<n-hint->p (hint+o)=false)->Q (none,l,o) st):wpS M A E s (forIn [:n] ((none,0,1):C2) f) Q st:=by
 refine wpS_forRange (I:=λi c st'=>st'=st/\∃ l o,c=(none,l,o)/\l<o/\i+1<=o/\hint+l<n/\p (hint+l)=true) ?_ ?_ #[rfl,0,1,rfl,Nat.one_pos,ai _,hn,hp]
 .rintro i c st' _ hi ⟨rfl,l,o,rfl,h1,h2,h3,h4⟩;by_cases ho:o >= n-hint
  .rw[f1 i l o ho];exact wpS_pure (h l o h1 h3 h4 λz=>absurd z (jr ho))
  .refine f2 i l o _ (eW ho) (λe=>?_) λe=>?_
   .exact #[rfl,o,2*o+1,rfl,jt (m5 o jo),iJ (az h2 (m5 o jo)),Nat.add_lt_of_lt_sub' (eW ho),e]
   .exact h l o h1 h3 h4 λ_=>e
 .rintro c st' ⟨rfl,l,o,rfl,h1,h2,h3,h4⟩;exact h l o h1 h3 h4 λz=>absurd z (by lia)
def Et {Q:C2->SortSt->Prop}{f:Nat->C2->StateT SortSt Sem (ForInStep C2)}(hn:hint<n)(hp:p hint=false)
  (f1:∀ x l o,o >= hint+1->f x (none,l,o)=pure (.done (none,l,o)))
  (f2:∀ x l o (R:ForInStep C2->SortSt->Prop),o<hint+1->(p (hint-o)=false->R (.yield (none,o,2*o+1)) st)->(p (hint-o)=true->R (.done (none,l,o)) st)->wpS M A E s (f x (none,l,o)) R st)
  (h:∀ l o,l<o->l<=hint->p (hint-l)=false->(o<hint+1->p (hint-o)=true)->Q (none,l,o) st):wpS M A E s (forIn [:n] ((none,0,1):C2) f) Q st:=by
 refine wpS_forRange (I:=λi c st'=>st'=st/\∃ l o,c=(none,l,o)/\l<o/\i+1<=o/\l<=hint/\p (hint-l)=false) ?_ ?_ #[rfl,0,1,rfl,Nat.one_pos,ai _,bG _,hp]
 .rintro i c st' _ hi ⟨rfl,l,o,rfl,h1,h2,h3,h4⟩;by_cases ho:o >= hint+1
  .rw[f1 i l o ho];exact wpS_pure (h l o h1 h3 h4 λz=>absurd z (jr ho))
  .refine f2 i l o _ (eW ho) (λe=>?_) λe=>?_
   .exact #[rfl,o,2*o+1,rfl,jt (m5 o jo),iJ (az h2 (m5 o jo)),dy (eW ho),e]
   .exact h l o h1 h3 h4 λ_=>e
 .rintro c st' ⟨rfl,l,o,rfl,h1,h2,h3,h4⟩;exact h l o h1 h3 h4 λz=>absurd z (by lia)
def rP {l r n x:Nat}(a:r-l<=n-x):r-(l+(r-l)/2+1)<=n-(x+1):=az (mY (fN (cq _ _) 1) r) (by rw[<-iH,<-iH];exact Nat.sub_le_sub_right a 1)
def rQ {l r n x:Nat}(a:r-l<=n-x)(h:¬l >= r):l+(r-l)/2-l<=n-(x+1):=by rw[Nat.add_sub_cancel_left,<-iH];exact fo (aO (Nat.div_lt_self (gZ (eW h)) (by decide)) a)
def lK {l r:Nat}(h:¬l >= r):l+(r-l)/2<r:=by rw[gE];exact Nat.add_lt_of_lt_sub (Nat.div_lt_self (gZ (eW h)) (by decide))
def zb {Q:Option Nat->SortSt->Prop}{lo hi:Nat}{f:Nat->C2->StateT SortSt Sem (ForInStep C2)}{k:C2->StateT SortSt Sem (Option Nat)}
  (anti:∀ i j,i<=j->j<n->p j=true->p i=true) (h1:lo<=hi) (h2:hi<=n) (hl:∀ i,i<lo->p i=true) (hh:∀ i,hi<=i->i<n->p i=false)
  (f1:∀ x l r,l >= r->f x (none,l,r)=pure (.done (none,l,r)))
  (f2:∀ x l r (R:ForInStep C2->SortSt->Prop),l<r->r<=n->(p (l+(r-l)/2)=true->R (.yield (none,l+(r-l)/2+1,r)) st)->(p (l+(r-l)/2)=false->R (.yield (none,l,l+(r-l)/2)) st)->wpS M A E s (f x (none,l,r)) R st)
  (hk:∀ l r,k (none,l,r)=pure (some r))
  (h:∀ m,m<=n->(∀ i,i<m->p i=true)->(∀ i,m<=i->i<n->p i=false)->Q (some m) st):wpS M A E s (do let c <-forIn [:n] ((none,lo,hi):C2) f;k c) Q st:=by
 refine wpS_bind (wpS_mono (wpS_forRange (I:=λx c st'=>st'=st/\∃ l r,c=(none,l,r)/\l<=r/\r<=n/\r - l<=n - x/\(∀ i,i < l->p i=true)/\∀ i,r<=i->i < n->p i=false)
  (Q:=λc st'=>st'=st/\∃ m,c=(none,m,m)/\m<=n/\(∀ i,i<m->p i=true)/\∀ i,m<=i->i<n->p i=false) ?_ ?_ #[rfl,lo,hi,rfl,h1,h2,az (eK _ _) h2,hl,hh]) ?_)
 .rintro x c st' _ hx ⟨rfl,l,r,rfl,a1,a2,a3,a4,a5⟩;by_cases hge:l >= r
  .rw[f1 x l r hge];have:=fM a1 hge;subst this;exact wpS_pure #[rfl,l,rfl,a2,a4,a5]
  .refine f2 x l r _ (eW hge) a2 (λe=>?_) λe=>?_
   .exact #[rfl,_,r,rfl,lK hge,a2,rP a3,λi hi=>anti i _ (dy hi) (aO (lK hge) a2) e,a5]
   .refine #[rfl,l,_,rfl,cq _ _,az (bf (lK hge)) a2,rQ a3 hge,a4,λi q1 q2=>?_];cases z:p i with
    | false=>rfl
    | true=>rw[anti _ i q1 q2 z]at e;cases e
 .rintro c st' ⟨rfl,l,r,rfl,a1,a2,a3,a4,a5⟩;have:l=r:=by lia
  subst this;exact #[rfl,l,rfl,a2,a4,a5]
 .rintro c st' ⟨rfl,m,rfl,a2,a4,a5⟩;rw[hk];exact wpS_pure (h m a2 a4 a5)
end
def tI:Bool->Keyed->Array Keyed->Nat->Nat->Nat->StateT SortSt Sem (Option Nat):=sortPriv% PySem.Builtin.gallop
section
variable {prog:Program}{w:World}{A:Around}{E:Value->Shared->Prop}{s:Shared}{κ:KeyKind}{kd:SortKind}
def bey (κ:KeyKind)(left:Bool)(key:Keyed)(arr:Array Keyed)(base i:Nat):Bool:=if left=true then κ.blt (kAt κ arr (base+i)) (ky κ key) else !κ.blt (ky κ key) (kAt κ arr (base+i))
def rT {l o h:Nat}(a:l<o)(b:l<=h):h+1-min o (h+1)<=h-l:=az (mY (Nat.le_min.mpr #[a,iJ b]) _) (dk (Nat.add_sub_add_right _ _ _))
def rV {l o h n:Nat}(a:l<o)(b:h+l<n):h+l+1<=h+min o (n-h):=cp (Nat.le_min.mpr #[a,kK (by rw[gE];exact b)]) h
def rW {o h n:Nat}(a:h<n):h+min o (n-h)<=n:=az (cp (Nat.min_le_right _ _) _) (dk (fq (bf a)))
def rX {i o h:Nat}(a:i<h+1-min o (h+1))(b:o<h+1):i<=h-o:=by rw[d8 (bf b),Nat.succ_sub (dy b)]at a;exact dy a
def rY {i o h:Nat}(b:¬o<h+1):¬i<h+1-min o (h+1):=by rw[iI (cf b),iK];exact kL _
def Eu {o h n i:Nat}(a:h<n)(b:¬o<n-h)(c:h+min o (n-h)<=i):¬i<n:=by rw[iI (cf b),fq (bf a)]at c;exact jr c
def jL {st:SortSt}{key:Keyed}{arr:Array Keyed}{base n hint:Nat}{Q:Option Nat->SortSt->Prop}(hO:LtG prog w A s κ kd)(hkd:kindOf st=kd)(hkey:Keyd κ key)(hks:∀ q∈arr.toList,Keyd κ q)
  (hz:base+n<=arr.size) (hn:hint<n) (hU:Up κ arr base (base+n))
  (h:∀ m,m<=n->(∀ i,i<m->bey κ left key arr base i=true)->(∀ i,m<=i->i<n->bey κ left key arr base i=false)->Q (some m) st):wpS (model prog w) A E s (tI left key arr base n hint) Q st:=by
 have anti:∀ i j,i<=j->j<n->bey κ left key arr base j=true->bey κ left key arr base i=true:=by
  intro i j hij hj;have hle:=hU (base+i) (base+j) (cq _ _) (cp hij base) (dz hj base);unfold bey;cases left with
  | true=>
   simp only[if_true];intro e;exact KeyOrd.klt_of_kle_of_klt hle e
  | false=>
   simp only[cS,if_false];intro e;cases z:κ.blt (ky κ key) (kAt κ arr (base+i)) with
   | false=>rfl
   | true=>
    have:κ.blt (ky κ key) (kAt κ arr (base+j))=true:=KeyOrd.klt_of_klt_of_kle z hle;rw[this]at e;cases e
 have hb:∀ i (R:Option Bool->SortSt->Prop),i < n->R (some (bey κ left key arr base i)) st->wpS (model prog w) A E s (do
   let x <-elem' arr (base+i)
   if left=true then lt' x key else do
    let r <-lt' key x
    pure (Option.map (λb=>!b) r)) R st:=λi R hi hR=>by
  have hi':=aO (dz hi base) hz;refine wpS_bind (cx hi' ?_);have hkx:Keyd κ arr[base+i]:=hks _ (by simp);unfold bey at hR;rw[dq hi']at hR;cases left with
  | true=>
   rw[af rfl]at hR ⊢;exact lt_G hO hkd hkx hkey hR
  | false=>
   rw[ag (by decide)]at hR ⊢;exact wpS_bind (lt_G hO hkd hkey hkx (wpS_pure hR))
 refine wpS_bind (hb hint _ hn ?_);dsimp only;generalize bey κ left key arr base=p at *;cases e0:p hint with
 | true=>
  simp only[if_true];refine wpS_bind (Es (p:=p) hn e0 (λx l o ho=>?_) (λx l o R ho r1 r2=>?_) λl o a1 a2 a3 a4=>?_)
  .dsimp only;rw[af ho]
  .dsimp only;rw[ag (gY ho)];refine wpS_bind (hb (hint+o) _ (Nat.add_lt_of_lt_sub' ho) ?_);dsimp only;cases e:p (hint+o) with
   | true=>exact wpS_pure (r1 e)
   | false=>exact wpS_pure (r2 e)
  .dsimp only;refine zb (p:=p) anti (rV a1 a2) (rW hn) (λi hi=>anti i (hint+l) (dy hi) a2 a3) (λi q1 q2=>?_) (λx l r hge=>?_) (λx l r R q1 q2 r1 r2=>?_) (λ_ _=>rfl) h
   .by_cases ho:o<n-hint
    .cases z:p i with
     | false=>rfl
     | true=>
      have:=anti (hint+o) i (by rwa[d8 (bf ho)]at q1) q2 z;rw[a4 ho]at this;cases this
    .exact absurd q2 (Eu hn ho q1)
   .dsimp only;rw[af hge]
   .dsimp only;rw[ag (gY q1)];refine wpS_bind (hb _ _ (aO (lK (gY q1)) q2) ?_);dsimp only;cases e:p (l+(r-l)/2) with
    | true=>exact wpS_pure (r1 e)
    | false=>exact wpS_pure (r2 e)
 | false=>
  simp only[cS,if_false];refine wpS_bind (Et (p:=p) hn e0 (λx l o ho=>?_) (λx l o R ho r1 r2=>?_) λl o a1 a2 a3 a4=>?_)
  .dsimp only;rw[af ho]
  .dsimp only;rw[ag (gY ho)];refine wpS_bind (hb (hint-o) _ (cC (eK _ _) hn) ?_);dsimp only;cases e:p (hint-o) with
   | true=>exact wpS_pure (r2 e)
   | false=>exact wpS_pure (r1 e)
  .dsimp only;refine zb (p:=p) anti (rT a1 a2) (az (eK _ _) (bf hn)) (λi hi=>?_) (λi q1 q2=>?_) (λx l r hge=>?_) (λx l r R q1 q2 r1 r2=>?_) (λ_ _=>rfl) h
   .by_cases ho:o<hint+1
    .exact anti i (hint-o) (rX hi ho) (cC (eK _ _) hn) (a4 ho)
    .exact absurd hi (rY ho)
   .cases z:p i with
    | false=>rfl
    | true=>
     have:=anti (hint-l) i q1 q2 z;rw[a3]at this;cases this
   .dsimp only;rw[af hge]
   .dsimp only;rw[ag (gY q1)];refine wpS_bind (hb _ _ (aO (lK (gY q1)) q2) ?_);dsimp only;cases e:p (l+(r-l)/2) with
    | true=>exact wpS_pure (r1 e)
    | false=>exact wpS_pure (r2 e)
end
end Tim
namespace Tim
open PySem PyProof.Rows
section
variable {κ:KeyKind}
def le (κ:KeyKind)(x y:Keyed):Prop:=κ.kle (ky κ x) (ky κ y)
def le_refl (x:Keyed):le κ x x:=KeyOrd.kle_refl _
def le_trans (h1:le κ x y)(h2:le κ y z):le κ x z:=KeyOrd.kle_trans h1 h2
abbrev SL (κ:KeyKind)(l:List Keyed):Prop:=l.Pairwise (le κ)
def SL.drop {l:List Keyed}(h:SL κ l)(n:Nat):SL κ (l.drop n):=h.sublist (List.drop_sublist n l)
def SL.take {l:List Keyed}(h:SL κ l)(n:Nat):SL κ (l.take n):=h.sublist (List.take_sublist n l)
def nR {xs:Array Keyed}{i:Nat}(h:i<xs.size):xs.toList.drop i=xs[i]::xs.toList.drop (i+1):=by
 have h':i<xs.toList.length:=by simpa using h
 rw[kM h'];simp
def il {xs:Array Keyed}{i:Nat}(hs:SL κ xs.toList)(h:i<xs.size):∀ y∈xs.toList.drop i,le κ xs[i] y:=by
 intro y hy;have q:=hs.drop i;rw[nR h]at q hy;rcases aX.mp hy with rfl|hy
 .exact le_refl _
 .exact (so.mp q).1 y hy
def lL {xs:Array Keyed}{i k:Nat}{x:Keyed}(h:x∈(xs.toList.drop i).take k):∃ j,j<k/\i+j<xs.size/\xs[i+j]?=some x:=by
 obtain ⟨j,hj,e⟩:=List.mem_iff_getElem.mp h;have hj':=hj;rw[aW,eG,bF]at hj';refine #[j,by lia,by lia,?_];rw[List.getElem_take,List.getElem_drop]at e;rw[eJ (by lia)];simpa using e
def iW {xs:Array Keyed}{i:Nat}{x:Keyed}(h:xs[i]?=some x):kAt κ xs i=ky κ x:=by
 unfold kAt;rw[h]
def nS {xs:Array Keyed}(hs:SL κ xs.toList)(lo hi:Nat)(hh:hi<=xs.size):Up κ xs lo hi:=by
 intro i j h1 h2 h3;have hj:j<xs.size:=by lia
 have hi:i<xs.size:=by lia
 rw[dq hi,dq hj];refine il hs hi _ ?_;rw[List.mem_iff_getElem];refine #[j-i,by rw[eG,bF];lia,?_];rw[List.getElem_drop];simp[show i+(j-i)=j by lia]
def Ew (h:Up κ xs 0 xs.size):SL κ xs.toList:=by
 rw[SL,cM];intro i j hi hj hij;have hi':i<xs.size:=by simpa using hi
 have hj':j<xs.size:=by simpa using hj
 have:=h i j (bG _) (by lia) hj';rw[dq hi',dq hj']at this;simpa [le] using this
structure MI (κ:KeyKind)(a b:Array Keyed)(out:Array Keyed)(ia ib:Nat):Prop where
 perm:(out.toList++(a.toList.drop ia++b.toList.drop ib)).Perm (a.toList++b.toList)
 srt:SL κ out.toList
 low:∀ x∈out.toList,∀ y∈a.toList.drop ia++b.toList.drop ib,le κ x y
variable {a b out:Array Keyed}{ia ib:Nat}
def MI.goA {out':Array Keyed}{k:Nat}(h:MI κ a b out ia ib)(sa:SL κ a.toList)(ho:out'.toList=out.toList++(a.toList.drop ia).take k)(hle:∀ x∈(a.toList.drop ia).take k,∀ y∈b.toList.drop ib,le κ x y):MI κ a b out' (ia+k) ib:=by
 have e:a.toList.drop ia=(a.toList.drop ia).take k++a.toList.drop (ia+k):=by
  rw[<-m6,eX]
 have s1:=sa.drop ia;rw[e]at s1;obtain ⟨p1,p2,p3⟩:=cX.mp s1;refine #[?_,?_,?_]
 .have q:=h.perm;rw[e]at q;rw[ho];simpa [dA] using q
 .rw[ho];exact cX.mpr #[h.srt,p1,λx hx y hy=>h.low x hx y (eE _ (g8 hy))]
 .intro x hx y hy;rw[ho]at hx;rcases bj.mp hx with hx|hx
  .refine h.low x hx y ?_;rcases bj.mp hy with hy|hy
   .refine eE _ ?_;rw[e];exact bV _ hy
   .exact bV _ hy
  .rcases bj.mp hy with hy|hy
   .exact p3 x hx y hy
   .exact hle x hx y hy
def MI.goB {out':Array Keyed}{k:Nat}(h:MI κ a b out ia ib)(sb:SL κ b.toList)(ho:out'.toList=out.toList++(b.toList.drop ib).take k)(hle:∀ x∈(b.toList.drop ib).take k,∀ y∈a.toList.drop ia,le κ x y):MI κ a b out' ia (ib+k):=by
 have e:b.toList.drop ib=(b.toList.drop ib).take k++b.toList.drop (ib+k):=by
  rw[<-m6,eX]
 have s1:=sb.drop ib;rw[e]at s1;obtain ⟨p1,p2,p3⟩:=cX.mp s1;refine #[?_,?_,?_]
 .have q:=h.perm;rw[e]at q;rw[ho];refine List.Perm.trans ?_ q;rw[dA];refine List.Perm.append_left _ ?_;rw[<-dA,<-dA];exact List.Perm.append_right _ m8
 .rw[ho];exact cX.mpr #[h.srt,p1,λx hx y hy=>h.low x hx y (bV _ (g8 hy))]
 .intro x hx y hy;rw[ho]at hx;rcases bj.mp hx with hx|hx
  .refine h.low x hx y ?_;rcases bj.mp hy with hy|hy
   .exact eE _ hy
   .refine bV _ ?_;rw[e];exact bV _ hy
  .rcases bj.mp hy with hy|hy
   .exact hle x hx y hy
   .exact p3 x hx y hy
def lM {xs:Array Keyed}{i:Nat}(h:i<xs.size):(xs.toList.drop i).take 1=[xs[i]]:=by
 rw[nR h];rfl
def MI.pa (h:MI κ a b out ia ib)(sa:SL κ a.toList)(hia:ia<a.size)(hle:∀ y∈b.toList.drop ib,le κ a[ia] y):MI κ a b (out.push a[ia]) (ia+1) ib:=
 h.goA (k:=1) sa (by rw[lM hia,ju]) (by
  rw[lM hia];intro x hx;rw[aM.mp hx];exact hle)
def MI.pb (h:MI κ a b out ia ib)(sb:SL κ b.toList)(hib:ib<b.size)(hle:∀ y∈a.toList.drop ia,le κ b[ib] y):MI κ a b (out.push b[ib]) ia (ib+1):=
 h.goB (k:=1) sb (by rw[lM hib,ju]) (by
  rw[lM hib];intro x hx;rw[aM.mp hx];exact hle)
structure dX (κ:KeyKind)(a b m:Array Keyed):Prop where
 perm:m.toList.Perm (a.toList++b.toList)
 srt:SL κ m.toList
def tJ {xs:Array Keyed}{i k:Nat}:(xs.extract i (i+k)).toList=(xs.toList.drop i).take k:=by
 rw[m9,ng,Nat.add_sub_cancel_left]
def jM {xs:Array Keyed}{i:Nat}:(xs.extract i xs.size).toList=xs.toList.drop i:=by
 rw[m9,ng];exact bx (by rw[eG,bF];exact ai _)
def MI.done (h:MI κ a b out ia ib)(sa:SL κ a.toList)(hib:b.size<=ib):dX κ a b (out++a.extract ia a.size++b.extract ib b.size):=by
 have e:b.toList.drop ib=[]:=eL (by rw[bF];exact hib);have e2:(out++a.extract ia a.size++b.extract ib b.size).toList=out.toList++(a.toList.drop ia++b.toList.drop ib):=by
  rw[dP,dP,jM,jM,dA]
 refine #[by rw[e2];exact h.perm,?_];rw[e2,e,bZ];refine cX.mpr #[h.srt,sa.drop ia,λx hx y hy=>h.low x hx y (eE _ hy)]
def MI.doneA (h:MI κ a b out ia ib)(sb:SL κ b.toList)(hia:a.size<=ia):dX κ a b (out++a.extract ia a.size++b.extract ib b.size):=by
 have e:a.toList.drop ia=[]:=eL (by rw[bF];exact hia);have e2:(out++a.extract ia a.size++b.extract ib b.size).toList=out.toList++(a.toList.drop ia++b.toList.drop ib):=by
  rw[dP,dP,jM,jM,dA]
 refine #[by rw[e2];exact h.perm,?_];rw[e2,e,kO];refine cX.mpr #[h.srt,sb.drop ib,λx hx y hy=>h.low x hx y (bV _ hy)]
def MI.last (h:MI κ a b out ia ib)(sa:SL κ a.toList)(sb:SL κ b.toList)(hl:∀ y∈b.toList,∀ x∈a.toList.drop ia,le κ y x):dX κ a b (out++b.extract ib b.size++a.extract ia a.size):=by
 have e2:(out++b.extract ib b.size++a.extract ia a.size).toList=out.toList++(b.toList.drop ib++a.toList.drop ia):=by
  rw[dP,dP,jM,jM,dA]
 refine #[?_,?_]
 .rw[e2];exact (List.Perm.append_left _ m8).trans h.perm
 .rw[e2];refine cX.mpr #[h.srt,cX.mpr #[sb.drop ib,sa.drop ia,λx hx y hy=>hl x (sv hx) y hy],λx hx y hy=>h.low x hx y ?_];rcases bj.mp hy with q|q
  .exact bV _ q
  .exact eE _ q
end
end Tim
namespace Tim
open PySem PyProof.Rows
def zc:Array Keyed->Array Keyed->StateT SortSt Sem (Array Keyed):=sortPriv% PySem.Builtin.mergeLo
def Ex:Nat->StateT SortSt Sem Unit:=sortPriv% PySem.Builtin.setMinGallop
structure SG (st st':SortSt):Prop where
 kind:kindOf st'=kindOf st
 arr:arrOf st'=arrOf st
 pend:pendingOf st'=pendingOf st
 failed:failedOf st'=failedOf st
def SG.refl (st:SortSt):SG st st:=#[rfl,rfl,rfl,rfl]
def SG.trans (h:SG s1 s2)(g:SG s2 s3):SG s1 s3:=#[g.kind.trans h.kind,g.arr.trans h.arr,g.pend.trans h.pend,g.failed.trans h.failed]
section
variable {prog:Program}{w:World}{A:Around}{E:Value->Shared->Prop}{s:Shared}{κ:KeyKind}{kd:SortKind}
def nT {g:Nat}{st:SortSt}{Q:Unit->SortSt->Prop}(hg:SG st0 st)(h:∀ st',SG st0 st'->Q () st'):wpS (model prog w) A E s (Ex g) Q st:=by
 refine wpS_modify (h _ (hg.trans #[rfl,rfl,rfl,rfl]))
def mp2 {P g:Prop}(k:P)(m:P->g):g:=m k
def zi {A x j i:Nat}(h:A+x<=j+i):A+(x+1)<=j+1+i:=by rw[sG];exact iJ h
def zg {A j i m:Nat}(w:A<=j+i)(h:i<=m):A<=j+1+m:=az w (Nat.add_le_add (cq _ 1) h)
def ze {i z:Nat}(h:i<z):i+(z-i)<=z:=dk (fq (bf h))
set_option maxHeartbeats 4000000 in
def Ey {st:SortSt}{a b:Array Keyed}{Q:Array Keyed->SortSt->Prop}(hO:LtG prog w A s κ kd)(hkd:kindOf st=kd)(ka:∀ q∈a.toList,Keyd κ q)(kb:∀ q∈b.toList,Keyd κ q)(sa:SL κ a.toList)(sb:SL κ b.toList)
  (ha:0<a.size) (hb:0<b.size) (h0:∀ y∈a.toList,le κ b[0] y) (hl:∀ y∈b.toList,∀ i,i+1=a.size->∀ x∈a.toList.drop i,le κ y x)
  (h:∀ m st',dX κ a b m->SG st st'->Q m st'):wpS (model prog w) A E s (zc a b) Q st:=by
 have m0:MI κ a b (List.toArray [b[0]]) 0 1:=by
  have z:MI κ a b (List.toArray []) 0 0:=#[by simp,by simp,by simp];have:=z.pb sb hb (by simpa using h0);simpa using this
 refine wpS_bind (iU ?_);dsimp only;refine wpS_bind (cx hb ?_);by_cases e1:1=b.size
 .rw[af (by simpa using e1)];exact wpS_pure (h _ _ (m0.done sa (dk e1.symm)) (SG.refl st))
 rw[ag (by simpa using e1)];by_cases e2:0+1=a.size
 .rw[af (by simpa using e2)];exact wpS_pure (h _ _ (m0.last sa sb (λy hy x hx=>hl y hy 0 e2 x hx)) (SG.refl st))
 rw[ag (by simpa using e2)];refine wpS_bind (wpS_get ?_);refine wpS_bind (wpS_mono (wpS_forRange (I:=λi c st'=>SG st st'/\∃ out ia ib g,c=(none,out,ia,ib,g)/\MI κ a b out ia ib/\ia+1 < a.size/\ib < b.size/\i+1<=ia+ib)
  (Q:=λc st'=>SG st st'/\∃ m r,c=(some m,r)/\dX κ a b m) ?step ?fin #[SG.refl st,_,0,1,_,rfl,m0,cF ha e2,cF hb e1,ai _]) ?post)
 case post=>
  rintro c st' ⟨g,m,r,rfl,hm⟩;exact wpS_pure (h m st' hm g)
 case fin=>
  rintro c st' ⟨g,out,ia,ib,gg,rfl,hm,q1,q2,q3⟩;exact absurd q3 (by lia)
 case step=>
  rintro i c st1 _ hi ⟨g1,out,ia,ib,gg,rfl,hm,q1,q2,q3⟩;dsimp only;refine wpS_bind (wpS_mono (wpS_forRange (I:=λx c st'=>st'=st1/\∃ out' ia' ib' ca cb,c=(none,out',ia',ib',ca,cb)/\MI κ a b out' ia' ib'/\ia'+1 < a.size/\ib' < b.size/\ia+ib+x<=ia'+ib')
   (Q:=λc st'=>st'=st1/\((∃ m r,c=(some m,r)/\dX κ a b m)\/∃ out' ia' ib' ca cb,c=(none,out',ia',ib',ca,cb)/\MI κ a b out' ia' ib'/\ia'+1<a.size/\ib'<b.size/\ia+ib+1<=ia'+ib')) ?istep ?ifin #[rfl,out,ia,ib,0,0,rfl,hm,q1,q2,by lia]) ?ipost)
  case ifin=>
   rintro c st' ⟨rfl,out',ia',ib',ca,cb,rfl,hm',r1,r2,r3⟩;exact #[rfl,.inr #[out',ia',ib',ca,cb,rfl,hm',r1,r2,by lia]]
  case istep=>
   rintro x c st' _ hx ⟨rfl,out',ia',ib',ca,cb,rfl,hm',r1,r2,r3⟩;dsimp only;refine wpS_bind (cx r2 (wpS_bind (cx (gF r1) (wpS_bind (lt_G hO (by rw[g1.kind];exact hkd) (kb _ (by simp)) (ka _ (by simp)) ?_)))));dsimp only;cases e:κ.blt (ky κ b[ib']) (ky κ (a[ia']'(gF r1))) with
   | true=>
    simp only[if_true];have hm2:=hm'.pb sb r2 (λy hy=>le_trans (show le κ b[ib'] (a[ia']'(gF r1)) from KeyOrd.kle_of_klt e) (il sa (gF r1) y hy));refine wpS_bind (cx r2 ?_);by_cases z:ib'+1=b.size
    .rw[af (by simpa using z)];exact wpS_pure #[rfl,.inl #[_,_,rfl,hm2.done sa (dk z.symm)]]
    .rw[ag (by simpa using z)];split
     .exact wpS_pure #[rfl,.inr #[_,_,_,_,_,rfl,hm2,r1,cF r2 z,iJ (jq r3)]]
     .exact wpS_pure #[rfl,_,_,_,_,_,rfl,hm2,r1,cF r2 z,iJ r3]
   | false=>
    simp only[cS,if_false];have hm2:=hm'.pa sa (gF r1) (λy hy=>le_trans (show le κ (a[ia']'(gF r1)) b[ib'] from e) (il sb r2 y hy));refine wpS_bind (cx (gF r1) ?_);by_cases z:ia'+1+1=a.size
    .rw[af (by simpa using z)];exact wpS_pure #[rfl,.inl #[_,_,rfl,hm2.last sa sb (λy hy x hx=>hl y hy _ z x hx)]]
    .rw[ag (by simpa using z)];split
     .exact wpS_pure #[rfl,.inr #[_,_,_,_,_,rfl,hm2,cF r1 z,r2,zi (x:=0) (jq r3)]]
     .exact wpS_pure #[rfl,_,_,_,_,_,rfl,hm2,cF r1 z,r2,zi r3]
  case ipost=>
   rintro c st' ⟨rfl,⟨m,r,rfl,hmm⟩|⟨out,ia',ib',ca,cb,rfl,hm,q1,q2,q4⟩⟩
   .exact wpS_pure #[g1,m,_,rfl,hmm]
   dsimp only;refine wpS_bind (iU ?_);refine wpS_bind (wpS_mono (wpS_forRange (I:=λx c st''=>SG st st''/\∃ out1 ia1 ib1 gg ca cb,c=(none,out1,ia1,ib1,gg,ca,cb)/\MI κ a b out1 ia1 ib1/\ia1+1 < a.size/\ib1 < b.size/\ia+ib+1<=ia1+ib1)
    (Q:=λc st''=>SG st st''/\((∃ m r,c=(some m,r)/\dX κ a b m)\/∃ out1 ia1 ib1 gg ca cb,c=(none,out1,ia1,ib1,gg,ca,cb)/\MI κ a b out1 ia1 ib1/\ia1+1<a.size/\ib1<b.size/\ia+ib+1<=ia1+ib1)) ?jstep ?jfin #[g1,_,_,_,_,_,_,rfl,hm,q1,q2,q4]) ?jpost)
   case jfin=>
    rintro c st'' ⟨g2,out1,ia1,ib1,gg1,ca1,cb1,rfl,r⟩;exact #[g2,.inr #[_,_,_,_,_,_,rfl,r]]
   case jpost=>
    rintro c st'' ⟨g2,⟨m,r,rfl,hmm⟩|⟨out1,ia1,ib1,gg1,ca1,cb1,rfl,hm1,t1,t2,t3⟩⟩
    .exact wpS_pure #[g2,m,_,rfl,hmm]
    .dsimp only;exact wpS_bind (nT g2 λst3 g3=>wpS_pure #[g3,_,_,_,_,rfl,hm1,t1,t2,by lia])
   case jstep=>
    rintro x c st'' _ hx ⟨g2,out1,ia1,ib1,gg1,ca1,cb1,rfl,hm1,t1,t2,t3⟩;dsimp only;apply mp2
    case m=>
     intro key;by_cases hg:gg1>1
     .rw[af hg];generalize gg1-1=gg2
      revert gg2
      exact key
     .rw[ag hg];generalize gg1=gg2
      revert gg2
      exact key
    intro gg2;refine wpS_bind (nT g2 λst3 g3=>?_);have la:=gF t1;refine wpS_bind (cx t2 (wpS_bind (jL hO (by rw[g3.kind];exact hkd) (kb _ (by simp)) ka (ze la) (gZ la) (nS sa _ _ (ze la)) λk k1 k2 k3=>?_)));dsimp only;have hmk:MI κ a b (out1++a.extract ia1 (ia1+k)) (ia1+k) ib1:=hm1.goA sa (by rw[dP,tJ]) λx hx y hy=>by
     obtain ⟨j,j1,j2,j3⟩:=lL hx;have q:=k2 j j1;unfold bey at q;rw[ag (by decide),iW j3,g9]at q;exact le_trans (show le κ x b[ib1] from q) (il sb t2 y hy)
    have bk:∀ hq:ia1+k<a.size,∀ y∈a.toList.drop (ia1+k),le κ b[ib1] y:=λhq y hy=>by
     have q:=k3 k (ai _) (Nat.lt_sub_iff_add_lt'.mpr hq);unfold bey at q;rw[ag (by decide),dq hq,sH]at q;exact le_trans (show le κ b[ib1] a[ia1+k] from KeyOrd.kle_of_klt q) (il sa hq y hy)
    apply mp2
    case m=>
     by_cases hk:k>0
     .by_cases z:ia1+k+1=a.size
      .intro h;clear h;rw[af hk,af (by simpa using z)];exact wpS_pure #[g3,.inl #[_,_,rfl,hmk.last sa sb (λy hy x hx=>hl y hy _ z x hx)]]
      have z0:¬(ia1+k+1==a.size)=true:=by simpa using z
      by_cases z':ia1+k=a.size
      .intro h;clear h;rw[af hk,ag z0,af (by simpa using z')];exact wpS_pure #[g3,.inl #[_,_,rfl,hmk.doneA sb (dk z'.symm)]]
      have z1:¬(ia1+k==a.size)=true:=by simpa using z'
      have l2:=cF ((Nat.le_sub_iff_add_le' (bf la)).mp k1) z';have u2:=bk l2;have w1:=cF l2 z;have w3:=az t3 (fN (cq ia1 k) ib1);intro key;rw[af hk,ag z0,ag z1];refine (?_:MI κ a b (out1++a.extract ia1 (ia1+k)) (ia1+k) ib1->(∀ y∈a.toList.drop (ia1+k),le κ (b[ib1]'t2) y)->ia1+k+1<a.size->ia+ib+1<=ia1+k+ib1->_) hmk u2 w1 w3;generalize out1++a.extract ia1 (ia1+k)=out2;generalize ia1+k=ja;generalize k=cnt
      revert out2 ja cnt
      exact key
     .have e0:=nh hk;have u2:=bk (by rw[e0];exact la);rw[e0,gG]at u2;intro key;rw[ag hk];refine (?_:MI κ a b out1 ia1 ib1->(∀ y∈a.toList.drop ia1,le κ (b[ib1]'t2) y)->ia1+1<a.size->ia+ib+1<=ia1+ib1->_) hm1 u2 t1 t3;generalize k=cnt;generalize ia1=ja;generalize out1=out2;exact key out2 ja cnt
    intro out2 ja cnt hm2 u2 w1 w3;refine wpS_bind (cx t2 ?_);have hm3:=hm2.pb sb t2 u2;by_cases z2:ib1+1=b.size
    .rw[af (by simpa using z2)];exact wpS_pure #[g3,.inl #[_,_,rfl,hm3.done sa (dk z2.symm)]]
    .rw[ag (by simpa using z2)];have lj:=gF w1;have lb:=cF t2 z2;refine wpS_bind (cx lj (wpS_bind (jL hO (by rw[g3.kind];exact hkd) (ka _ (by simp)) kb (ze lb) (gZ lb) (nS sb _ _ (ze lb)) λk' c1 c2 c3=>?_)));dsimp only;have ge5:∀ hq:ib1+1+k'<b.size,le κ (a[ja]'lj) b[ib1+1+k']:=λhq=>by
      have q:=c3 k' (ai _) (Nat.lt_sub_iff_add_lt'.mpr hq);unfold bey at q;rw[af rfl,dq hq]at q;exact q
     have hm4:MI κ a b (out2.push b[ib1]++b.extract (ib1+1) (ib1+1+k')) ja (ib1+1+k'):=hm3.goB sb (by rw[dP (ys:=b.extract (ib1+1) (ib1+1+k')),tJ (xs:=b)]) λx hx y hy=>by
      obtain ⟨j,j1,j2,j3⟩:=lL hx;have q:=c2 j j1;unfold bey at q;rw[af rfl,iW j3]at q;exact le_trans (show le κ x (a[ja]'lj) from KeyOrd.kle_of_klt q) (il sa lj y hy)
     by_cases hk':k'>0
     .rw[af hk'];by_cases z3:ib1+1+k'=b.size
      .rw[af (by simpa using z3)];exact wpS_pure #[g3,.inl #[_,_,rfl,hm4.done sa (dk z3.symm)]]
      .rw[ag (by simpa using z3)];have lc:=cF ((Nat.le_sub_iff_add_le' (bf lb)).mp c1) z3;refine wpS_bind (cx lj ?_);have hm5:=hm4.pa sa lj λy hy=>le_trans (show le κ (a[ja]'lj) (b[ib1+1+k']'lc) from ge5 lc) (il sb lc y hy);by_cases z4:ja+1+1=a.size
       .rw[af (by simpa using z4)];exact wpS_pure #[g3,.inl #[_,_,rfl,hm5.last sa sb (λy hy x hx=>hl y hy _ z4 x hx)]]
       .rw[ag (by simpa using z4)];split
        .exact wpS_pure #[g3,.inr #[_,_,_,_,_,_,rfl,hm5,cF w1 z4,lc,zg w3 (az (cq _ 1) (cq _ _))]]
        .exact wpS_pure #[g3,_,_,_,_,_,_,rfl,hm5,cF w1 z4,lc,zg w3 (az (cq _ 1) (cq _ _))]
     .rw[ag hk'];have e0:=nh hk';subst e0
      replace hm4:=hm3
      refine wpS_bind (cx lj ?_);have hm5:=hm4.pa sa lj λy hy=>le_trans (show le κ (a[ja]'lj) (b[ib1+1]'lb) from ge5 lb) (il sb lb y hy);by_cases z4:ja+1+1=a.size
      .rw[af (by simpa using z4)];exact wpS_pure #[g3,.inl #[_,_,rfl,hm5.last sa sb (λy hy x hx=>hl y hy _ z4 x hx)]]
      .rw[ag (by simpa using z4)];split
       .exact wpS_pure #[g3,.inr #[_,_,_,_,_,_,rfl,hm5,cF w1 z4,lb,zg w3 (cq _ 1)]]
       .exact wpS_pure #[g3,_,_,_,_,_,_,rfl,hm5,cF w1 z4,lb,zg w3 (cq _ 1)]
end
end Tim
namespace Tim
open PySem PyProof.Rows
section
variable {κ:KeyKind}{a b out:Array Keyed}{na nb:Nat}
structure MH (κ:KeyKind)(a b:Array Keyed)(out:Array Keyed)(na nb:Nat):Prop where
 perm:((a.toList.take na++b.toList.take nb)++out.toList.reverse).Perm (a.toList++b.toList)
 srt:SL κ out.toList.reverse
 high:∀ x∈out.toList.reverse,∀ y∈a.toList.take na++b.toList.take nb,le κ y x
def tK {l:List Keyed}{n m:Nat}(h:n<=m):l.take m=l.take n++(l.take m).drop n:=by
 have e:(l.take m).take n=l.take n:=by rw[List.take_take,d8 h]
 rw[<-e,eX]
def MH.goA {out':Array Keyed}{n:Nat}(h:MH κ a b out na nb)(sa:SL κ a.toList)(hn:n<=na)(ho:out'.toList.reverse=(a.toList.take na).drop n++out.toList.reverse)(hle:∀ x∈(a.toList.take na).drop n,∀ y∈b.toList.take nb,le κ y x):MH κ a b out' n nb:=by
 have e:=tK (l:=a.toList) hn;have s1:=sa.take na;rw[e]at s1;obtain ⟨p1,p2,p3⟩:=cX.mp s1;refine #[?_,?_,?_]
 .refine List.Perm.trans ?_ h.perm;rw[ho,e,<-dA];refine List.Perm.append_right _ ?_;rw[dA,dA,<-e];exact List.Perm.append_left _ m8
 .rw[ho];exact cX.mpr #[p2,h.srt,λx hx y hy=>h.high y hy x (eE _ (sv hx))]
 .intro x hx y hy;rw[ho]at hx;rcases bj.mp hx with hx|hx
  .rcases bj.mp hy with hy|hy
   .exact p3 y hy x hx
   .exact hle x hx y hy
  .refine h.high x hx y ?_;rcases bj.mp hy with hy|hy
   .refine eE _ ?_;rw[e];exact eE _ hy
   .exact bV _ hy
def MH.goB {out':Array Keyed}{n:Nat}(h:MH κ a b out na nb)(sb:SL κ b.toList)(hn:n<=nb)(ho:out'.toList.reverse=(b.toList.take nb).drop n++out.toList.reverse)(hle:∀ x∈(b.toList.take nb).drop n,∀ y∈a.toList.take na,le κ y x):MH κ a b out' na n:=by
 have e:=tK (l:=b.toList) hn;have s1:=sb.take nb;rw[e]at s1;obtain ⟨p1,p2,p3⟩:=cX.mp s1;refine #[?_,?_,?_]
 .refine List.Perm.trans (List.Perm.of_eq ?_) h.perm;rw[ho,<-dA,dA (a.toList.take na),<-e]
 .rw[ho];exact cX.mpr #[p2,h.srt,λx hx y hy=>h.high y hy x (bV _ (sv hx))]
 .intro x hx y hy;rw[ho]at hx;rcases bj.mp hx with hx|hx
  .rcases bj.mp hy with hy|hy
   .exact hle x hx y hy
   .exact p3 y hy x hx
  .refine h.high x hx y ?_;rcases bj.mp hy with hy|hy
   .exact eE _ hy
   .refine bV _ ?_;rw[e];exact eE _ hy
def lN {xs:Array Keyed}{n:Nat}(h0:0<n)(h:n<=xs.size):(xs.toList.take n).drop (n-1)=[xs[n-1]'(by lia)]:=by
 have h':n-1<xs.size:=by lia
 rw[ni,show n-(n-1)=1 by lia,nR h'];rfl
def jN {xs:Array Keyed}{n:Nat}(hs:SL κ xs.toList)(h0:0<n)(h:n<=xs.size):∀ y∈xs.toList.take n,le κ y (xs[n-1]'(by lia)):=by
 intro y hy;have q:=hs.take n;rw[tK (l:=xs.toList) (show n-1<=n by lia),lN h0 h]at q hy;rcases bj.mp hy with hy|hy
 .exact (cX.mp q).2.2 y hy _ (aM.mpr rfl)
 .rw[aM.mp hy];exact le_refl _
def MH.pa (h:MH κ a b out na nb)(sa:SL κ a.toList)(h0:0<na)(hn:na<=a.size)(hle:∀ y∈b.toList.take nb,le κ y (a[na-1]'(by lia))):MH κ a b (out.push (a[na-1]'(by lia))) (na-1) nb:=
 h.goA (n:=na - 1) sa (by lia) (by rw[lN h0 hn,ju,nj];rfl) (by
  rw[lN h0 hn];intro x hx;rw[aM.mp hx];exact hle)
def MH.pb (h:MH κ a b out na nb)(sb:SL κ b.toList)(h0:0<nb)(hn:nb<=b.size)(hle:∀ y∈a.toList.take na,le κ y (b[nb-1]'(by lia))):MH κ a b (out.push (b[nb-1]'(by lia))) na (nb-1):=
 h.goB (n:=nb - 1) sb (by lia) (by rw[lN h0 hn,ju,nj];rfl) (by
  rw[lN h0 hn];intro x hx;rw[aM.mp hx];exact hle)
def jO {xs:Array Keyed}{n:Nat}:(xs.extract 0 n).toList=xs.toList.take n:=by
 rw[m9,ng,nk,Nat.sub_zero]
def zd {xs:Array Keyed}{n m:Nat}:(xs.extract n m).toList=(xs.toList.take m).drop n:=by
 rw[m9,ng,ni]
def MH.done (h:MH κ a b out na nb)(sb:SL κ b.toList)(hna:na=0):dX κ a b (a.extract 0 na++b.extract 0 nb++out.reverse):=by
 have e2:(a.extract 0 na++b.extract 0 nb++out.reverse).toList=(a.toList.take na++b.toList.take nb)++out.toList.reverse:=by
  rw[dP,dP,jO,jO,kP]
 refine #[by rw[e2];exact h.perm,?_];rw[e2];subst hna;refine cX.mpr #[?_,h.srt,λx hx y hy=>h.high y hy x hx];rw[f6,kO];exact sb.take nb
def MH.doneB (h:MH κ a b out na nb)(sa:SL κ a.toList)(hnb:nb=0):dX κ a b (a.extract 0 na++b.extract 0 nb++out.reverse):=by
 have e2:(a.extract 0 na++b.extract 0 nb++out.reverse).toList=(a.toList.take na++b.toList.take nb)++out.toList.reverse:=by
  rw[dP,dP,jO,jO,kP]
 refine #[by rw[e2];exact h.perm,?_];rw[e2];subst hnb;refine cX.mpr #[?_,h.srt,λx hx y hy=>h.high y hy x hx];rw[f6,bZ];exact sa.take na
def MH.first (h:MH κ a b out na nb)(sa:SL κ a.toList)(sb:SL κ b.toList)(hl:∀ y∈b.toList.take nb,∀ x∈a.toList,le κ y x):dX κ a b (b.extract 0 nb++a.extract 0 na++out.reverse):=by
 have e2:(b.extract 0 nb++a.extract 0 na++out.reverse).toList=(b.toList.take nb++a.toList.take na)++out.toList.reverse:=by
  rw[dP,dP,jO,jO,kP]
 refine #[?_,?_]
 .rw[e2];exact (List.Perm.append_right _ m8).trans h.perm
 .rw[e2];refine cX.mpr #[cX.mpr #[sb.take nb,sa.take na,λx hx y hy=>hl x hx y (g8 hy)],h.srt,λx hx y hy=>h.high y hy x ?_];rcases bj.mp hx with q|q
  .exact bV _ q
  .exact eE _ q
end
def zh:Array Keyed->Array Keyed->StateT SortSt Sem (Array Keyed):=sortPriv% PySem.Builtin.mergeHi
end Tim
namespace Tim
open PySem PyProof.Rows
section
variable {prog:Program}{w:World}{A:Around}{E:Value->Shared->Prop}{s:Shared}{κ:KeyKind}{kd:SortKind}
def zy {m n z:Nat}(h:m<n)(g:n<=z):n-1<z:=aO (d7 h) g
def Ez {a b:Nat}(h:0<a):0+1+(a-1+b)<=a+b:=by rw[<-jv,fw,fq h];exact ai _
def tL {x m p q N:Nat}(h:x+(p+q)<=N)(r:m<p):x+1+(p-1+q)<=N:=by
 cases p with
 | zero=>cases r
 | succ p=>rw[iL,jv,<-jv 1,gE 1];exact h
def zj {x p N:Nat}(h:x+1+p<=N):1+p<=N:=az (fN (Nat.le_add_left 1 x) p) h
def zl {x m p q N:Nat}(h:x+(p+q)<=N)(r:m<q):x+1+(p+(q-1))<=N:=by
 rw[gE p]at h ⊢;exact tL h r
def nU {n:Nat}(h:1<n)(z:¬n-1=1):1<n-1:=cF (fo h) (aT z)
def iD {a b c N:Nat}(w:1+(a+b)<=N)(h:c<=b-1):1+(a-1+c)<=N:=az (cp (Nat.add_le_add (eK _ _) (az h (eK _ _))) 1) w
set_option maxHeartbeats 4000000 in
def EA {st:SortSt}{a b:Array Keyed}{Q:Array Keyed->SortSt->Prop}(hO:LtG prog w A s κ kd)(hkd:kindOf st=kd)(ka:∀ q∈a.toList,Keyd κ q)(kb:∀ q∈b.toList,Keyd κ q)(sa:SL κ a.toList)(sb:SL κ b.toList)
  (ha:0<a.size) (hb:0<b.size) (h0:∀ y∈a.toList,le κ b[0] y) (hl:∀ y∈b.toList,le κ y (a[a.size-1]'(d7 ha)))
  (h:∀ m st',dX κ a b m->SG st st'->Q m st'):wpS (model prog w) A E s (zh a b) Q st:=by
 have fst:∀ n,n<=1->∀ y∈b.toList.take n,∀ x∈a.toList,le κ y x:=λn hn y hy x hx=>by
  have hy':y∈b.toList.take 1:=by
   rcases jw n 1 with z|z
   .rw[Nat.lt_one_iff.mp z]at hy;simp at hy
   .rwa[fM hn z]at hy
  have e:b.toList.take 1=[b[0]]:=by
   have:=lM hb;rwa[nk]at this
  rw[e]at hy';rw[aM.mp hy'];exact h0 x hx
 have m0:MH κ a b (List.toArray [a[a.size-1]'(d7 ha)]) (a.size-1) b.size:=by
  have z:MH κ a b (List.toArray []) a.size b.size:=#[by
   rw[bx (by simp),bx (by simp)];simp,by simp,by simp]
  have:=z.pa sa ha (ai _) (λy hy=>hl y (g8 hy));simpa using this
 refine wpS_bind (iU ?_);dsimp only;refine wpS_bind (cx (d7 ha) ?_);by_cases e1:a.size-1=0
 .rw[af (by simpa using e1)];exact wpS_pure (h _ _ (m0.done sb e1) (SG.refl st))
 rw[ag (by simpa using e1)];by_cases e2:b.size=1
 .rw[af (by simpa using e2)];exact wpS_pure (h _ _ (m0.first sa sb (fst _ (dk e2))) (SG.refl st))
 rw[ag (by simpa using e2)];refine wpS_bind (wpS_get ?_);refine wpS_bind (wpS_mono (wpS_forRange (I:=λi c st'=>SG st st'/\∃ na nb out g,c=(none,na,nb,out,g)/\MH κ a b out na nb/\0 < na/\na<=a.size/\1 < nb/\nb<=b.size/\i+1+(na+nb)<=a.size+b.size)
  (Q:=λc st'=>SG st st'/\∃ m r,c=(some m,r)/\dX κ a b m) ?step ?fin #[SG.refl st,_,_,_,_,rfl,m0,eN e1,eK _ _,cF hb (aT e2),ai _,Ez ha]) ?post)
 case post=>
  rintro c st' ⟨g,m,r,rfl,hm⟩;exact wpS_pure (h m st' hm g)
 case fin=>
  rintro c st' ⟨g,na,nb,out,gg,rfl,hm,q1,q2,q3,q4,q5⟩;exact absurd q5 (by lia)
 case step=>
  rintro i c st1 _ hi ⟨g1,na,nb,out,gg,rfl,hm,q1,q2,q3,q4,q5⟩;dsimp only;refine wpS_bind (wpS_mono (wpS_forRange (I:=λx c st'=>st'=st1/\∃ na' nb' out' ca cb,c=(none,na',nb',out',ca,cb)/\MH κ a b out' na' nb'/\0 < na'/\na'<=a.size/\1 < nb'/\nb'<=b.size/\x+(na'+nb')<=na+nb)
   (Q:=λc st'=>st'=st1/\((∃ m r,c=(some m,r)/\dX κ a b m)\/∃ na' nb' out' ca cb,c=(none,na',nb',out',ca,cb)/\MH κ a b out' na' nb'/\0<na'/\na'<=a.size/\1<nb'/\nb'<=b.size/\1+(na'+nb')<=na+nb)) ?istep ?ifin #[rfl,na,nb,out,0,0,rfl,hm,q1,q2,q3,q4,by lia]) ?ipost)
  case ifin=>
   rintro c st' ⟨rfl,na',nb',out',ca,cb,rfl,hm',r1,r2,r3,r4,r5⟩;exact #[rfl,.inr #[_,_,_,ca,cb,rfl,hm',r1,r2,r3,r4,by lia]]
  case istep=>
   rintro x c st' _ hx ⟨rfl,na',nb',out',ca,cb,rfl,hm',r1,r2,r3,r4,r5⟩;dsimp only;refine wpS_bind (cx (zy r3 r4) (wpS_bind (cx (zy r1 r2) (wpS_bind (lt_G hO (by rw[g1.kind];exact hkd) (kb _ (by simp)) (ka _ (by simp)) ?_)))));dsimp only;cases e:κ.blt (ky κ (b[nb'-1]'(zy r3 r4))) (ky κ (a[na'-1]'(zy r1 r2))) with
   | true=>
    simp only[if_true];have hm2:=hm'.pa sa r1 r2 (λy hy=>le_trans (jN sb (gX r3) r4 y hy) (show le κ (b[nb'-1]'(zy r3 r4)) (a[na'-1]'(zy r1 r2)) from KeyOrd.kle_of_klt e));refine wpS_bind (cx (zy r1 r2) ?_);by_cases z:na'-1=0
    .rw[af (by simpa using z)];exact wpS_pure #[rfl,.inl #[_,_,rfl,hm2.done sb z]]
    .rw[ag (by simpa using z)];split
     .exact wpS_pure #[rfl,.inr #[_,_,_,_,_,rfl,hm2,eN z,bf (zy r1 r2),r3,r4,zj (tL r5 r1)]]
     .exact wpS_pure #[rfl,_,_,_,_,_,rfl,hm2,eN z,bf (zy r1 r2),r3,r4,tL r5 r1]
   | false=>
    simp only[cS,if_false];have hm2:=hm'.pb sb (gX r3) r4 (λy hy=>le_trans (jN sa r1 r2 y hy) (show le κ (a[na'-1]'(zy r1 r2)) (b[nb'-1]'(zy r3 r4)) from e));refine wpS_bind (cx (zy r3 r4) ?_);by_cases z:nb'-1=1
    .rw[af (by simpa using z)];exact wpS_pure #[rfl,.inl #[_,_,rfl,hm2.first sa sb (fst _ (dk z))]]
    .rw[ag (by simpa using z)];split
     .exact wpS_pure #[rfl,.inr #[_,_,_,_,_,rfl,hm2,r1,r2,nU r3 z,bf (zy r3 r4),zj (zl r5 r3)]]
     .exact wpS_pure #[rfl,_,_,_,_,_,rfl,hm2,r1,r2,nU r3 z,bf (zy r3 r4),zl r5 r3]
  case ipost=>
   rintro c st' ⟨rfl,⟨m,r,rfl,hmm⟩|⟨na',nb',out,ca,cb,rfl,hm,q1,q2,q3,q4,q6⟩⟩
   .exact wpS_pure #[g1,m,_,rfl,hmm]
   dsimp only;refine wpS_bind (iU ?_);refine wpS_bind (wpS_mono (wpS_forRange (I:=λx c st''=>SG st st''/\∃ na1 nb1 out1 gg ca cb,c=(none,na1,nb1,out1,gg,ca,cb)/\MH κ a b out1 na1 nb1/\0 < na1/\na1<=a.size/\1 < nb1/\nb1<=b.size/\1+(na1+nb1)<=na+nb)
    (Q:=λc st''=>SG st st''/\((∃ m r,c=(some m,r)/\dX κ a b m)\/∃ na1 nb1 out1 gg ca cb,c=(none,na1,nb1,out1,gg,ca,cb)/\MH κ a b out1 na1 nb1/\0<na1/\na1<=a.size/\1<nb1/\nb1<=b.size/\1+(na1+nb1)<=na+nb)) ?jstep ?jfin #[g1,_,_,_,_,_,_,rfl,hm,q1,q2,q3,q4,q6]) ?jpost)
   case jfin=>
    rintro c st'' ⟨g2,na1,nb1,out1,gg1,ca1,cb1,rfl,r⟩;exact #[g2,.inr #[_,_,_,_,_,_,rfl,r]]
   case jpost=>
    rintro c st'' ⟨g2,⟨m,r,rfl,hmm⟩|⟨na1,nb1,out1,gg1,ca1,cb1,rfl,hm1,t1,t2,t3,t4,t5⟩⟩
    .exact wpS_pure #[g2,m,_,rfl,hmm]
    .dsimp only;exact wpS_bind (nT g2 λst3 g3=>wpS_pure #[g3,_,_,_,_,rfl,hm1,t1,t2,t3,t4,by lia])
   case jstep=>
    rintro x c st'' _ hx ⟨g2,na1,nb1,out1,gg1,ca1,cb1,rfl,hm1,t1,t2,t3,t4,t5⟩;dsimp only;apply mp2
    case m=>
     intro key;by_cases hg:gg1>1
     .rw[af hg];generalize gg1-1=gg2
      revert gg2
      exact key
     .rw[ag hg];generalize gg1=gg2
      revert gg2
      exact key
    intro gg2;refine wpS_bind (nT g2 λst3 g3=>?_);refine wpS_bind (cx (zy t3 t4) (wpS_bind (jL hO (by rw[g3.kind];exact hkd) (kb _ (by simp)) ka (by lia) (by lia) (nS sa _ _ (by lia)) λat0 k1 k2 k3=>?_)));dsimp only;have hmk:MH κ a b (out1++(a.extract at0 na1).reverse) at0 nb1:=hm1.goA sa k1 (by
     rw[dP,nj,kP,sI,zd]) λx hx y hy=>by
     rw[ni]at hx;obtain ⟨j,j1,j2,j3⟩:=lL hx;have q:=k3 (at0+j) (by lia) (by lia);unfold bey at q;rw[ag (by decide),fw,iW j3,sH]at q;exact le_trans (jN sb (gX t3) t4 y hy) (show le κ (b[nb1-1]'(zy t3 t4)) x from KeyOrd.kle_of_klt q)
    have hnb:=zy t3 t4;have bk:∀ y∈a.toList.take at0,le κ y (b[nb1-1]'hnb):=λy hy=>by
     have hy':y∈(a.toList.drop 0).take at0:=by rw[nk];exact hy
     obtain ⟨j,j1,j2,j3⟩:=lL hy';have q:=k2 j j1;unfold bey at q;rw[ag (by decide),iW j3,g9]at q;exact q
    apply mp2
    case m=>
     by_cases hk:na1-at0>0
     .by_cases z:at0=0
      .intro h;clear h;rw[af hk,af (by simpa using z)];exact wpS_pure #[g3,.inl #[_,_,rfl,hmk.done sb z]]
      have w1:=eN z;have w2:=az k1 t2;have w3:=az (cp (fN k1 nb1) 1) t5;have z0:¬(at0==0)=true:=by simpa using z
      intro key;rw[af hk,ag z0];refine (?_:MH κ a b (out1++(a.extract at0 na1).reverse) at0 nb1->(∀ y∈a.toList.take at0,le κ y (b[nb1-1]'hnb))->0<at0->at0<=a.size->1+(at0+nb1)<=na+nb->_) hmk bk w1 w2 w3;generalize out1++(a.extract at0 na1).reverse=out2;generalize na1-at0=cnt;generalize at0=na2
      revert out2 cnt na2
      exact key
     .have e0:=fM k1 (sJ (nh hk));rw[e0]at bk;intro key;rw[ag hk];refine (?_:MH κ a b out1 na1 nb1->(∀ y∈a.toList.take na1,le κ y (b[nb1-1]'hnb))->0<na1->na1<=a.size->1+(na1+nb1)<=na+nb->_) hm1 bk t1 t2 t5;generalize na1-at0=cnt;generalize na1=na2;generalize out1=out2;exact key out2 cnt na2
    intro out2 cnt na2 hm2 u2 w1 w2 w3;refine wpS_bind (cx hnb ?_);have hm3:=hm2.pb sb (gX t3) t4 u2;by_cases z2:nb1-1=1
    .rw[af (by simpa using z2)];exact wpS_pure #[g3,.inl #[_,_,rfl,hm3.first sa sb (fst _ (dk z2))]]
    .rw[ag (by simpa using z2)];refine wpS_bind (cx (zy w1 w2) (wpS_bind (jL hO (by rw[g3.kind];exact hkd) (ka _ (by simp)) kb (by lia) (by lia) (nS sb _ _ (by lia)) λat' c1 c2 c3=>?_)));dsimp only;have lt5:∀ hq:0<at',le κ (b[at'-1]'(zy hq (az c1 (bf hnb)))) (a[na2-1]'(zy w1 w2)):=λhq=>by
      have q:=c2 (at'-1) (d7 hq);unfold bey at q;rw[af rfl,fw,dq (zy hq (az c1 (bf hnb)))]at q;exact KeyOrd.kle_of_klt q
     have hm4:MH κ a b (out2.push (b[nb1 - 1]'hnb)++(b.extract at' (nb1 - 1)).reverse) na2 at':=hm3.goB sb c1 (by
      rw[dP (ys:=(b.extract at' (nb1-1)).reverse),nj,kP,sI,zd]) λx hx y hy=>by
      rw[ni]at hx;obtain ⟨j,j1,j2,j3⟩:=lL hx;have q:=c3 (at'+j) (by lia) (by lia);unfold bey at q;rw[af rfl,fw,iW j3]at q;exact le_trans (jN sa w1 w2 y hy) (show le κ (a[na2-1]'(zy w1 w2)) x from q)
     by_cases hk':nb1-1-at'>0
     .rw[af hk'];by_cases z3:at'=1
      .rw[af (by simpa using z3)];exact wpS_pure #[g3,.inl #[_,_,rfl,hm4.first sa sb (fst _ (dk z3))]]
      rw[ag (by simpa using z3)];by_cases z3':at'=0
      .rw[af (by simpa using z3')];exact wpS_pure #[g3,.inl #[_,_,rfl,hm4.doneB sa z3']]
      rw[ag (by simpa using z3')];refine wpS_bind (cx (zy w1 w2) ?_);have c5:=eN z3';have hm5:=hm4.pa sa w1 w2 λy hy=>le_trans (jN sb c5 (az c1 (bf hnb)) y hy) (lt5 c5);by_cases z4:na2-1=0
      .rw[af (by simpa using z4)];exact wpS_pure #[g3,.inl #[_,_,rfl,hm5.done sb z4]]
      .rw[ag (by simpa using z4)];split
       .exact wpS_pure #[g3,.inr #[_,_,_,_,_,_,rfl,hm5,eN z4,bf (zy w1 w2),cF c5 (aT z3),az c1 (bf hnb),iD w3 c1]]
       .exact wpS_pure #[g3,_,_,_,_,_,_,rfl,hm5,eN z4,bf (zy w1 w2),cF c5 (aT z3),az c1 (bf hnb),iD w3 c1]
     .rw[ag hk'];have e0:=fM c1 (sJ (nh hk'));subst e0
      replace hm4:=hm3
      refine wpS_bind (cx (zy w1 w2) ?_);have c5:=gZ t3;have hm5:=hm4.pa sa w1 w2 λy hy=>le_trans (jN sb c5 (bf hnb) y hy) (lt5 c5);by_cases z4:na2-1=0
      .rw[af (by simpa using z4)];exact wpS_pure #[g3,.inl #[_,_,rfl,hm5.done sb z4]]
      .rw[ag (by simpa using z4)];split
       .exact wpS_pure #[g3,.inr #[_,_,_,_,_,_,rfl,hm5,eN z4,bf (zy w1 w2),nU t3 z2,bf hnb,iD w3 c1]]
       .exact wpS_pure #[g3,_,_,_,_,_,_,rfl,hm5,eN z4,bf (zy w1 w2),nU t3 z2,bf hnb,iD w3 c1]
end
end Tim
namespace Tim
open PySem PyProof.Rows
section
variable {κ:KeyKind}
def eC {s k n:Nat}(a:k<=n):s+k+(n-k)=s+n:=by rw[jv,fq a]
def cL {b i m:Nat}(h:b<=i)(g:i<b+m):i-b<m:=mZ h g
def seg (xs:Array Keyed)(lo n:Nat):List Keyed:=(xs.toList.drop lo).take n
def lO {xs:Array Keyed}{lo n i:Nat}(h:lo+n<=xs.size)(hi:i<n):(seg xs lo n)[i]?=xs[lo+i]?:=by
 unfold seg;rw[jx,af hi,kQ,eO]
def jP {xs:Array Keyed}{lo n:Nat}(h:lo+n<=xs.size):(seg xs lo n).length=n:=by
 unfold seg;rw[aW,eG,bF];exact d8 (m4 h)
def zm {xs:Array Keyed}{lo n:Nat}(h:lo+n<=xs.size)(hU:Up κ xs lo (lo+n)):SL κ (seg xs lo n):=by
 rw[SL,cM];intro i j hi hj hij;have hi':=hi;have hj':=hj;rw[jP h]at hi' hj';have li:=aO (dz hi' lo) h;have lj:=aO (dz hj' lo) h;have e1:(seg xs lo n)[i]=xs[lo+i]'li:=by
  have:=lO h hi';rw[aw hi,eJ li]at this;exact aK this
 have e2:(seg xs lo n)[j]=xs[lo+j]'lj:=by
  have:=lO h hj';rw[aw hj,eJ lj]at this;exact aK this
 rw[e1,e2];have:=hU (lo+i) (lo+j) (cq _ _) (cp (bf hij) lo) (dz hj' lo);rw[dq li,dq lj]at this;exact this
def EB {lo:Nat}:seg xs lo (n+m)=seg xs lo n++seg xs (lo+n) m:=by
 unfold seg;rw[List.take_add,m6]
def nW {lo:Nat}:(xs.extract lo (lo+n)).toList=seg xs lo n:=tJ
def EC {xs:Array Keyed}{lo n:Nat}(h:lo+n<=xs.size):xs.toList=xs.toList.take lo++(seg xs lo n++xs.toList.drop (lo+n)):=by
 unfold seg;rw[<-m6,eX,eX]
def back (xs:Array Keyed)(lo:Nat)(m:Array Keyed):Array Keyed:=m.toList.zipIdx.foldl (λa (q:Keyed×Nat)=>a.setIfInBounds (lo+q.2) q.1) xs
def tM (lo:Nat):∀(l:List Keyed) (k:Nat) (xs:Array Keyed),lo+k+l.length<=xs.size->∀ i:Nat,
  ((l.zipIdx k).foldl (λa (q:Keyed×Nat)=>a.setIfInBounds (lo+q.2) q.1) xs)[i]?=if lo+k<=i/\i<lo+k+l.length then l[i-(lo+k)]? else xs[i]?
 | [],k,xs,h,i=>by
  rw[ag λq=>jr q.1 q.2];rfl
 | x::l,k,xs,h,i=>by
  rw[cR]at h;rw[List.zipIdx_cons,List.foldl_cons,tM lo l (k+1) (xs.setIfInBounds (lo+k) x) (by rw[Array.size_setIfInBounds];lia) i,cR];by_cases h1:lo+(k+1)<=i/\i<lo+(k+1)+l.length
  .rw[af h1,af (by lia),show i-(lo+k)=(i-(lo+(k+1)))+1 from (Nat.succ_pred_eq_of_pos (gZ h1.1)).symm,kR]
  .rw[ag h1,Array.getElem?_setIfInBounds];by_cases h2:lo+k=i
   .rw[af h2,af (by lia),af (by lia)];subst h2;simp
   .rw[ag h2,ag (by lia)]
def ED {xs m:Array Keyed}{lo:Nat}(h:lo+m.size<=xs.size):(back xs lo m).toList=xs.toList.take lo++(m.toList++xs.toList.drop (lo+m.size)):=by
 apply f7;intro i;have q:=tM lo m.toList 0 xs h i;unfold back;rw[eO,q,bF,gG];have l1:(xs.toList.take lo).length=lo:=by rw[aW,bF];exact d8 (az (cq _ _) h)
 by_cases h1:i<lo
 .rw[ag λz=>jr z.1 h1,fZ (by rw[l1];exact h1),jx,af h1,eO]
 .rw[eF (by rw[l1];exact cf h1),l1];by_cases h2:i<lo+m.size
  .rw[af #[cf h1,h2],fZ (by rw[bF];exact cL (cf h1) h2)]
  .rw[ag λz=>h2 z.2,eF (by rw[bF];exact m4 (cf h2)),bF,kQ,show lo+m.size+(i-lo-m.size)=i by rw[iH];exact fq (cf h2),eO]
def lP {xs m:Array Keyed}{lo:Nat}(h:lo+m.size<=xs.size)(i:Nat):(back xs lo m)[i]?=if lo<=i/\i<lo+m.size then m[i-lo]? else xs[i]?:=by
 have q:=tM lo m.toList 0 xs h i;rw[bF,gG,eO]at q;exact q
def nX {xs:Array Keyed}{lo n:Nat}{p:Keyed}(h:lo+n<=xs.size)(hp:p∈seg xs lo n):∃ q,lo<=q/\q<lo+n/\xs[q]?=some p:=by
 obtain ⟨i,hi,e⟩:=dQ hp;have hi':=hi;rw[jP h]at hi';refine #[lo+i,cq _ _,dz hi' lo,?_];rw[<-lO h hi',aw hi,e]
def EE {xs:Array Keyed}{sa na nb k nb':Nat}(hz:sa+na+nb<=xs.size)(ua:Up κ xs sa (sa+na))(ub:Up κ xs (sa+na) (sa+na+nb))(hk:k<na)(hnb:nb'<=nb)(hb0:0<nb')
  (k2:∀ i,i<k->κ.kle (kAt κ xs (sa+i)) (kAt κ xs (sa+na))) (c3:∀ i,nb'<=i->i<nb->κ.kle (kAt κ xs (sa+na-1)) (kAt κ xs (sa+na+i)))
  (hm:dX κ (xs.extract (sa+k) (sa+na)) (xs.extract (sa+na) (sa+na+nb')) m) :
  Off xs (back xs (sa+k) m) sa (sa+(na+nb))/\Up κ (back xs (sa+k) m) sa (sa+(na+nb)):=by
 have zk:=eC (s:=sa) (bf hk);have ex:(xs.extract (sa+k) (sa+na)).toList=seg xs (sa+k) (na-k):=by
  have:=nW (xs:=xs) (lo:=sa+k) (n:=na-k);rwa[zk]at this
 have ey:(xs.extract (sa+na) (sa+na+nb')).toList=seg xs (sa+na) nb':=nW;have hp:=hm.perm;rw[ex,ey]at hp;have hz':sa+na+nb'<=xs.size:=az (cp hnb _) hz;have ms:m.size=na-k+nb':=by
  have:=hp.length_eq;rw[bF,aV,jP (by rw[zk];exact az (cq _ _) hz),jP hz']at this;exact this
 have hs:sa+k+m.size=sa+na+nb':=by rw[ms,<-jv,zk]
 have hzm:sa+k+m.size<=xs.size:=by rw[hs];exact hz'
 have bl:=ED hzm;have mid:seg xs (sa+k) m.size=seg xs (sa+k) (na-k)++seg xs (sa+na) nb':=by
  rw[ms,EB,zk]
 have perm:(back xs (sa+k) m).toList.Perm xs.toList:=by
  have e:=EC hzm;rw[mid]at e;refine (List.Perm.of_eq bl).trans (List.Perm.trans ?_ (List.Perm.of_eq e.symm));exact List.Perm.append_left _ (List.Perm.append_right _ hp)
 have inm:∀ i,sa+k<=i->i<sa+k+m.size->∃ q,sa+k<=q/\q<sa+na+nb'/\kAt κ (back xs (sa+k) m) i=kAt κ xs q:=by
  intro i h1 h2;have g:=lP hzm i;rw[af #[h1,h2],eJ (cL h1 h2)]at g;have hmem:m[i-(sa+k)]'(cL h1 h2)∈m.toList:=by simp
  rcases bj.mp (hp.mem_iff.mp hmem) with z|z
  .obtain ⟨q,q1,q2,e⟩:=nX (by rw[zk];exact az (cq _ _) hz) z;exact #[q,q1,aO q2 (by rw[zk];exact cq _ _),gh (g.trans e.symm)]
  .obtain ⟨q,q1,q2,e⟩:=nX hz' z;exact #[q,az (cp (bf hk) _) q1,q2,gh (g.trans e.symm)]
 clear zk ms mid ex ey hp;have outm:∀ i,(i<sa+k\/sa+k+m.size<=i)->kAt κ (back xs (sa+k) m) i=kAt κ xs i:=λi h=>gh (by rw[lP hzm,ag λz=>h.elim (jr z.1) (gY z.2)]);have am:∀ i q,sa<=i->i<sa+k->sa+k<=q->q<sa+na+nb->κ.kle (kAt κ xs i) (kAt κ xs q):=λi q h1 h2 h3 h4=>by
  by_cases z:q<sa+na
  .exact ua i q h1 (az (bf h2) h3) z
  .have t:=k2 (i-sa) (cL h1 h2);rw[fq h1]at t;exact KeyOrd.kle_trans t (ub _ q (ai _) (cf z) h4)
 have mc:∀ q j,sa+k<=q->q<sa+na+nb'->sa+na+nb'<=j->j<sa+na+nb->κ.kle (kAt κ xs q) (kAt κ xs j):=λq j h1 h2 h3 h4=>by
  by_cases z:q<sa+na
  .have t:=c3 (j-(sa+na)) (m4 h3) (cL (jq h3) h4);rw[fq (jq h3)]at t;exact KeyOrd.kle_trans (ua q (sa+na-1) (jq h1) (fo z) (d7 z)) t
  .exact ub q j (cf z) (az (bf h2) h3) h4
 rw[<-jv];refine #[#[sk.mpr perm,λi hi=>by rw[lP hzm,ag (by lia)]],λi j h1 h2 h3=>?_];by_cases i1:i<sa+k
 .rw[outm i (.inl i1)];by_cases j1:j<sa+k
  .rw[outm j (.inl j1)];exact ua i j h1 h2 (by lia)
  .by_cases j2:j<sa+k+m.size
   .obtain ⟨q,q1,q2,e⟩:=inm j (cf j1) j2;rw[e];exact am i q h1 i1 q1 (aO q2 (cp hnb _))
   .rw[outm j (.inr (cf j2))];exact am i j h1 i1 (cf j1) h3
 .by_cases i2:i<sa+k+m.size
  .by_cases j2:j<sa+k+m.size
   .by_cases e:i=j
    .subst e;exact KeyOrd.kle_refl _
    .have gi:=lP hzm i;have gj:=lP hzm j;have i3:=cf i1;have j3:=az i3 h2;rw[af #[i3,i2]]at gi;rw[af #[j3,j2]]at gj;rw[gh gi,gh gj,dq (cL i3 i2),dq (cL j3 j2)];have:=cM.mp hm.srt (i-(sa+k)) (j-(sa+k)) (cL i3 i2) (cL j3 j2) (Nat.sub_lt_sub_right i3 (cF h2 e));simpa [le] using this
   .obtain ⟨q,q1,q2,e⟩:=inm i (cf i1) i2;rw[e,outm j (.inr (cf j2))];exact mc q j q1 q2 (by rw[<-hs];exact cf j2) h3
  .rw[outm i (.inr (by lia)),outm j (.inr (by lia))];exact ub i j (by lia) h2 (by lia)
def zo {na nb:Nat}(ua:Up κ xs sa (sa+na))(ub:Up κ xs (sa+na) (sa+na+nb))(hna:0<na)(hle:κ.kle (kAt κ xs (sa+na-1)) (kAt κ xs (sa+na))):Up κ xs sa (sa+(na+nb)):=by
 intro i j h1 h2 h3;by_cases z:j<sa+na
 .exact ua i j h1 h2 z
 .by_cases y:i<sa+na
  .exact KeyOrd.kle_trans (ua i (sa+na-1) h1 (fo y) (d7 y)) (KeyOrd.kle_trans hle (ub (sa+na) j (ai _) (by lia) (by lia)))
  .exact ub i j (by lia) h2 (by lia)
end
end Tim
namespace Tim
open PySem PyProof.Rows
def EF (i:Nat):mergeAt' i=(do
 let s <-get
 let (some (sa,na,power),some (sb,nb,_)):=((pendingOf s)[i]?,(pendingOf s)[i+1]?)|unsupported "internal:list.sort.pending"
 set (setPending s (((pendingOf s).setIfInBounds i (sa,na+nb,power)).eraseIdxIfInBounds (i+1)))
 let some k <-tI false (<-elem' (arrOf s) sb) (arrOf s) sa na 0|return false
 let (sa,na):=(sa+k,na-k)
 if na==0 then return true
 let some nb <-tI true (<-elem' (arrOf s) (sa+na-1)) (arrOf s) sb nb (nb-1)|return false
 if nb==0 then return true
 let x:=(arrOf s).extract sa sb
 let y:=(arrOf s).extract sb (sb+nb)
 let merged <-if na<=nb then zc x y else zh x y
 modify λs=>setArr s (merged.toList.zipIdx.foldl (λa (p,j)=>a.setIfInBounds (sa+j) p) (arrOf s))
 return (failedOf (<-get)).isNone):=rfl
section
variable {prog:Program}{w:World}{A:Around}{E:Value->Shared->Prop}{s:Shared}{κ:KeyKind}{kd:SortKind}
def EG {U:Type}{x:U}{Q:PUnit->U->Prop}{st:U}(h:Q #[] x):wpS (model prog w) A E s (set x:StateT U Sem PUnit) Q st:=by
 unfold wpS;rw[StateT.run_set];exact aC #[rfl,h]
def rZ {s k n:Nat}(a:k<=n):s+k+(n-k)-1=s+n-1:=by rw[eC a]
def r6 {s k n z:Nat}(a:k<=n)(b:s+n<z):s+k+(n-k)-1<z:=by rw[eC a];exact cC (eK _ _) b
def ji {s k n z:Nat}(a:k<=n)(b:s+n<z):s+k+(n-k)<=z:=by rw[eC a];exact bf b
def kH {s k n j:Nat}(b:j<s+k+(n-k))(a:k<=n):j<s+n:=by rw[eC a]at b;exact b
def r9 {s k n j:Nat}(b:j<s+k+(n-k))(a:k<=n)(c:s+k<=j):j-s<n:=mZ (az (cq _ _) c) (kH b a)
def mR {s k n X z i:Nat}(e:X=n-k)(a:k<=n)(c:i<X)(b:s+n<z):s+k+i<z:=aO (dz c _) (by rw[e,eC a];exact bf b)
set_option maxHeartbeats 4000000 in
def EH {st:SortSt}{N i sa na pa nb pb:Nat}{Q:Bool->SortSt->Prop}(hO:LtG prog w A s κ kd)(hB:TB κ kd N st)
  (h1:(pendingOf st)[i]?=some (sa,na,pa)) (h2:(pendingOf st)[i+1]?=some (sa+na,nb,pb)) (hna:0<na) (hnb:0<nb) (hz:sa+na+nb<=N)
  (ua:Up κ (arrOf st) sa (sa+na)) (ub:Up κ (arrOf st) (sa+na) (sa+na+nb))
  (h:∀ st',TB κ kd N st'->Off (arrOf st) (arrOf st') sa (sa+(na+nb))->Up κ (arrOf st') sa (sa+(na+nb))->pendingOf st'=((pendingOf st).setIfInBounds i (sa,na+nb,pa)).eraseIdxIfInBounds (i+1)->Q true st') :
  wpS (model prog w) A E s (mergeAt' i) Q st:=by
 have hsz:=hB.size;rw[EF];refine wpS_bind (wpS_get ?_);rw[h1,h2];dsimp only;refine wpS_bind (EG ?_);generalize hp:((pendingOf st).setIfInBounds i (sa,na+nb,pa)).eraseIdxIfInBounds (i+1)=pend at h;have same:∀ st',SG (setPending st pend) st'->TB κ kd N st'/\arrOf st'=arrOf st/\pendingOf st'=pend:=λst' g=>by
  have ga:arrOf st'=arrOf st:=g.arr;refine #[#[g.kind.trans hB.kind,by rw[ga];exact hB.keys,g.failed.trans hB.failed,by rw[ga];exact hB.size],ga,g.pend]
 obtain ⟨B0,_,_⟩:=same _ (SG.refl _);have hz':sa+na+nb<=(arrOf st).size:=by rw[hsz];exact hz
 have hbz:=aO (mX hnb) hz';refine wpS_bind (cx hbz ?_);refine wpS_bind (jL hO B0.kind (hB.keys _ (by simp)) hB.keys (bf hbz) hna ua λk k1 k2 k3=>?_);dsimp only;have kk:kAt κ (arrOf st) (sa+na)=ky κ (arrOf st)[sa+na]:=dq hbz;have k2':∀ i,i<k->κ.kle (kAt κ (arrOf st) (sa+i)) (kAt κ (arrOf st) (sa+na)):=λi hi=>by
  have:=k2 i hi;unfold bey at this;simp only[cS,if_false,g9]at this;rw[kk];exact this
 have k3':∀ i,k<=i->i<na->κ.klt (kAt κ (arrOf st) (sa+na)) (kAt κ (arrOf st) (sa+i)):=λi hi hj=>by
  have:=k3 i hi hj;unfold bey at this;simp only[cS,if_false,sH]at this;rw[kk];exact this
 by_cases e1:na-k=0
 .rw[af (by simpa using e1)];obtain ⟨b1,b2,b3⟩:=same _ (SG.refl _);refine wpS_pure (h _ b1 (by rw[b2];exact Off.refl _ _ _) ?_ b3);rw[b2];refine zo ua ub hna ?_;have:=k2' (na-1) (aO (d7 hna) (sJ e1));rwa[<-Nat.add_sub_assoc hna]at this
 rw[ag (by simpa using e1)];have ek:=Nat.lt_of_sub_ne_zero e1;have e2:sa+k+(na-k)-1=sa+na-1:=rZ k1;have hlz:sa+k+(na-k)-1<(arrOf st).size:=r6 k1 hbz;refine wpS_bind (cx hlz ?_);refine wpS_bind (jL hO B0.kind (hB.keys _ (by simp)) hB.keys hz' (d7 hnb) ub λc c1 c2 c3=>?_);dsimp only;have ck:ky κ ((arrOf st)[sa+k+(na-k)-1]'hlz)=kAt κ (arrOf st) (sa+na-1):=by
  rw[<-dq hlz,e2]
 have c2':∀ i,i<c->κ.klt (kAt κ (arrOf st) (sa+na+i)) (kAt κ (arrOf st) (sa+na-1)):=λi hi=>by
  have:=c2 i hi;unfold bey at this;simp only[if_true]at this;rw[<-ck];exact this
 have c3':∀ i,c<=i->i<nb->κ.kle (kAt κ (arrOf st) (sa+na-1)) (kAt κ (arrOf st) (sa+na+i)):=λi hi hj=>by
  have:=c3 i hi hj;unfold bey at this;simp only[if_true]at this;rw[<-ck];exact this
 by_cases e3:c=0
 .rw[af (by simpa using e3)];obtain ⟨b1,b2,b3⟩:=same _ (SG.refl _);refine wpS_pure (h _ b1 (by rw[b2];exact Off.refl _ _ _) ?_ b3);rw[b2];exact zo ua ub hna (c3' 0 (dk e3) hnb)
 rw[ag (by simpa using e3)];generalize hX:(arrOf st).extract (sa+k) (sa+na)=X;generalize hY:(arrOf st).extract (sa+na) (sa+na+c)=Y;have xl:X.toList=seg (arrOf st) (sa+k) (na-k):=by
  have:=nW (xs:=arrOf st) (lo:=sa+k) (n:=na-k);rw[<-hX];rwa[show sa+k+(na-k)=sa+na from eC k1]at this
 have yl:Y.toList=seg (arrOf st) (sa+na) c:=by rw[<-hY];exact nW
 have xz:X.size=na-k:=by
  have:=congrArg List.length xl;rwa[bF,jP (ji k1 hbz)]at this
 have hc:=az (cp c1 (sa+na)) hz';have yz:Y.size=c:=by
  have:=congrArg List.length yl;rwa[bF,jP hc]at this
 have xg:∀ i (hi:i<X.size),X[i]=(arrOf st)[sa+k+i]'(mR xz k1 hi hbz):=λi hi=>by
  have e:X[i]?=(arrOf st)[sa+k+i]?:=by
   rw[<-eO,xl];exact lO (ji k1 hbz) (by rw[<-xz];exact hi)
  rw[eJ hi,eJ (mR xz k1 hi hbz)]at e;exact aK e
 have yq:∀{i},i<Y.size->sa+na+i<(arrOf st).size:=λhi=>aO (dz hi _) (by rw[yz];exact hc);have x0:0<X.size:=by rw[xz];exact gZ ek
 have v0:0<Y.size:=by rw[yz];exact eN e3
 have yg:∀ i (hi:i<Y.size),Y[i]=(arrOf st)[sa+na+i]'(yq hi):=λi hi=>by
  have e:Y[i]?=(arrOf st)[sa+na+i]?:=by
   rw[<-eO,yl];exact lO hc (by rw[<-yz];exact hi)
  rw[eJ hi,eJ (yq hi)]at e;exact aK e
 have xm:∀ q∈X.toList,∃ i,k<=i/\i<na/\ky κ q=kAt κ (arrOf st) (sa+i)/\q∈(arrOf st).toList:=λq hq=>by
  rw[xl]at hq;obtain ⟨j,j1,j2,e⟩:=nX (ji k1 hbz) hq;refine #[j-sa,kK (by rw[gE];exact j1),r9 j2 k1 j1,?_,?_]
  .rw[fq (az (cq _ _) j1),iW e]
  .rw[<-eO]at e;exact cB e
 have ym:∀ q∈Y.toList,∃ i,i<c/\ky κ q=kAt κ (arrOf st) (sa+na+i)/\q∈(arrOf st).toList:=λq hq=>by
  rw[yl]at hq;obtain ⟨j,j1,j2,e⟩:=nX hc hq;refine #[j-(sa+na),cL j1 j2,?_,?_]
  .rw[fq j1,iW e]
  .rw[<-eO]at e;exact cB e
 have kX:∀ q∈X.toList,Keyd κ q:=λq hq=>by obtain ⟨_,_,_,_,z⟩:=xm q hq;exact hB.keys q z
 have kY:∀ q∈Y.toList,Keyd κ q:=λq hq=>by obtain ⟨_,_,_,z⟩:=ym q hq;exact hB.keys q z
 have sX:SL κ X.toList:=by
  rw[xl];exact zm (ji k1 hbz) (λi j q1 q2 q3=>ua i j (az (cq _ _) q1) q2 (kH q3 k1))
 have sY:SL κ Y.toList:=by
  rw[yl];exact zm hc (λi j q1 q2 q3=>ub i j q1 q2 (aO q3 (cp c1 _)))
 have y0:∀(hb:0<Y.size),ky κ Y[0]=kAt κ (arrOf st) (sa+na):=λhb=>by
  rw[yg 0 hb,<-dq];rfl
 have lo0:∀(hb:0<Y.size),∀ q∈X.toList,le κ Y[0] q:=λhb q hq=>by
  obtain ⟨i,i1,i2,e,_⟩:=xm q hq;unfold le;rw[y0 hb,e];exact KeyOrd.kle_of_klt (k3' i i1 i2)
 have xlast:∀(ha:X.size-1<X.size),ky κ X[X.size-1]=kAt κ (arrOf st) (sa+na-1):=λha=>by
  rw[xg _ ha,<-dq];rw[xz,<-Nat.add_sub_assoc (gZ ek),e2]
 have hi0:∀(ha:X.size-1<X.size),∀ q∈Y.toList,le κ q X[X.size-1]:=λha q hq=>by
  obtain ⟨i,i1,e,_⟩:=ym q hq;unfold le;rw[xlast ha,e];exact KeyOrd.kle_of_klt (c2' i i1)
 have fin:∀ m st',dX κ X Y m->SG (setPending st pend) st'->wpS (model prog w) A E s (do
   modify λs=>setArr s (m.toList.zipIdx.foldl (λa (q:Keyed×Nat)=>a.setIfInBounds (sa+k+q.2) q.1) (arrOf s))
   return (failedOf (<-get)).isNone) Q st':=λm st' hm g=>by
  obtain ⟨b1,b2,b3⟩:=same _ g;refine wpS_bind (wpS_modify ?_);refine wpS_bind (wpS_get ?_);have hf:failedOf (setArr st' (m.toList.zipIdx.foldl (λa (q:Keyed×Nat)=>a.setIfInBounds (sa+k+q.2) q.1) (arrOf st')))=none:=b1.failed;rw[hf];rw[<-hX,<-hY]at hm;obtain ⟨o1,o2⟩:=EE hz' ua ub ek c1 (eN e3) k2' c3' hm;refine wpS_pure (h _ ?_ ?_ ?_ b3)
  .refine b1.off (lo:=sa) (hi:=sa+(na+nb)) ?_;rw[b2];exact o1
  .show Off (arrOf st) (back (arrOf st') (sa+k) m) _ _;rw[b2];exact o1
  .show Up κ (back (arrOf st') (sa+k) m) _ _;rw[b2];exact o2
 by_cases e4:na-k<=c
 .rw[af e4];refine wpS_bind ?_;refine Ey hO B0.kind kX kY sX sY x0 v0 (lo0 _) ?_ λm st' hm g=>fin m st' hm g;intro q hq i hi x hx;have:x=X[X.size-1]'(d7 x0):=by
   rw[Nat.eq_sub_of_add_eq hi,nR (d7 x0),eL (by rw[bF,Nat.sub_add_cancel x0];exact ai _)]at hx;exact aM.mp hx
  rw[this];exact hi0 _ q hq
 .rw[ag e4];refine wpS_bind ?_;exact EA hO B0.kind kX kY sX sY x0 v0 (lo0 _) (hi0 (d7 x0)) λm st' hm g=>fin m st' hm g
end
end Tim
namespace Tim
open PySem PyProof.Rows
section
variable {κ:KeyKind}{xs ys:Array Keyed}
def Runs (κ:KeyKind)(xs:Array Keyed):List (Nat×Nat×Nat)->Nat->Nat->Prop
 | [],a,b=>a=b
 | (s,n,_)::r,a,b=>s=a/\0<n/\Up κ xs a (a+n)/\Runs κ xs r (a+n) b
def Runs.le:∀{l:List (Nat×Nat×Nat)} {a b:Nat},Runs κ xs l a b->a+l.length<=b
 | [],_,_,h=>by rw[show _=_ from h];simp
 | (s,n,p)::r,a,b,⟨_,h1,_,h2⟩=>by
  have:=Runs.le h2;rw[cR];lia
def Runs.split:∀{l m:List (Nat×Nat×Nat)} {a b:Nat},Runs κ xs (l++m) a b->∃ c,Runs κ xs l a c/\Runs κ xs m c b
 | [],m,a,b,h=>#[a,rfl,h]
 | (s,n,p)::r,m,a,b,⟨h0,h1,h2,h3⟩=>by
  obtain ⟨c,c1,c2⟩:=Runs.split (l:=r) h3;exact #[c,#[h0,h1,h2,c1],c2]
def Runs.glue:∀{l m:List (Nat×Nat×Nat)} {a b c:Nat},Runs κ xs l a c->Runs κ xs m c b->Runs κ xs (l++m) a b
 | [],m,a,b,c,h,g=>by rw[show a=c from h];exact g
 | (s,n,p)::r,m,a,b,c,⟨h0,h1,h2,h3⟩,g=>#[h0,h1,h2,Runs.glue h3 g]
def Up.off {lo hi a b:Nat}(h:Up κ xs a b)(o:Off xs ys lo hi)(d:b<=lo\/hi<=a):Up κ ys a b:=λi j h1 h2 h3=>by
 rw[tG o (by lia),tG o (by lia)];exact h i j h1 h2 h3
def Runs.off {lo hi:Nat}(o:Off xs ys lo hi):∀{l:List (Nat×Nat×Nat)} {a b:Nat},Runs κ xs l a b->(b<=lo\/hi<=a)->Runs κ ys l a b
 | [],_,_,h,_=>h
 | (s,n,p)::r,a,b,⟨h0,h1,h2,h3⟩,d=>by
  have:=Runs.le h3;exact #[h0,h1,h2.off o (by lia),Runs.off o h3 (by lia)]
def zp {α:Type}{x y v:α}{post:List α}:∀ pre:List α,((pre++x::y::post).set pre.length v).eraseIdx (pre.length+1)=pre++v::post
 | []=>rfl
 | p::pre=>by
  rw[List.cons_append,cR,List.set_cons_succ,List.eraseIdx_cons_succ,zp pre,List.cons_append]
end
section
variable {prog:Program}{w:World}{A:Around}{E:Value->Shared->Prop}{s:Shared}{κ:KeyKind}{kd:SortKind}
structure SI (κ:KeyKind)(kd:SortKind)(a₀:Array Keyed)(lo:Nat)(st:SortSt):Prop where
 tb:TB κ kd a₀.size st
 perm:(arrOf st).Perm a₀
 le:lo<=a₀.size
 runs:Runs κ (arrOf st) (pendingOf st).toList 0 lo
def zq {st:SortSt}{lo i:Nat}{Q:Bool->SortSt->Prop}(hO:LtG prog w A s κ kd)(hI:SI κ kd a₀ lo st)(hi:i+1<(pendingOf st).size)
  (h:∀ st',SI κ kd a₀ lo st'->Off (arrOf st) (arrOf st') 0 lo->(pendingOf st').size+1=(pendingOf st).size->Q true st'):wpS (model prog w) A E s (mergeAt' i) Q st:=by
 have hl:(pendingOf st).toList.length=(pendingOf st).size:=bF;obtain ⟨pre,x,y,post,e,hp⟩:∃ pre x y post,(pendingOf st).toList=pre++x::y::post/\pre.length=i:=by
  refine #[(pendingOf st).toList.take i,(pendingOf st).toList[i]'(by lia),(pendingOf st).toList[i+1]'(by lia),(pendingOf st).toList.drop (i+2),?_,?_]
  .rw[<-kM,<-kM,eX]
  .rw[aW];lia
 obtain ⟨sa,na,pa⟩:=x;obtain ⟨sb,nb,pb⟩:=y;have hr:=hI.runs;rw[e]at hr;obtain ⟨c,r1,h0,h1,ua,h2,h3,ub,r2⟩:=hr.split;subst h0 h2;have l1:=r2.le;have l0:=hI.le;have g1:(pendingOf st)[i]?=some (sa,na,pa):=by
  rw[<-eO,e,<-hp];simp
 have g2:(pendingOf st)[i+1]?=some (sa+na,nb,pb):=by
  rw[<-eO,e,<-hp,eF (by lia),show pre.length+1-pre.length=1 by lia];rfl
 refine EH hO hI.tb g1 g2 h1 h3 (by lia) ua ub λst' b1 b2 b3 b4=>?_;have e':(pendingOf st').toList=pre++(sa,na+nb,pa)::post:=by
  rw[b4,Array.toList_eraseIdxIfInBounds,Array.toList_setIfInBounds,e,<-hp];exact zp pre
 refine h st' #[b1,b2.perm.trans hI.perm,hI.le,?_] (b2.wide (bG _) (by lia)) ?_
 .rw[e'];refine (r1.off b2 (.inl (ai _))).glue #[rfl,by lia,b3,?_];have:=r2.off b2 (.inr (by lia));rwa[show sa+na+nb=sa+(na+nb) by lia]at this
 .have z1:=congrArg List.length e;have z2:=congrArg List.length e';rw[bF,aV,cR]at z1 z2;rw[cR]at z1;lia
end
end Tim
namespace Tim
open PySem PyProof.Rows
section
variable {prog:Program}{w:World}{A:Around}{E:Value->Shared->Prop}{s:Shared}{κ:KeyKind}{kd:SortKind}
def Runs.modify {p:Nat}:∀{l:List (Nat×Nat×Nat)} {a b:Nat} (i:Nat),Runs κ xs l a b->Runs κ xs (l.modify i λx=>(x.fst,x.2.fst,p)) a b
 | [],_,_,i,h=>by
  cases i<;>exact h
 | (s,n,q)::r,a,b,0,h=>h
 | (s,n,q)::r,a,b,i+1,⟨h0,h1,h2,h3⟩=>#[h0,h1,h2,Runs.modify i h3]
def SI.setp {lo hi:Nat}{st:SortSt}{p:Array (Nat×Nat×Nat)}(hI:SI κ kd a₀ lo st)(hz:hi<=a₀.size)(hr:Runs κ (arrOf st) p.toList 0 hi):SI κ kd a₀ hi (setPending st p):=
 #[#[hI.tb.kind,hI.tb.keys,hI.tb.failed,hI.tb.size],hI.perm,hz,hr]
def SI.pushed {st:SortSt}{lo n:Nat}(hI:SI κ kd a₀ lo st)(hn:0<n)(hz:lo+n<=a₀.size)(hU:Up κ (arrOf st) lo (lo+n)):SI κ kd a₀ (lo+n) (setPending st ((pendingOf st).push (lo,n,0))):=by
 refine hI.setp hz ?_;rw[ju];exact hI.runs.glue #[rfl,hn,hU,rfl]
def SI.marked {st:SortSt}{lo p:Nat}(hI:SI κ kd a₀ lo st):SI κ kd a₀ lo (setPending st ((pendingOf st).modify ((pendingOf st).size-1) λx=>(x.fst,x.2.fst,p))):=by
 refine hI.setp hI.le ?_;rw[Array.toList_modify];exact hI.runs.modify _
def EI {c:Prop}[Decidable c]{n:Nat}(h:2<=n):(if c then n-2-1 else n-2)+1<n:=by
 split<;>lia
def EJ {st:SortSt}{Q:Unit->SortSt->Prop}(hO:LtG prog w A s κ kd)(hI:SI κ kd a₀ 0 st)(h2:2<=a₀.size)
  (h:∀ st',(arrOf st').Perm a₀->failedOf st'=none->Up κ (arrOf st') 0 a₀.size->Q () st'):wpS (model prog w) A E s sortRuns' Q st:=by
 rw[sortRuns'_eq];refine wpS_bind (wpS_get ?_);dsimp only;simp only[hI.tb.size];generalize minRun' a₀.size a₀.size 0=mr;refine wpS_bind (wpS_mono (wpS_forRange (I:=λx c st'=>∃ lo,c=(none,lo)/\x<=lo/\SI κ kd a₀ lo st') (Q:=λc st'=>c=(none,a₀.size)/\SI κ kd a₀ a₀.size st') ?step ?fin #[0,rfl,ai _,hI]) ?post)
 case fin=>
  rintro c st' ⟨lo,rfl,hx,hI'⟩;have e:lo=a₀.size:=by
   have:=hI'.le;lia
  subst e;exact #[rfl,hI']
 case step=>
  rintro x c st' _ hx ⟨lo,rfl,hxl,hI'⟩;have hle:=hI'.le;dsimp only;by_cases hlo:lo >= a₀.size
  .rw[af hlo];have e:lo=a₀.size:=by lia
   subst e;exact wpS_pure #[rfl,hI']
  .rw[ag hlo];refine wpS_bind (Eo hO hI'.tb (by lia) (by lia) λr st2 hr=>?_);obtain ⟨n,ys,rfl,n1,n2,rfl,ho,hU⟩:=hr;have hI2:SI κ kd a₀ lo (setArr st' ys):=#[hI'.tb.off ho,ho.perm.trans hI'.perm,hle,hI'.runs.off ho (.inl (ai _))];dsimp only;apply mp2
   case m=>
    intro key;by_cases hmr:n<mr
    .rw[af hmr];have l1:lo+min (a₀.size-lo) mr<=a₀.size:=Nat.add_le_of_le_sub' hle (Nat.min_le_left _ _);have l2:=Nat.le_min.mpr #[n2,bf hmr];refine wpS_bind (iU (wpS_bind (Er hO hI2.tb l1 l2 hU λzs oz uz=>?_)));simp only[hE,cS,if_false];refine (?_:SI κ kd a₀ lo (setArr st' zs)->Up κ zs lo (lo+min (a₀.size-lo) mr)->0<min (a₀.size-lo) mr->lo+min (a₀.size-lo) mr<=a₀.size->_) #[hI2.tb.off oz,oz.perm.trans hI2.perm,hle,hI2.runs.off oz (.inl (ai _))] uz (az n1 l2) l1;generalize min (a₀.size-lo) mr=m;generalize zs=xs
     revert m xs
     exact key
    .rw[ag hmr];exact key n ys hI2 hU n1 (Nat.add_le_of_le_sub' hle n2)
   intro m xs hI3 uz m0 m1;have m2:x+1<=lo+m:=Nat.add_le_add hxl m0;refine wpS_bind (wpS_get ?_);cases hb:(pendingOf (setArr st' xs)).back? with
   | none=>
    dsimp only;exact wpS_bind (wpS_modify (wpS_pure #[_,rfl,m2,hI3.pushed m0 m1 uz]))
   | some x1=>
    obtain ⟨s1,n1',p1⟩:=x1;dsimp only;refine wpS_bind (wpS_mono (wpS_forRange (I:=λ_ c st5=>c=(none,())/\SI κ kd a₀ lo st5/\Up κ (arrOf st5) lo (lo+m)) (Q:=λc st5=>c=(none,())/\SI κ kd a₀ lo st5/\Up κ (arrOf st5) lo (lo+m)) ?_ (λ_ _ z=>z) #[rfl,hI3,uz]) ?_)
    .rintro i c st5 _ _ ⟨rfl,hI5,hU5⟩;refine wpS_bind (wpS_get ?_);by_cases h1:(pendingOf st5).size>1
     .have h2:=Nat.sub_lt (gX h1) jo;rw[af h1,eJ h2];obtain ⟨q1,q2,q3⟩:=(pendingOf st5)[(pendingOf st5).size-2]'h2;dsimp only;split
      .exact wpS_pure #[rfl,hI5,hU5]
      .refine wpS_bind (zq hO hI5 (by lia) λst6 h3 h4 _=>?_);simp only[hE,cS,if_false];exact wpS_pure #[rfl,h3,hU5.off h4 (.inr (ai _))]
     .rw[ag h1];exact wpS_pure #[rfl,hI5,hU5]
    .rintro c st5 ⟨rfl,hI5,hU5⟩;dsimp only;exact wpS_bind (wpS_modify (wpS_bind (wpS_modify (wpS_pure #[_,rfl,m2,SI.pushed (SI.marked hI5) m0 m1 hU5]))))
 case post=>
  rintro c st' ⟨rfl,hI'⟩;dsimp only;refine wpS_bind (wpS_mono (wpS_forRange (I:=λx c st''=>c=(none,())/\SI κ kd a₀ a₀.size st''/\(pendingOf st'').size+x<=a₀.size+1) (Q:=λc st''=>c=(none,())/\SI κ kd a₀ a₀.size st''/\(pendingOf st'').size<=1) ?_ ?_ #[rfl,hI',?_]) ?_)
  .rintro x c st'' _ hx ⟨rfl,hJ,hz⟩;refine wpS_bind (wpS_get ?_);by_cases h1:(pendingOf st'').size<=1
   .rw[af h1];exact wpS_pure #[rfl,hJ,h1]
   .rw[ag h1];refine wpS_bind (zq hO hJ ?_ λst3 h3 _ h4=>?_)
    .exact EI (by lia)
    .simp only[hE,cS,if_false];exact wpS_pure #[rfl,h3,by lia]
  .rintro c st'' ⟨rfl,hJ,hz⟩;exact #[rfl,hJ,by lia]
  .have:=hI'.runs.le;rw[bF]at this;lia
  .rintro c st'' ⟨rfl,hJ,hz⟩;dsimp only;refine wpS_pure (h _ hJ.perm hJ.tb.failed ?_);have hr:=hJ.runs;rw[<-bF]at hz
   match e:(pendingOf st'').toList,hz,hr with
   | [],_,hr=>
    have:0=a₀.size:=hr;lia
   | [(s1,n1,p1)],_,hr=>
    obtain ⟨_,_,u,z⟩:=hr;have z:0+n1=a₀.size:=z;rw[z]at u;exact u
end
end Tim
namespace Tim
open PySem PyProof.Rows
section
variable {prog:Program}{w:World}{A:Around}{E:Value->Shared->Prop}{s:Shared}{κ:KeyKind}{kd:SortKind}
def lQ (a:Addr)(h h':Heap):Prop:=∀ b o,b≠a->h.get? b=some o->h'.get? b=some o
def keyV (κ:KeyKind)(v:Value):κ.α:=(κ.keyOf v).getD κ.dflt
def tN:∀ vs:List Value,vs.zip vs=vs.map λv=>(v,v)
 | []=>rfl
 | v::vs=>by rw[sL,tN vs,bS]
def tO {vs:List Value}{p:Keyed}(h:p∈(pairsOf vs).toList):p.1=p.2/\p.1∈vs:=by
 have e:(pairsOf vs).toList=vs.zip vs:=by
  unfold pairsOf;simp
 rw[e]at h;rw[tN]at h;obtain ⟨v,hv,rfl⟩:=bC.mp h;exact #[rfl,hv]
def EK (vs:List Value):(pairsOf vs).toList.map (·.2)=vs:=by
 have e:(pairsOf vs).toList=vs.zip vs:=by
  unfold pairsOf;simp
 rw[e,tN,hG];have z:((λx:Keyed=>x.2) ∘ λv:Value=>(v,v))=id:=rfl
 first
  | rw[z,List.map_id]
  | exact List.map_id vs
def EL {vs:List Value}{xs:Array Keyed}(hp:xs.Perm (pairsOf vs))(hU:Up κ xs 0 (pairsOf vs).size) :
  (xs.toList.map (·.2)).Perm vs/\(xs.toList.map (·.2)).Pairwise (λx y=>κ.kle (keyV κ x) (keyV κ y)):=by
 have hpl:=sk.mp hp;refine #[?_,?_]
 .have:=hpl.map (·.2);rwa[EK]at this
 .have hs:SL κ xs.toList:=Ew (by rw[hp.size_eq];exact hU);refine iM.mpr (hs.imp_of_mem λ{a b} ha hb hab=>?_);have ea:=(tO (hpl.mem_iff.mp ha)).1;have eb:=(tO (hpl.mem_iff.mp hb)).1;unfold le ky at hab;unfold keyV;rw[<-ea,<-eb];exact hab
def EM {a:Addr}{vs:List Value}{n:Nat}{P:Fin->Shared->Prop}(ho:s.heap.get? a=some (seqObj "list" vs.toArray n))(hz:vs.length<=sizeLine)(keys:∀ v∈vs,∃ k,κ.keyOf v=some k)
  (hlt:∀ h',lQ a s.heap h'->LtG prog w A { s with heap:=h' } κ kd)
  (hkd:∀(h':Heap) (E:Value->Shared->Prop) (Q:SortKind->Shared->Prop),lQ a s.heap h'->2<=vs.length->Q kd { s with heap:=h' }->wpAny (model prog w) A (keyKind' vs.toArray) Q E { s with heap:=h' })
  (h:∀ out:List Value,out.Perm vs->out.Pairwise (λx y=>κ.kle (keyV κ x) (keyV κ y))->P (.done (.ret .none)) { s with heap:=sortedHeap s.heap a vs out.toArray }) :
  wpAny (model prog w) A (Builtin.«list.sort» #[[.ref a],[]]) P E s:=by
 rw[list_sort_plain];have hlt0:a<s.heap.objs.size:=aJ ho;refine ao (listItems_at ho rfl ?_);refine ao (listUpdate_at ho rfl ?_ (by simpa using hz) (bG _));obtain ⟨m,ho1⟩:∃ m,(s.heap.update a (Obj.mapSeq λ_=>(List.toArray []))).get? a=some (seqObj "list" (List.toArray []) m):=#[_,get?_update_seq ho (λ_=>(List.toArray []))];refine ao (seqEpoch_at ho1 rfl ?_);refine ao (wpAny_newTuple ?_ (by simpa using hz));refine ao (wpAny_newList ?_);refine wpAny_holding ?_;have z1:(s.heap.update a (Obj.mapSeq λ_=>(List.toArray []))).objs.size=s.heap.objs.size:=by rw[Heap.size_update]
 have hk:lQ a s.heap (((s.heap.update a (Obj.mapSeq λ_=>(List.toArray []))).push (seqObj "tuple" vs.toArray 0)).push (seqObj "list" (List.toArray []) 0)):=λb o hb e=>
  aU _ (aU _ ((iG _ _ (aT hb)).trans e))
 have ho6:(((s.heap.update a (Obj.mapSeq λ_=>(List.toArray []))).push (seqObj "tuple" vs.toArray 0)).push (seqObj "list" (List.toArray []) 0)).get? a=some (seqObj "list" (List.toArray []) m):=aU _ (aU _ ho1);show wpAny (model prog w) A _ P E { s with heap:=((s.heap.update a (Obj.mapSeq λ_=>(List.toArray []))).push (seqObj "tuple" vs.toArray 0)).push (seqObj "list" (List.toArray []) 0) };dsimp only;have fin:∀ st':SortSt,(arrOf st').Perm (pairsOf vs)->failedOf st'=none->Up κ (arrOf st') 0 (pairsOf vs).size->wpAny (model prog w) A (do
   let touched:=(<-seqEpoch a) != m
   Builtin.List.listUpdate (.ref a) λ_=>(arrOf st').map (·.2)
   if let some e:=failedOf st' then rule "list.sort.comparison-raised";throw e
   if touched then rule "list.sort.modified";raiseError "ValueError" "list modified during sort"
   ret .none) P E { s with heap:=((s.heap.update a (Obj.mapSeq λ_=>(List.toArray []))).push (seqObj "tuple" vs.toArray 0)).push (seqObj "list" (List.toArray []) 0) }:=λst' hp hf hU=>by
  refine ao (seqEpoch_at ho6 rfl ?_);refine ao (listUpdate_at ho6 rfl ?_ (bG _) (by
   refine az (dk ((Array.size_map ..).trans (hp.size_eq.trans (pairsOf_size _)))) ?_;lia))
  rw[hf];simp only[bne_self_eq_false,cS,if_false];obtain ⟨o1,o2⟩:=EL hp hU;have:=h _ o1 o2;have e:((arrOf st').toList.map (·.2)).toArray=(arrOf st').map (·.2):=by rw[<-Array.toList_map,Array.toArray_toList]
  rw[e]at this;exact aC this
 by_cases h2:vs.toArray.size<2
 .rw[af h2,af h2];refine ao (aC ?_);rw[StateT.run_pure];refine ao (aC ?_);refine fin (SortSt.mk' general' (vs.toArray.zip vs.toArray) (List.toArray []) 7 none) (Array.Perm.refl _) rfl ?_;intro i j q1 q2 q3;have:i=j:=by
   rw[pairsOf_size]at q3;simp at h2;lia
  subst this;exact KeyOrd.kle_refl _
 .rw[ag h2,ag h2];have h2':2<=vs.length:=by
   simp at h2;lia
  refine ao (hkd _ _ _ hk h2' ?_);refine ao (dM (EJ (κ:=κ) (hlt _ hk) (a₀:=pairsOf vs) (st:=SortSt.mk' kd (vs.toArray.zip vs.toArray) (List.toArray []) 7 none)
   (Q:=λ_ st'=>(arrOf st').Perm (pairsOf vs)/\failedOf st'=none/\Up κ (arrOf st') 0 (pairsOf vs).size)
   #[#[rfl,λp hp=>keys _ (tO hp).2,rfl,rfl],Array.Perm.refl _,bG _,rfl] (by rw[pairsOf_size];lia) λst' a1 a2 a3=>#[a1,a2,a3]) ?_ λ_ _ e=>e)
  rintro ⟨⟨⟩,st'⟩ s' ⟨rfl,hp,hf,hs⟩;exact fin st' hp hf hs
def EN {h:Heap}{a:Addr}{vs out:List Value}{n:Nat}(ho:h.get? a=some (seqObj "list" vs.toArray n)):lQ a h (sortedHeap h a vs out.toArray)/\∃ c,(sortedHeap h a vs out.toArray).get? a=some (seqObj "list" out.toArray c):=by
 unfold sortedHeap;refine #[λb o hb e=>(iG _ _ (aT hb)).trans (aU _ (aU _ ((iG _ _ (aT hb)).trans e))),?_];exact #[_,get?_update_seq (aU _ (aU _ (get?_update_seq ho (λ_=>(List.toArray []))))) λ_=>out.toArray]
def EO {l:Addr}{vs:List Value}{Q:Value->Shared->Prop}(hl:s.heap.IsList l vs.toArray)(hz:vs.length<=sizeLine)(keys:∀ v∈vs,∃ k,κ.keyOf v=some k)
  (hlt:∀ h',(∀ b o,s.heap.get? b=some o->h'.get? b=some o)->LtG prog w A.in1.in1 { s with heap:=h' } κ kd)
  (hkd:∀(h':Heap) (E:Value->Shared->Prop) (Q:SortKind->Shared->Prop),(∀ b o,s.heap.get? b=some o->h'.get? b=some o)->2<=vs.length->Q kd { s with heap:=h' }->wpAny (model prog w) A.in1.in1 (keyKind' vs.toArray) Q E { s with heap:=h' })
  (h:∀(out:List Value) (h':Heap) (c:Nat),out.Perm vs->out.Pairwise (λx y=>κ.kle (keyV κ x) (keyV κ y))->(∀ b o,s.heap.get? b=some o->h'.get? b=some o)->
   h'.get? (s.heap.objs.size+1)=some (seqObj "list" out.toArray c)->Q (.ref (s.heap.objs.size+1)) { s with heap:=h' }) :
  wpAny (model prog w) A (call (.builtin "sorted") [.ref l]) Q E s:=by
 refine Calls.call_function_entry kind_sorted plain_sorted entry_sorted (args_sorted1 _) ?_;unfold Builtin.«sorted»;refine ao (m:=checkCount "sorted" 1 1 _) (aC ?_);refine ao (collect_list hl ?_ hz);refine ao (wpAny_newList ?_ (by simpa using hz));have z1:((s.heap.push (seqObj "list" (List.toArray []) 0)).update s.heap.objs.size (Obj.mapSeq (· ++ vs.toArray))).objs.size=s.heap.objs.size+1:=by
  rw[Heap.size_update,size_push']
 have hn:(((s.heap.push (seqObj "list" (List.toArray []) 0)).update s.heap.objs.size (Obj.mapSeq (· ++ vs.toArray))).push (seqObj "list" vs.toArray 0)).get? (s.heap.objs.size+1)=some (seqObj "list" vs.toArray 0):=by
  rw[<-z1];exact cQ _ rfl
 have hk:∀ b o,s.heap.get? b=some o->(((s.heap.push (seqObj "list" (List.toArray []) 0)).update s.heap.objs.size (Obj.mapSeq (· ++ vs.toArray))).push (seqObj "list" vs.toArray 0)).get? b=some o:=λb o e=>
  aU _ ((iG _ _ (iE (aJ e))).trans (aU _ e))
 show wpAny _ _ _ _ _ { s with heap:=((s.heap.push (seqObj "list" (List.toArray []) 0)).update s.heap.objs.size (Obj.mapSeq (· ++ vs.toArray))).push (seqObj "list" vs.toArray 0) };rw[z1];generalize ((s.heap.push (seqObj "list" (List.toArray []) 0)).update s.heap.objs.size (Obj.mapSeq (· ++ vs.toArray))).push (seqObj "list" vs.toArray 0)=h1 at hn hk ⊢;have up:∀ h',lQ (s.heap.objs.size+1) h1 h'->∀ b o,s.heap.get? b=some o->h'.get? b=some o:=λh' kb b o e=>kb b o (λz=>by
  have:=aJ e;rw[z]at this;exact absurd this (hW.mpr (dj _))) (hk b o e)
 refine ao (wpAny_holding (wpAny_call_entry slot_list_sort #[_,hn,rfl] entry_list_sort (EM (s:={ s with heap:=h1 }) hn hz keys (λh' kb=>hlt h' (up h' kb)) (λh' E Q kb h2 q=>hkd h' E Q (up h' kb) h2 q) λout p1 p2=>#[_,rfl,?_]) (args_list_sort _)));obtain ⟨kb,c,hc⟩:=EN (out:=out) hn;exact aC #[_,rfl,h out _ c p1 p2 (up _ kb) hc]
end
end Tim
namespace L2
open PySem PySem.Spec PyProof.Rows
structure DF (K:Frag)(mg:Str->Option Value)(x:Str)(st:Stmt)(ps:List Str):Prop where
 ex:∃ f fd,Fun K x x st f fd/\gN K fd ps []/\mg x=some (.ref f)
structure FC (P:Program)(w:World)(K:Frag)(mg:Str->Option Value)(base:Heap)(k:Nat)(x:Str)(ps:List Str)(sp:Sp):Prop where
 ex:∃ f fd,FnOk P w K mg base CX0 k f fd ps sp/\gN K fd ps []/\keepIn K (.ref f)=true/\mg x=some (.ref f)/\∃ oc od osl,K.lookup f=some #[oc,od,.func fd,osl]
def FC.at {w:World}{K:Frag}{mg:Str->Option Value}{base:Heap}{k:Nat}{f:Addr}{fd:FuncData}{oc:Value}{od:Option Addr}{osl:Array (Option Value)}(F:FC P w K mg base k x ps sp)(m:mg x=some (.ref f))(l:K.lookup f=some #[oc,od,.func fd,osl]):FnOk P w K mg base CX0 k f fd ps sp:=by
 obtain ⟨f',fd',ok,_,_,m',oc',od',osl',l'⟩:=F.ex;rw[m]at m';cases m'
 rw[l]at l';cases l'
 exact ok
def DF.ok {w:World}{K:Frag}{mg:Str->Option Value}{base:Heap}{st:Stmt}{N:List Str}{k:Nat}{sp:Sp}(D:DF K mg x st ps)(S:aP N ps (aH st))(len:∀ vs H Q E,sp vs H Q E->vs.length=ps.length)
  (hbody:∀(f:Addr) (cdv:Value) (A:Around) (outer:List Env) (s:Shared) (H:Hp) (vs:List V) (Q:VK) (E:XK),Room k (A.deeper (envOfC x (aH st) s.heap.objs.size f cdv))->sp vs H Q E->
   ∃ t,PSs (cxOf CX0 P w K mg base N x (aH st) f cdv A outer s H E).nox (fg st) t/\t { nx:=λ_ H'=>Q .non H',rt:=Q } (da N vs) H):FC P w K mg base (k+1) x ps sp:=by
 obtain ⟨f,fd,F,b,m⟩:=D.ex;exact #[f,fd,F.ok S len λcdv A outer s H vs Q E hr h=>hbody f cdv A outer s H vs Q E hr h,b,F.kp,m,by
  obtain ⟨oc,od,kV,doc,pm,an,cdv,ct,osl,rfl,lk,hcd⟩:=F.ex;exact #[oc,od,osl,lk]]
def aG {X:Cx}{k:Nat}{e:Expr}{es:List Expr}{t:TA}{p pos:Pos}(F:FC X.prog X.w X.K X.mg X.base j x ps sp)(hr:Room k X.A)(ha:PA X (e::es) t)(hjk:j<=k:=by decide)(hg:Gl X x:=by rfl)
  (hdb:(x==("__debug__" : Str))=false:=by decide) (he:starEach (e::es) X.env=(false,eval e X.env)::starEach es X.env:=by rfl) (hpl:(backTo pos (starEach es X.env)).any (·.1)=false:=by rfl):PE X (.Call (.Name x p) (e::es) [] pos) (yj sp [] E0 t):=by
 obtain ⟨f,fd,ok,b,kp,m,_⟩:=F.ex;exact DA ok (hr.mono hjk) hg m kp b .nil yW ha hdb he hpl
def ER (t u:TS):TS:=λD U H=>∃ M:St->Hp->Prop,t { D with nx:=M } U H/\∀ U' H',M U' H'->u D U' H'
def fG {st:Stmt}{rest:List Stmt}{t:TS}(h1:PS X st t)(h2:PSs X rest u):PSs X (st::rest) (ER t u):=by
 intro LI s U H D I h;obtain ⟨M,h,hM⟩:=h;refine wpAny_execs_cons (thn (h1 LI s U H { D with nx:=M } I h) λf s1 q=>?_);cases f with
 | next=>
  obtain ⟨U',H',I',q⟩:=q;exact h2 LI s1 U' H' D I' (hM U' H' q)
 | ret v=>exact q
 | brk=>exact q
 | cont=>exact q
def ES (i j:Int):Prop:=0<j/\j<2^4000
section
variable {X:Cx}
def kitO (a b:String):Option Bool:=if (Value.type a==Value.type b)=true then some true else if W.kitMeta b=true then (PySem.fastBuiltinMro a).map (·.contains (.type b)) else none
def ET {K:Frag}{a:String}:kitOne K (.type a) (.type b)=kitO a b:=rfl
inductive rIsi (K:Frag)(xs:List V)(H:Hp)(Q:VK):Prop
 | c:∀ x n t b,xs=[x,.ty n]->TyOf K H x (.type t)->kitO t n=some b->Q (.bl b) H->rIsi K xs H Q
def EU:cT X (.builtin "isinstance") (rIsi X.K):=by
 intro LI s U H xs us Q I r h;obtain ⟨x,n,t,b,e,ty,ki,q⟩:=h;subst e;obtain ⟨u,w',e,r1,r2⟩:=gM r;subst e;cases r2
 exact Dz I r1 ty (ET.trans ki) λtk=>#[.bl b,H,I.tok tk,rfl,q]
def EV:kitO "int" "int" = some true:=by decide +kernel
def EW:kitO "int" "bool" = some false:=by decide +kernel
def EX:kitO "list" "list" = some true:=by decide +kernel
inductive zr (x:V)(xs:List V)(H:Hp)(Q:VK):Prop
 | c:∀ i,x=.int i->xs=[]->Q (.int (Builtin.Int.intBits i:Nat)) H->zr x xs H Q
def EY:MtR X "int.bit_length" zr:=by
 intro LI s U H x xs v us Q I rx rv h;obtain ⟨i,rfl,rfl,q⟩:=h;obtain ⟨t,rfl⟩:=rx;cases rv
 exact call_int_bit_length #[.int _,H,I.tok _,#[_,rfl],q]
end
def EZ {c A B:Prop}[Decidable c](hc:¬ c)(h:B):if decide c=true then A else B:=by
 rw[bD hc];exact iteF h
def tP {c A B:Prop}[Decidable c](hc:c)(h:A):if decide c=true then A else B:=by
 rw[bg hc];exact iteT h
def de (L:Addr)(a l:Int):HO:=.dK [(.inr "script",.ref L),(.inr "at",.int a),(.inr "left",.int l)]
def Keep (d:Addr)(H H':Hp):Prop:=∀ b o,b≠d->H b=some o->H' b=some o
def Keep.refl (d:Addr)(H:Hp):Keep d H H:=λ_ _ _ h=>h
def Keep.trans (a:Keep d H H1)(b:Keep d H1 H2):Keep d H H2:=λc o n h=>b c o n (a c o n h)
def Same.keep (s:Same H H'):Keep d H H':=λb o _ h=>s b o h
structure LS (K:Frag)(L d:Addr)(H:Hp):Prop where
 ex:∃(ns:List Int) (a l:Int),H d=some (de L a l)/\SqL K H L (ns.map V.int)
def tQ {K:Frag}{H:Hp}{d:Addr}{a:Int}(hd:H d=some (de L' a l))(k:Keep d H H')(h:SqL K H L xs):SqL K H' L xs:=by
 have ne:∀ o,H L=some o->(∀ kvs,o≠.dK kvs)->L≠d:=λo e n z=>by
  rw[z,hd]at e;cases e
  exact n _ rfl
 rcases h with (h|⟨o,h⟩)|h
 .exact .inl (.inl (k L _ (ne _ h nofun) h))
 .exact .inl (.inr #[o,k L _ (ne _ h nofun) h])
 .exact .inr h
def LS.set {K:Frag}{d:Addr}{H:Hp}{ns:List Int}{a l:Int}(hd:H d=some (de L a l))(h:SqL K H L (ns.map V.int)):LS K L d (upd H d (de L a' l'))/\Keep d H (upd H d (de L a' l')):=by
 have k:Keep d H (upd H d (de L a' l')):=λb o n e=>by rw[ak n];exact e
 exact #[#[ns,a',l',aj,tQ hd k h],k]
def LS.same {K:Frag}(s:LS K L d H)(k:Same H H'):LS K L d H':=by
 obtain ⟨ns,a,l,e,q⟩:=s.ex;exact #[ns,a,l,k _ _ e,k.seq q]
def aF {H:Hp}{p:Addr}(h:H p=none)(o:HO):Same H (upd H p o):=λb u q=>by rw[ak (au q h)];exact q
def LS.put {K:Frag}{p:Addr}{H2:Hp}{o:HO}(s:LS K L d H0)(hp:H0 p=none)(k:∀ b o,b≠d->b≠p->H0 b=some o->H2 b=some o)(s2:LS K L d H2):LS K L d (upd H2 p o):=by
 obtain ⟨ns,a,l,e,q⟩:=s.ex;obtain ⟨ns2,a2,l2,e2,_⟩:=s2.ex;have hdp:d≠p:=au e hp;have go:∀ u,H0 L=some u->(∀ kvs,u≠.dK kvs)->upd H2 p o L=some u:=λu hu hn=>by
  have h1:L≠p:=au hu hp;have h2:L≠d:=λz=>by
   rw[z,e]at hu;cases hu
   exact hn _ rfl
  rw[ak h1];exact k L u h2 h1 hu
 refine #[ns,a2,l2,by rw[ak hdp];exact e2,?_];rcases q with (h|⟨ob,h⟩)|h
 .exact .inl (.inl (go _ h nofun))
 .exact .inl (.inr #[ob,go _ h nofun])
 .exact .inr h
section
variable {H:Hp}{d L:Addr}{a l:Int}
def gk {x y:Str}(h:x≠y):(Sum.inr x:Key)≠Sum.inr y:=λz=>h (Sum.inr.inj z)
def E1 (h:H d=some (de L a l)):DGet H d (.str "script") (some (.ref L)):=.inl #[_,.inr "script",.inl h,rfl,by rw[ij rfl]]
def E2 (h:H d=some (de L a l)):DGet H d (.str "at") (some (.int a)):=.inl #[_,.inr "at",.inl h,rfl,by rw[fF (gk (show ("script" : Str) ≠ "at" by decide +kernel)),ij rfl]]
def tR (h:H d=some (de L a l)):DGet H d (.str "left") (some (.int l)):=.inl #[_,.inr "left",.inl h,rfl,by rw[fF (gk (show ("script" : Str) ≠ "left" by decide +kernel)),fF (gk (show ("at" : Str) ≠ "left" by decide +kernel)),ij rfl]]
def zt {k:Key}{kvs kvs':List (Key×V)}(h:H d=some (.dK kvs))(hl:kvs.length<sizeLine)(e:putK kvs k v=kvs'):DPut H d (kV k) v (upd H d (.dK kvs')):=by
 subst e;exact DPut.k h hl
def E3 (h:H d=some (de L a l)):DPut H d (.str "at") (.int a') (upd H d (de L a' l)):=
 zt (k:=.inr "at") h (by show 3 < sizeLine;decide) (by
  unfold putK;rw[af (by simp)];simp only[bS,jm,ag (gk (show ("script" : Str) ≠ "at" by decide +kernel)),ag (gk (show ("left" : Str) ≠ "at" by decide +kernel)),if_true])
def zu (h:H d=some (de L a l)):DPut H d (.str "left") (.int l') (upd H d (de L a l')):=
 zt (k:=.inr "left") h (by show 3 < sizeLine;decide) (by
  unfold putK;rw[af (by simp)];simp only[bS,jm,ag (gk (show ("script" : Str) ≠ "left" by decide +kernel)),ag (gk (show ("at" : Str) ≠ "left" by decide +kernel)),if_true])
end
inductive gP (K:Frag)(vs:List V)(H:Hp)(Q:VK)(w_1:XK):Prop
 | c:∀(d L:Addr) (m:Int),vs=[.ref d,.int m]->(0<m/\m<1073741824)->LS K L d H->(∀(v:Int) (H':Hp),0<=v->v<m->Keep d H H'->LS K L d H'->Q (.int v) H')->gP K vs H Q w_1
inductive tS (vs:List V)(H:Hp)(Q:VK)(w_1:XK):Prop
 | c:∀(c k:Int),vs=[.int c,.int k]->(∀ v:Int,Q (.int v) H)->tS vs H Q w_1
inductive tT (K:Frag)(vs:List V)(H:Hp)(Q:VK)(w_1:XK):Prop
 | c:∀(L:Addr) (ns:List Int),vs=[.ref L]->SqL K H L (ns.map V.int)->(∀(d:Addr) (H':Hp),H d=none->Same H H'->LS K L d H'->Q (.ref d) H')->tT K vs H Q w_1
def E4 {ns:List Int}{k:Int}(h:0<ns.length):∃ v:Int,atI (ns.map V.int) (k%(((ns.map V.int).length:Nat):Int))=some (.int v):=by
 have e:(ns.map V.int).length=ns.length:=aq _;have h1:(0:Int)<(((ns.map V.int).length:Nat):Int):=by rw[e];lia
 have z0:=kS k (Int.ne_of_gt h1);have z1:=kT k h1;generalize hj:k%(((ns.map V.int).length:Nat):Int)=j at z0 z1;rw[e]at z1;have hk:j.toNat<ns.length:=by lia
 obtain ⟨n,rfl⟩:∃ n:Nat,j=(n:Int):=#[j.toNat,by lia];have hn:n<ns.length:=by lia
 exact #[ns[n],cI (by rw[aY,aw hn];rfl)]
end L2
namespace L2
open PySem PySem.Spec PyProof.Rows PySem.SeqAt
def Ext (H H':Hp):Prop:=∀ b o,H b=some o->(∀ kvs,o≠.dK kvs)->H' b=some o
def Same.ext (s:Same H H'):Ext H H':=λb o h _=>s b o h
def Keep.ext {a l:Int}(k:Keep d H H')(h:H d=some (de L a l)):Ext H H':=λb o e n=>k b o (λz=>by
 rw[z,h]at e;cases e
 exact n _ rfl) e
def LS.ext {K:Frag}(s:LS K L d H)(k:Keep d H H'):Ext H H':=by
 obtain ⟨ns,a,l,e,_⟩:=s.ex;exact k.ext e
def LS.of_new {K:Frag}(s:LS K L d H){p:Addr}(hp:H p=none)(o:HO):LS K L d (upd H p o):=s.same (aF hp o)
def SqL.ext {K:Frag}{a:Addr}(e:Ext H H')(h:SqL K H a xs):SqL K H' a xs:=by
 rcases h with (h|⟨o,h⟩)|h
 .exact .inl (.inl (e _ _ h nofun))
 .exact .inl (.inr #[o,e _ _ h nofun])
 .exact .inr h
def SqT.ext {K:Frag}{a:Addr}(e:Ext H H')(h:SqT K H a xs):SqT K H' a xs:=by
 rcases h with (h|⟨o,h⟩)|h
 .exact .inl (.inl (e _ _ h nofun))
 .exact .inl (.inr #[o,e _ _ h nofun])
 .exact .inr h
class Rep (α:Type) where
 dec:DecidableEq α
 depth:Nat
 has:Frag->Hp->α->V->Prop
 mono:∀{K:Frag} {H H':Hp} {a:α} {v:V},Ext H H'->has K H a v->has K H' a v
 inj:∀{X:Cx} {LI:List (Addr×Obj)} {U:St} {H:Hp} {s:Shared} {a b:α} {v:V},Inv X LI U H s->has X.K H a v->has X.K H b v->a=b
 rc:∀{X:Cx} {LI:List (Addr×Obj)} {U:St} {H:Hp} {s:Shared} {A:Around} {a b:α} {x y:V} {u v:Value},Inv X LI U H s->A.units+depth<cLine->has X.K H a x->has X.K H b y->RelV x u->RelV y v->RcAt A s u v (dec a b).decide
 rn:∀{X:Cx} {LI:List (Addr×Obj)} {U:St} {H:Hp} {s:Shared} {A:Around} {a b:α} {x y:V} {u v:Value},Inv X LI U H s->A.units+depth<cLine->has X.K H a x->has X.K H b y->RelV x u->RelV y v->RcNeAt A s u v (!(dec a b).decide)
 eq:∀{X:Cx} {LI:List (Addr×Obj)} {U:St} {H:Hp} {s:Shared} {A:Around} {a b:α} {x y:V} {u v:Value},Inv X LI U H s->A.units+depth<cLine->has X.K H a x->has X.K H b y->RelV x u->RelV y v->EqAt A s u v (dec a b).decide
instance (priority:=low) repDec {α:Type} [Rep α]:DecidableEq α:=Rep.dec
def tU {i j:Int}:(i==j)=(Int.instDecidableEq i j).decide:=by
 by_cases h:i=j
 .subst h;simp
 .rw[beq_eq_false_iff_ne.mpr h];exact (bD h).symm
instance:Rep Int where
 dec:=Int.instDecidableEq
 depth:=0
 has:=λ_ _ i v=>v=.int i
 mono:=λ_ h=>h
 inj:=λ_ h1 h2=>V.int.inj (h1.symm.trans h2)
 rc:=λ_ _ h1 h2 r1 r2=>by
  subst h1 h2;obtain ⟨t,rfl⟩:=r1;obtain ⟨t',rfl⟩:=r2;rw[<-tU];exact RcAt.int_int _ _ _ _
 rn:=λ_ _ h1 h2 r1 r2=>by
  subst h1 h2;obtain ⟨t,rfl⟩:=r1;obtain ⟨t',rfl⟩:=r2;rw[<-tU];exact RcNeAt.int_int _ _ _ _
 eq:=λ_ _ h1 h2 r1 r2=>by
  subst h1 h2;obtain ⟨t,rfl⟩:=r1;obtain ⟨t',rfl⟩:=r2;rw[<-tU];exact EqAt.int_int _ _ _ _
def pImp {α β:Type}{R S:α->β->Prop}(h:∀ a b,R a b->S a b){as:List α}{bs:List β}(p:Paired R as bs):Paired S as bs:=by
 induction p with
 | nil=>exact .nil
 | cons a _ ih=>exact .cons (h _ _ a) ih
def pApp {α β:Type}{R:α->β->Prop}{as cs:List α}{bs ds:List β}(p:Paired R as bs)(q:Paired R cs ds):Paired R (as++cs) (bs++ds):=by
 induction p with
 | nil=>exact q
 | cons a _ ih=>exact .cons a ih
def aB {α:Type}[Rep α](K:Frag)(H:Hp):List α->List V->Prop:=Paired (Rep.has K H)
section
variable {α:Type}[Rep α]{K:Frag}{H H':Hp}
def aB.mono (e:Ext H H'){as:List α}{xs:List V}(h:aB K H as xs):aB K H' as xs:=pImp (λ_ _=>Rep.mono e) h
def aB.length {as:List α}{xs:List V}(h:aB K H as xs):as.length=xs.length:=Paired.length h
def aB.get:∀{as:List α} {xs:List V} {i:Nat} {x:V},aB K H as xs->xs[i]?=some x->∃ a,as[i]?=some a/\Rep.has K H a x
 | _,_,_,_,.nil,e=>by simp at e
 | _,_,0,_,.cons h _,e=>by simp at e;subst e;exact #[_,rfl,h]
 | _,_,i+1,x,.cons _ t,e=>by
  obtain ⟨a,h1,h2⟩:=aB.get (i:=i) (x:=x) t (by simpa using e);exact #[a,by simpa using h1,h2]
def aB.append {as bs:List α}{xs ys:List V}(h:aB K H as xs)(g:aB K H bs ys):aB K H (as++bs) (xs++ys):=pApp h g
def aB.one {a:α}{x:V}(h:Rep.has K H a x):aB K H [a] [x]:=.cons h .nil
def aB.ints:∀{ns:List Int},aB K H ns (ns.map V.int)
 | []=>.nil
 | _::_=>.cons rfl aB.ints
def aB.toInts {ns:List Int}{xs:List V}(h:aB K H ns xs):xs=ns.map V.int:=by
 unfold aB at h
 induction h with
 | nil=>rfl
 | cons h _ ih=>
  have e:_=V.int _:=h;rw[e,ih];rfl
def aB.inj (I:Inv X LI U H s){as bs:List α}{xs:List V}(h:aB X.K H as xs)(g:aB X.K H bs xs):as=bs:=by
 unfold aB at h g
 induction h generalizing bs with
 | nil=>cases g;rfl
 | cons h _ ih=>
  cases g with
  | cons h' t'=>rw[Rep.inj I h h',ih t']
end
def tV {α:Type}[DecidableEq α]:∀(as bs:List α),as.length=bs.length->((List.range as.length).all λj=>decide (as[j]?=bs[j]?))=decide (as=bs):=by
 intro as bs hl;by_cases h:as=bs
 .subst h;simp
 .rw[bD h,List.all_eq_false]
  false_or_by_contra
  rename_i z;apply h;apply f7;intro i;by_cases hi:i<as.length
  .false_or_by_contra
   rename_i q;exact z #[i,dw.mpr hi,by simpa using q]
  .rw[d9 (by lia),d9 (by lia)]
section
variable {α:Type}[r:Rep α]
def jQ {A:Around}:A.in1.units<=A.units+1:=by
 first
  | exact ai _
  | (unfold Around.in1;simp)
def nY {A:Around}{as bs:List α}{xs ys:List V}{us vs:List Value}(I:Inv X LI U H s)(hu:A.units+Rep.depth α<cLine)
  (h1:aB X.K H as xs) (h2:aB X.K H bs ys) (r1:Vals xs us) (r2:Vals ys vs):∀ j (q1:j<us.toArray.size) (q2:j<vs.toArray.size),EqAt A s us.toArray[j] vs.toArray[j] (decide (as[j]?=bs[j]?)):=by
 intro j q1 q2;have l1:=r1.length;have l2:=r2.length;have m1:=h1.length;have m2:=h2.length;have j1:j<us.length:=by simpa using q1
 have j2:j<vs.length:=by simpa using q2
 obtain ⟨a,ea,ha⟩:=h1.get (i:=j) (aw (by lia));obtain ⟨b,eb,hb⟩:=h2.get (i:=j) (aw (by lia));obtain ⟨u,eu,ru⟩:=r1.get (i:=j) (aw (by lia));obtain ⟨v,ev,rv⟩:=r2.get (i:=j) (aw (by lia));have gu:us.toArray[j]=u:=by
  have:us[j]?=some us[j]:=aw j1;rw[eu]at this;simpa using (aK this).symm
 have gv:vs.toArray[j]=v:=by
  have:vs[j]?=some vs[j]:=aw j2;rw[ev]at this;simpa using (aK this).symm
 rw[gu,gv,ea,eb];have e:decide (some a=some b)=(Rep.dec a b).decide:=by
  by_cases z:a=b
  .subst z;simp
  .rw[bD (λq=>z (aK q))];exact (bD z).symm
 rw[e];exact Rep.eq I hu ha hb ru rv
end
inductive hasL {α:Type}[Rep α](K:Frag)(H:Hp)(as:List α)(v:V):Prop
 | c:∀ a xs,v=.ref a->SqL K H a xs->aB K H as xs->hasL K H as v
section
variable {α:Type}[r:Rep α]{X:Cx}{LI:List (Addr×Obj)}{U:St}{H:Hp}{s:Shared}{A:Around}{as bs:List α}{x y:V}{u v:Value}
def E5 (I:Inv X LI U H s)(h1:hasL X.K H as x)(h2:hasL X.K H bs x):as=bs:=by
 obtain ⟨a,xs,rfl,q1,h1⟩:=h1;obtain ⟨b,ys,e,q2,h2⟩:=h2;cases e
 rw[I.list_inj q2 q1]at h2;exact h1.inj I h2
def zv (I:Inv X LI U H s)(hu:A.units+(Rep.depth α+1)<cLine)(h1:hasL X.K H as x)(h2:hasL X.K H bs y)(r1:RelV x u)(r2:RelV y v):RcAt A s u v (decide (as=bs)):=by
 obtain ⟨a,xs,rfl,q1,h1⟩:=h1;obtain ⟨b,ys,rfl,q2,h2⟩:=h2;cases r1
 cases r2
 obtain ⟨us,ru,pu,_⟩:=I.list q1;obtain ⟨vs,rv,pv,_⟩:=I.list q2;have l1:=ru.length;have l2:=rv.length;have m1:=h1.length;have m2:=h2.length;have hin:A.in1.units+Rep.depth α<cLine:=cC (fN jQ _) (by lia);by_cases hl:as.length=bs.length
 .have e:=tV as bs hl;rw[<-e];have z:as.length=us.toArray.size:=by simp;lia
  rw[z];exact RcAt.lists pu.isList pv.isList (by simp;lia) (by lia) (nY I hin h1 h2 ru rv)
 .rw[bD (λz=>hl (by rw[z]))];exact RcAt.lists_lengths pu.isList pv.isList (by simp;lia) (by lia)
def E6 (I:Inv X LI U H s)(hu:A.units+(Rep.depth α+1)<cLine)(h1:hasL X.K H as x)(h2:hasL X.K H bs y)(r1:RelV x u)(r2:RelV y v):RcNeAt A s u v (!decide (as=bs)):=by
 obtain ⟨a,xs,rfl,q1,h1⟩:=h1;obtain ⟨b,ys,rfl,q2,h2⟩:=h2;cases r1
 cases r2
 obtain ⟨us,ru,pu,_⟩:=I.list q1;obtain ⟨vs,rv,pv,_⟩:=I.list q2;have l1:=ru.length;have l2:=rv.length;have m1:=h1.length;have m2:=h2.length;have hin:A.in1.units+Rep.depth α<cLine:=cC (fN jQ _) (by lia);by_cases hl:as.length=bs.length
 .have e:=tV as bs hl;rw[<-e];have z:as.length=us.toArray.size:=by simp;lia
  rw[z];exact RcNeAt.lists pu.isList pv.isList (by simp;lia) (by lia) (nY I hin h1 h2 ru rv)
 .rw[bD (λz=>hl (by rw[z])),Bool.not_false];exact RcNeAt.lists_lengths pu.isList pv.isList (by simp;lia) (by lia)
def E7 (I:Inv X LI U H s)(hu:A.units+(Rep.depth α+1)<cLine)(h1:hasL X.K H as x)(h2:hasL X.K H bs y)(r1:RelV x u)(r2:RelV y v):EqAt A s u v (decide (as=bs)):=by
 have rc:=zv (A:=A) I hu h1 h2 r1 r2;obtain ⟨a,xs,rfl,q1,h1⟩:=h1;obtain ⟨b,ys,rfl,q2,h2⟩:=h2;cases r1
 cases r2
 by_cases hab:a=b
 .subst hab;rw[I.list_inj q2 q1]at h2;rw[bg (h1.inj I h2)];exact EqAt.same _
 .exact EqAt.of_refs hab rc
end
instance {α:Type} [Rep α]:Rep (List α) where
 dec:=inferInstance
 depth:=Rep.depth α+1
 has:=hasL
 mono:=λe ⟨a,xs,h1,h2,h3⟩=>#[a,xs,h1,h2.ext e,h3.mono e]
 inj:=λI h1 h2=>E5 I h1 h2
 rc:=λI hu h1 h2 r1 r2=>zv I hu h1 h2 r1 r2
 rn:=λI hu h1 h2 r1 r2=>E6 I hu h1 h2 r1 r2
 eq:=λI hu h1 h2 r1 r2=>E7 I hu h1 h2 r1 r2
inductive hasP {α β:Type}[Rep α][Rep β](K:Frag)(H:Hp)(p:α×β)(v:V):Prop
 | c:∀ a x y,v=.ref a->H a=some (.tup [x,y])->Rep.has K H p.1 x->Rep.has K H p.2 y->hasP K H p v
section
variable {α β:Type}[ra:Rep α][rb:Rep β]{X:Cx}{LI:List (Addr×Obj)}{U:St}{H:Hp}{s:Shared}{A:Around}{p q:α×β}{x y:V}{u v:Value}
def zw (I:Inv X LI U H s)(h1:hasP X.K H p x)(h2:hasP X.K H q x):p=q:=by
 obtain ⟨a,x1,x2,rfl,q1,e1,e2⟩:=h1;obtain ⟨b,y1,y2,e,q2,f1,f2⟩:=h2;cases e
 have z:=I.tuple_inj (SqT.of q2) (SqT.of q1);cases z
 have g1:=Rep.inj I e1 f1;have g2:=Rep.inj I e2 f2;obtain ⟨p1,p2⟩:=p;obtain ⟨s1,s2⟩:=q;cases g1
 cases g2
 rfl
def zx (I:Inv X LI U H s)(hu:A.units+(Rep.depth α+Rep.depth β+1)<cLine)(h1:hasP X.K H p x)(h2:hasP X.K H q y)(r1:RelV x u)(r2:RelV y v):RcAt A s u v (decide (p=q)):=by
 obtain ⟨a,x1,x2,rfl,q1,e1,e2⟩:=h1;obtain ⟨b,y1,y2,rfl,q2,f1,f2⟩:=h2;cases r1
 cases r2
 obtain ⟨us,ru,pu,_⟩:=I.tuple (SqT.of q1);obtain ⟨vs,rv,pv,_⟩:=I.tuple (SqT.of q2);obtain ⟨u1,u2,rfl,ru1,ru2⟩:=gM ru;obtain ⟨v1,v2,rfl,rv1,rv2⟩:=gM rv;have hin:∀ n,n<=Rep.depth α+Rep.depth β->A.in1.units+n < cLine:=λn hn=>cC (fN jQ _) (by lia);have c1:=Rep.eq (A:=A.in1) I (hin _ (by lia)) e1 f1 ru1 rv1;have c2:=Rep.eq (A:=A.in1) I (hin _ (by lia)) e2 f2 ru2 rv2;have:=RcAt.tuples (A:=A) (s:=s) (l:=a) (b:=b) (items:=(List.toArray [u1,u2])) (items2:=(List.toArray [v1,v2])) (e:=λj=>if j=0 then (Rep.dec p.1 q.1).decide else (Rep.dec p.2 q.2).decide) pu pv (by lia) (by
  intro j h1 h2;have h1':j<2:=h1;have z:j=0\/j=1:=by lia
  rcases z with rfl|rfl
  .exact c1
  .exact c2)
 have e:((List.range (min ((List.toArray [u1,u2]):Array Value).size ((List.toArray [v1,v2]):Array Value).size)).all (λj=>if j=0 then (Rep.dec p.1 q.1).decide else (Rep.dec p.2 q.2).decide)&&((List.toArray [u1,u2]):Array Value).size==((List.toArray [v1,v2]):Array Value).size)=decide (p=q):=by
  obtain ⟨p1,p2⟩:=p;obtain ⟨s1,s2⟩:=q;show (((List.range 2).all λj=>if j=0 then (Rep.dec p1 s1).decide else (Rep.dec p2 s2).decide)&&true)=_
  rw[show List.range 2=[0,1] from rfl];simp only[mU,List.all_nil,Bool.and_true,if_true];rw[ag (by decide)];by_cases z1:p1=s1
  .by_cases z2:p2=s2
   .subst z1 z2;simp
   .subst z1;simp[z2]
  .simp[z1]
 rw[e]at this;exact this
def E8 (I:Inv X LI U H s)(hu:A.units+(Rep.depth α+Rep.depth β+1)<cLine)(h1:hasP X.K H p x)(h2:hasP X.K H q y)(r1:RelV x u)(r2:RelV y v):RcNeAt A s u v (!decide (p=q)):=by
 obtain ⟨a,x1,x2,rfl,q1,e1,e2⟩:=h1;obtain ⟨b,y1,y2,rfl,q2,f1,f2⟩:=h2;cases r1
 cases r2
 obtain ⟨us,ru,pu,_⟩:=I.tuple (SqT.of q1);obtain ⟨vs,rv,pv,_⟩:=I.tuple (SqT.of q2);obtain ⟨u1,u2,rfl,ru1,ru2⟩:=gM ru;obtain ⟨v1,v2,rfl,rv1,rv2⟩:=gM rv;have hin:∀ n,n<=Rep.depth α+Rep.depth β->A.in1.units+n < cLine:=λn hn=>cC (fN jQ _) (by lia);have c1:=Rep.eq (A:=A.in1) I (hin _ (by lia)) e1 f1 ru1 rv1;have c2:=Rep.eq (A:=A.in1) I (hin _ (by lia)) e2 f2 ru2 rv2;have:=RcNeAt.tuples (A:=A) (s:=s) (l:=a) (b:=b) (items:=(List.toArray [u1,u2])) (items2:=(List.toArray [v1,v2])) (e:=λj=>if j=0 then (Rep.dec p.1 q.1).decide else (Rep.dec p.2 q.2).decide) pu pv (by lia) (by
  intro j h1 h2;have h1':j<2:=h1;have z:j=0\/j=1:=by lia
  rcases z with rfl|rfl
  .exact c1
  .exact c2)
 have e:((List.range (min ((List.toArray [u1,u2]):Array Value).size ((List.toArray [v1,v2]):Array Value).size)).all (λj=>if j=0 then (Rep.dec p.1 q.1).decide else (Rep.dec p.2 q.2).decide)&&((List.toArray [u1,u2]):Array Value).size==((List.toArray [v1,v2]):Array Value).size)=decide (p=q):=by
  obtain ⟨p1,p2⟩:=p;obtain ⟨s1,s2⟩:=q;show (((List.range 2).all λj=>if j=0 then (Rep.dec p1 s1).decide else (Rep.dec p2 s2).decide)&&true)=_
  rw[show List.range 2=[0,1] from rfl];simp only[mU,List.all_nil,Bool.and_true,if_true];rw[ag (by decide)];by_cases z1:p1=s1
  .by_cases z2:p2=s2
   .subst z1 z2;simp
   .subst z1;simp[z2]
  .simp[z1]
 rw[e]at this;exact this
def E9 (I:Inv X LI U H s)(hu:A.units+(Rep.depth α+Rep.depth β+1)<cLine)(h1:hasP X.K H p x)(h2:hasP X.K H q y)(r1:RelV x u)(r2:RelV y v):EqAt A s u v (decide (p=q)):=by
 have rc:=zx (A:=A) I hu h1 h2 r1 r2;have h1':=id h1;have h2':=id h2;obtain ⟨a,x1,x2,rfl,q1,e1,e2⟩:=h1;obtain ⟨b,y1,y2,rfl,q2,f1,f2⟩:=h2;cases r1
 cases r2
 by_cases hab:a=b
 .subst hab;rw[bg (zw I h1' h2')];exact EqAt.same _
 .exact EqAt.of_refs hab rc
end
instance {α β:Type} [Rep α] [Rep β]:Rep (α×β) where
 dec:=inferInstance
 depth:=Rep.depth α+Rep.depth β+1
 has:=hasP
 mono:=λe ⟨a,x,y,h1,h2,h3,h4⟩=>#[a,x,y,h1,e _ _ h2 nofun,Rep.mono e h3,Rep.mono e h4]
 inj:=λI h1 h2=>zw I h1 h2
 rc:=λI hu h1 h2 r1 r2=>zx I hu h1 h2 r1 r2
 rn:=λI hu h1 h2 r1 r2=>E8 I hu h1 h2 r1 r2
 eq:=λI hu h1 h2 r1 r2=>E9 I hu h1 h2 r1 r2
def huD {k:Nat}{α:Type}[Rep α](hr:Room k A)(h:Rep.depth α<=64:=by decide):A.units+Rep.depth α<cLine:=cC (cp h _) hr.units
inductive rNeD (α:Type)[Rep α](K:Frag)(x:V)(y:V)(H:Hp)(Q:VK):Prop
 | c:∀(a b:α),Rep.has K H a x->Rep.has K H b y->Q (.bl (!decide (a=b))) H->rNeD α K x y H Q
section
variable {X:Cx}
def lR (α:Type)[Rep α](hu:X.A.units+Rep.depth α<cLine):OpR X (compareOp .NotEq) (rNeD α X.K):=by
 intro LI s U H x y v u Q I rx ry h;obtain ⟨a,b,ha,hb,q⟩:=h;refine Rep.rn I hu ha hb rx ry X.prog X.w X.xe _ #[.bl _,H,I,rfl,?_];have e:(Rep.dec a b).decide=decide (a=b):=rfl;rw[e];exact q
end
end L2
namespace L2
open PySem PySem.Spec PyProof.Rows
section
variable {X:Cx}{LI:List (Addr×Obj)}{U:St}{H:Hp}{s:Shared}{h':Heap}
def Inv.turnedNew {t':Nat}{fp:List Addr}{p:Addr}(I:Inv X LI U H s)(k:∀ b ob,b∉fp->s.heap.get? b=some ob->h'.get? b=some ob)(hf:∀ b∈fp,FpOk X LI H b)
  (hp:s.heap.objs.size<=p) (new:bB X.prog X.w (upd H p o) h' p o):Inv X LI U (upd H p o) { s with heap:=h',toks:=t' }:=by
 have hn:H p=none:=I.hok.fresh hp;have nfp:∀ b u,H b=some u->b∉fp:=λb u e z=>by rw[(hf b z).1]at e;cases e
 have nep:∀ b ob,s.heap.get? b=some ob->b≠p:=λb ob e=>bh (aO (aJ e) hp);refine I.step (g':=s.gens) (d':=s.drawn) (ch:=fp) (λb hb=>?_) (λb ob _ _ hc e _=>k b ob hc e) (λb ob _ _ hc e _=>#[ob.slots,k b ob hc e]) (λb ob _ e n=>by rw[ak (nep b ob e)];exact n)
  (λb ob hc e=>#[ob,k b ob hc e]) (λb xs e=>by rw[ak (au e hn)];exact e) (λb ob u e=>by rw[ak (au e hn)];exact e) (λb ps e=>#[(List.toArray []),by rw[ak (au e hn),e];simp]) (λm hm=>?_) (λb u e=>?_) I.bare
 .obtain ⟨_,h2,_,h4,h5,h6⟩:=hf b hb;exact #[h4,h2,h5,h6]
 .obtain ⟨ob,es,ep,ho,r⟩:=hm;exact #[ob,es,ep,k _ ob (λz=>(hf _ z).2.1 rfl) ho,r]
 .by_cases hb:b=p
  .subst hb;rw[aj]at e;cases e;exact new
  .rw[ak hb]at e;refine (I.hok b u e).stay (λc v hc q=>k c v ?_ q) (λc q=>by rw[ak (au q hn)];exact q) λc xs q=>by rw[ak (au q hn)];exact q
   rcases hc with z|z
   .rw[z];exact nfp b u e
   .exact nfp c _ z
def zA {h:Heap}{p:Addr}{x y:V}{u v:Value}(rx:RelV x u)(ry:RelV y v)(e:h.get? p=some { cls:=.type "tuple",data:=.seq (List.toArray [u,v]) }):bB P w H h p (.tup [x,y]):=
 #[by show 2<=sizeLine;decide,[u,v],.cons rx (.cons ry .nil),_,e,rfl,0,rfl]
end
def Ite (K:Frag)(a:Addr):It:=
 #[λi H=>∃ xs x,SqL K H a xs/\xs[i]?=some x,λi H x H'=>∃ p y,x=.ref p/\H p=none/\(∀ xs,SqL K H a xs->xs[i]?=some y)/\H'=upd H p (.tup [.int i,y]),λi H=>∃ xs,SqL K H a xs/\xs.length<=i]
def Fb {K:Frag}{es:List Expr}{k0}{pos:Pos}(a it e:Addr)(hne:e≠it):Turn P w K (.Tuple es k0 pos) (Ite K a) [e,it] e (λi h=>(∃ old,IsEnum h e it i old)/\h.IsListIter it a i) where
 mem:=by simp
 obj:=λi h st b hb=>by
  obtain ⟨⟨old,he⟩,o,ho,c,d⟩:=st;rcases aX.mp hb with z|z
  .subst z;exact #[_,he,λv z=>by cases z]
  .have z:=aM.mp z;subst z;exact #[o,ho,λv z=>by rw[d]at z;cases z]
 keep:=λi h h' st k=>by
  obtain ⟨⟨old,he⟩,hi⟩:=st;exact #[#[old,k e (by simp) _ he],hi.at λo q=>k it (by simp) o q]
 item:=by
  intro X hP hw hK hc i LI s U H E I hf st hg;subst hP hw hK;obtain ⟨⟨old,he⟩,hi⟩:=st;obtain ⟨xs,x,hq,hx⟩:=hg;obtain ⟨its,rv,p,hz⟩:=I.list hq;obtain ⟨u,hu,ru⟩:=rv.get hx;refine wpAny_pyNext_enum_item he hi p.isList (x:=u) (by simpa using hu) hne λh1 he1 hi1 ht1 _ k1=>?_;refine #[_,rfl,wpAny_letOwnedTupleGo_enum (s:={ s with heap:=h1,toks:=s.toks+1 }) he1 λh2 he2 sb=>?_];have np:s.heap.objs.size≠e:=iE (aJ he);have ht2:h2.get? s.heap.objs.size=some { cls:=.type "tuple",data:=.seq (List.toArray [.int i s.toks,u]) }:=(sb.2 _ np).trans ht1;have I2:Inv X LI U (upd H s.heap.objs.size (.tup [.int i,x])) { s with heap:=h2,toks:=s.toks+1 }:=
   I.turnedNew (fp:=[e,it]) (λb ob hb q=>(sb.2 b (λz=>hb (by simp[z]))).trans (k1 b ob (λz=>hb (by simp[z])) (λz=>hb (by simp[z])) q)) hf (ai _) (zA #[_,rfl] ru ht2)
  refine #[.ref s.heap.objs.size,_,I2,rfl,#[_,x,rfl,I.hok.fresh (ai _),λys hy=>by rw[I.list_inj hy hq];exact hx,rfl],#[#[u,?_],?_],λb hb=>?_]
  .have z:IsEnum h2 e it ((i:Int)+1) u:=he2;exact z
  .exact hi1.at λo q=>(sb.2 it (aT hne)).trans q
  .have z:=(hf b hb).1;rw[ak ?_]
   .exact z
   .rcases aX.mp hb with q|q
    .rw[q];exact aT np
    .rw[aM.mp q];obtain ⟨o,ho,_⟩:=hi;exact bh (aJ ho)
 done:=by
  intro X hP hw hK hc i LI s U H E I hf st hg;subst hP hw hK;obtain ⟨⟨old,he⟩,hi⟩:=st;obtain ⟨xs,hq,hx⟩:=hg;obtain ⟨its,rv,p,hz⟩:=I.list hq;obtain ⟨f0,f1,f2,f3,f4,f5⟩:=hf it (by simp);have hl:=rv.length;exact wpAny_pyNext_enum_end (I.ok.hd hc) he hi p.isList (by simp;lia) λh' eb=>#[rfl,I.turned (t':=s.toks) (λb o hb q=>eb b o hb q) f0 f1 f3 f4 f5]
 self:=λ_ _ _ _ _ st h=>by
  obtain ⟨⟨old,he⟩,_⟩:=st;exact wpAny_pyIter_enum he h
inductive zB (K:Frag)(R:It->Hp->Prop)(vs:List V)(H1:Hp):Prop
 | c:∀ a,vs=[.ref a]->(∃ xs,SqL K H1 a xs)->R (Ite K a) H1->zB K R vs H1
def Fc (K:Frag)(ta:TA):TI:=λU H R=>ta U H λvs H1=>zB K R vs H1
section
variable {X:Cx}
def tW {es:List Expr}{k0}{tp:Pos}{a:Expr}{p pos:Pos}(hg:Gl X "enumerate")(hm:X.mg "enumerate" = none)(ha:PA X [a] ta)(hs:starEach [a] X.env=[(false,eval a X.env)]:=by rfl):PI X (.Tuple es k0 tp) (.Call (.Name "enumerate" p) [a] [] pos) (Fc X.K ta):=by
 intro LI s U H R I h;refine Call_ (gI I hg hm boot_enumerate (PyProof.Rows.callWith_type1 (thn (ha pos LI s U H _ I h) λus s1 zq0=>?_) hs rfl));obtain ⟨vs,H1,I1,r1,q1⟩:=zq0;obtain ⟨l,e,⟨xs,hq⟩,q⟩:=q1;subst e;cases r1 with
 | cons r rr=>
  cases rr
  cases r
  obtain ⟨its,rv,pl,hz⟩:=I1.list hq;refine call_enumerate_list pl.isList λh' he hi _ hk=>?_;have I2:Inv X LI U H1 { s1 with heap:=h' }:=I1.kept (t':=s1.toks) hk;refine wpAny_pyIter_enum (s:={ s1 with heap:=h' }) he #[_,[s1.heap.objs.size+1,s1.heap.objs.size],_,_,H1,rfl,I2,Fb l s1.heap.objs.size (s1.heap.objs.size+1) (Nat.succ_ne_self _),#[#[_,he],hi],λb hb=>?_,q];have hb':s1.heap.objs.size<=b:=by
   rcases aX.mp hb with z|z
   .rw[z];exact dj _
   .rw[aM.mp z];exact ai _
  exact I1.fpOk hb' (I1.hok.fresh hb')
end
def tX {K:Frag}{a:Addr}{g:TG}{tb:TS}{D:Ends}{U:St}{H:Hp}(Pv:Nat->St->Hp->Prop)(h0:Pv 0 U H)(hl:∀ i U H,i<=xs.length->Pv i U H->SqL K H a xs)
  (hs:∀ i x U H p,xs[i]?=some x->Pv i U H->H p=none->g (.ref p) U (upd H p (.tup [.int i,x])) λU2 H2=>tb { D with nx:=Pv (i+1),ct:=Pv (i+1),bk:=D.nx } U2 H2) (hd:∀ U H,Pv xs.length U H->D.nx U H) :
  ∃ W:Nat->Nat->St->Hp->Prop,(∃ m,W 0 m U H)/\∀ i m U H,W i m U H->((Ite K a).stop i H/\D.nx U H)\/((Ite K a).go i H/\∃ N:St->Hp->Prop,(∀ U' H',N U' H'->∃ m',m'<m/\W (i+1) m' U' H')/\∀ x H',(Ite K a).yld i H x H'->g x U H' λU2 H2=>tb { D with nx:=N,ct:=N,bk:=D.nx } U2 H2):=by
 refine #[λi m U H=>i+m=xs.length/\Pv i U H,#[xs.length,by lia,h0],λi m U H zq0=>?_];obtain ⟨e,pv⟩:=zq0;have hS:=hl i U H (by lia) pv;by_cases hi:i<xs.length
 .refine .inr #[#[xs,xs[i],hS,aw hi],Pv (i+1),λU' H' q=>#[m-1,by lia,by lia,q],λx H' y=>?_];obtain ⟨p,z,rfl,hp,hz,rfl⟩:=y;exact hs i z U H p (hz xs hS) pv hp
 .have:i=xs.length:=by lia
  subst this;exact .inl #[#[xs,hS,ai _],hd U H pv]
def Itz (K:Frag)(a b:Addr):It:=
 #[λi H=>∃ xs ys x y,SqL K H a xs/\SqL K H b ys/\xs[i]?=some x/\ys[i]?=some y,λi H x H'=>∃ p y z,x=.ref p/\H p=none/\(∀ xs,SqL K H a xs->xs[i]?=some y)/\(∀ xs,SqL K H b xs->xs[i]?=some z)/\H'=upd H p (.tup [y,z]),λi H=>∃ xs ys,SqL K H a xs/\SqL K H b ys/\(xs.length<=i\/ys.length<=i)]
def Fd {K:Frag}{es:List Expr}{k0}{pos:Pos}{a b z TI TO i1 i2:Addr}(D:ZipApart z TI TO i1 i2 a b):Turn P w K (.Tuple es k0 pos) (Itz K a b) [z,TI,TO,i1,i2] z
  (λi h=>IsZip h z TI TO .none/\IsPair h TI (.ref i1) (.ref i2)/\(∃ u v,IsPair h TO u v)/\h.IsListIter i1 a i/\h.IsListIter i2 b i) where
 mem:=by simp
 obj:=λi h st c hc=>by
  obtain ⟨hz,hTI,⟨u,v,hTO⟩,⟨o1,e1,_,d1⟩,⟨o2,e2,_,d2⟩⟩:=st;simp only[aX,ee,or_false]at hc;rcases hc with rfl|rfl|rfl|rfl|rfl
  .exact #[_,hz,λv q=>by cases q]
  .exact #[_,hTI,λv q=>by cases q]
  .exact #[_,hTO,λv q=>by cases q]
  .exact #[o1,e1,λv q=>by rw[d1]at q;cases q]
  .exact #[o2,e2,λv q=>by rw[d2]at q;cases q]
 keep:=λi h h' st k=>by
  obtain ⟨hz,hTI,⟨u,v,hTO⟩,h1,h2⟩:=st;exact #[k z (by simp) _ hz,k TI (by simp) _ hTI,#[u,v,k TO (by simp) _ hTO],h1.at λo q=>k i1 (by simp) o q,h2.at λo q=>k i2 (by simp) o q]
 item:=by
  intro X hP hw hK hc i LI s U H E I hf st hg;subst hP hw hK;obtain ⟨hz,hTI,⟨u0,v0,hTO⟩,h1,h2⟩:=st;obtain ⟨xs,ys,x,y,hqa,hqb,hx,hy⟩:=hg;obtain ⟨its,rv,p,_⟩:=I.list hqa;obtain ⟨jts,rw',p',_⟩:=I.list hqb;obtain ⟨u,hu,ru⟩:=rv.get hx;obtain ⟨v,hv,rv'⟩:=rw'.get hy;refine wpAny_pyNext_zip_item D hz hTI hTO h1 h2 p.isList p'.isList (x:=u) (y:=v) (by simpa using hu) (by simpa using hv) λh1' hz1 hTO1 hi1 hi2 ht1 _ k1=>?_;refine #[_,rfl,wpAny_letOwnedTupleGo_zip (s:={ s with heap:=h1' }) hz1 λh2' hz2 sb=>?_];have np:s.heap.objs.size≠z:=iE (aJ hz);have ht2:h2'.get? s.heap.objs.size=some { cls:=.type "tuple",data:=.seq (List.toArray [u,v]) }:=(sb.2 _ np).trans ht1;have I2:Inv X LI U (upd H s.heap.objs.size (.tup [x,y])) { s with heap:=h2',toks:=s.toks }:=
   I.turnedNew (fp:=[z,TI,TO,i1,i2]) (λc ob hb q=>(sb.2 c (λr=>hb (by simp[r]))).trans (k1 c ob (λr=>hb (by simp[r])) (λr=>hb (by simp[r])) (λr=>hb (by simp[r])) (λr=>hb (by simp[r])) q)) hf (ai _) (zA ru rv' ht2)
  refine #[.ref s.heap.objs.size,_,I2,rfl,#[_,x,y,rfl,I.hok.fresh (ai _),λys hy'=>by rw[I.list_inj hy' hqa];exact hx,λys hy'=>by rw[I.list_inj hy' hqb];exact hy,rfl],#[hz2,(sb.2 _ D.TIz).trans (k1 TI _ D.TIz D.TITO D.TIi1 D.TIi2 hTI),#[_,_,(sb.2 _ D.TOz).trans hTO1],hi1.at λo q=>(sb.2 i1 D.i1z).trans q,hi2.at λo q=>(sb.2 i2 D.i2z).trans q],λc hb=>?_];have zf:=(hf c hb).1;have lt:c<s.heap.objs.size:=by
   simp only[aX,ee,or_false]at hb;obtain ⟨o1,e1,_⟩:=h1;obtain ⟨o2,e2,_⟩:=h2;rcases hb with rfl|rfl|rfl|rfl|rfl
   .exact aJ hz
   .exact aJ hTI
   .exact aJ hTO
   .exact aJ e1
   .exact aJ e2
  rw[ak (bh lt)];exact zf
 done:=by
  intro X hP hw hK hc i LI s U H E I hf st hg;subst hP hw hK;obtain ⟨hz,hTI,⟨u0,v0,hTO⟩,h1,h2⟩:=st;obtain ⟨xs,ys,hqa,hqb,hend⟩:=hg;obtain ⟨its,rv,p,_⟩:=I.list hqa;obtain ⟨jts,rw',p',_⟩:=I.list hqb;have l1:=rv.length;have l2:=rw'.length;refine wpAny_pyNext_zip_end (I.ok.hd hc) D hz hTI hTO h1 h2 p.isList p'.isList (by
   rcases hend with q|q
   .left;simp;lia
   .right;simp;lia) λh' kk=>#[rfl,?_]
  refine I.step (g':=s.gens) (d':=s.drawn) (t':=s.toks) (ch:=[z,TI,TO,i1,i2]) (λc hb=>?_) (λc ob _ _ hn q _=>kk c ob (λr=>hn (by simp[r])) (λr=>hn (by simp[r])) (λr=>hn (by simp[r])) (λr=>hn (by simp[r])) q)
   (λc ob _ _ hn q _=>#[ob.slots,kk c ob (λr=>hn (by simp[r])) (λr=>hn (by simp[r])) (λr=>hn (by simp[r])) (λr=>hn (by simp[r])) q]) (λ_ _ _ _ n=>n)
   (λc ob hn q=>#[ob,kk c ob (λr=>hn (by simp[r])) (λr=>hn (by simp[r])) (λr=>hn (by simp[r])) (λr=>hn (by simp[r])) q]) (λ_ _ q=>q) (λ_ _ _ q=>q) (λc ps q=>#[(List.toArray []),by rw[q];simp]) (λm hm=>?_) (λc u e=>?_) I.bare
  .obtain ⟨_,q2,_,q4,q5,q6⟩:=hf c hb;exact #[q4,q2,q5,q6]
  .obtain ⟨ob,es,ep,ho,r⟩:=hm;have nL:∀ c∈[z,TI,TO,i1,i2],X.env.locals≠c:=λc hc=>aT (hf c hc).2.1;exact #[ob,es,ep,kk _ ob (nL z (by simp)) (nL TO (by simp)) (nL i1 (by simp)) (nL i2 (by simp)) ho,r]
  .have nf:∀ c' u,H c'=some u->∀ q∈[z,TI,TO,i1,i2],c'≠q:=λc' u e q hq r=>by rw[r,(hf q hq).1]at e;cases e
   refine (I.hok c u e).stay (λc' v hc' q=>?_) (λ_ q=>q) λ_ _ q=>q;have go:∀ u',H c'=some u'->h'.get? c'=some v:=λu' e'=>kk c' v (nf c' _ e' z (by simp)) (nf c' _ e' TO (by simp)) (nf c' _ e' i1 (by simp)) (nf c' _ e' i2 (by simp)) q;rcases hc' with r|r
   .exact go u (by rw[r];exact e)
   .exact go _ r
 self:=λ_ _ _ _ _ st h=>wpAny_pyIter_zip st.1 h
def Fe {l l' n:Nat}(hl:l<n)(hl':l'<n):ZipApart (n+4) (n+2) (n+3) n (n+1) l l':=by
 constructor<;>(intro z;have z':(_:Nat)=_:=z;lia)
def Ff {n c:Nat}(h:c∈[n+4,n+2,n+3,n,n+1]):n<=c:=by
 simp only[aX,ee,or_false]at h;lia
inductive zC (K:Frag)(R:It->Hp->Prop)(vs:List V)(H1:Hp):Prop
 | c:∀ a b,vs=[.ref a,.ref b]->(∃ xs,SqL K H1 a xs)->(∃ xs,SqL K H1 b xs)->R (Itz K a b) H1->zC K R vs H1
def iZip (K:Frag)(ta:TA):TI:=λU H R=>ta U H λvs H1=>zC K R vs H1
section
variable {X:Cx}
def nZ {es:List Expr}{k0}{tp:Pos}{a b:Expr}{p pos:Pos}(hg:Gl X "zip")(hm:X.mg "zip" = none)(ha:PA X [a,b] ta)(hs:starEach [a,b] X.env=[(false,eval a X.env),(false,eval b X.env)]:=by rfl)(hs2:starEach [b] X.env=[(false,eval b X.env)]:=by rfl):PI X (.Tuple es k0 tp) (.Call (.Name "zip" p) [a,b] [] pos) (iZip X.K ta):=by
 intro LI s U H R I h;refine Call_ (gI I hg hm boot_zip (PyProof.Rows.callWith_type1 (thn (ha pos LI s U H _ I h) λus s1 zq0=>?_) (by rw[hs,hs2]) (by rw[hs2];rfl)));obtain ⟨vs,H1,I1,r1,q1⟩:=zq0;obtain ⟨l,l',e,⟨xs,hq⟩,⟨ys,hq'⟩,q⟩:=q1;subst e;cases r1 with
 | cons r rr=>
  cases rr with
  | cons r' rr=>
   cases rr
   cases r
   cases r'
   obtain ⟨its,rv,pl,hz⟩:=I1.list hq;obtain ⟨jts,rv',pl',hz'⟩:=I1.list hq';have hl:l<s1.heap.objs.size:=by obtain ⟨o,_,e,_⟩:=pl;exact aJ e
   have hl':l'<s1.heap.objs.size:=by obtain ⟨o,_,e,_⟩:=pl';exact aJ e
   refine call_zip_2 pl.isList pl'.isList λh' hz hTI hTO hi hi' _ hk=>?_;have I2:Inv X LI U H1 { s1 with heap:=h' }:=I1.kept (t':=s1.toks) hk;refine wpAny_pyIter_zip (s:={ s1 with heap:=h' }) hz #[_,[s1.heap.objs.size+4,s1.heap.objs.size+2,s1.heap.objs.size+3,s1.heap.objs.size,s1.heap.objs.size+1],_,_,H1,rfl,I2,Fd (Fe hl hl'),#[hz,hTI,#[_,_,hTO],hi,hi'],λc hb=>?_,q];have hb':s1.heap.objs.size<=c:=Ff hb;exact I1.fpOk hb' (I1.hok.fresh hb')
end
def zD {K:Frag}{a:Addr}{xs ys:List V}{g:TG}{tb:TS}{D:Ends}{U:St}{H:Hp}(hlen:xs.length=ys.length)(Pv:Nat->St->Hp->Prop)(h0:Pv 0 U H)(hl:∀ i U H,i<=xs.length->Pv i U H->SqL K H a xs/\SqL K H b ys)
  (hs:∀ i x y U H p,xs[i]?=some x->ys[i]?=some y->Pv i U H->H p=none->g (.ref p) U (upd H p (.tup [x,y])) λU2 H2=>tb { D with nx:=Pv (i+1),ct:=Pv (i+1),bk:=D.nx } U2 H2) (hd:∀ U H,Pv xs.length U H->D.nx U H) :
  ∃ W:Nat->Nat->St->Hp->Prop,(∃ m,W 0 m U H)/\∀ i m U H,W i m U H->((Itz K a b).stop i H/\D.nx U H)\/((Itz K a b).go i H/\∃ N:St->Hp->Prop,(∀ U' H',N U' H'->∃ m',m'<m/\W (i+1) m' U' H')/\∀ x H',(Itz K a b).yld i H x H'->g x U H' λU2 H2=>tb { D with nx:=N,ct:=N,bk:=D.nx } U2 H2):=by
 refine #[λi m U H=>i+m=xs.length/\Pv i U H,#[xs.length,by lia,h0],λi m U H zq0=>?_];obtain ⟨e,pv⟩:=zq0;obtain ⟨hS,hS'⟩:=hl i U H (by lia) pv;by_cases hi:i<xs.length
 .refine .inr #[#[xs,ys,xs[i],ys[i]'(by lia),hS,hS',aw hi,aw (by lia)],Pv (i+1),λU' H' q=>#[m-1,by lia,by lia,q],λx H' y=>?_];obtain ⟨p,z,z',rfl,hp,hz,hz',rfl⟩:=y;exact hs i z z' U H p (hz xs hS) (hz' ys hS') pv hp
 .have:i=xs.length:=by lia
  subst this;exact .inl #[#[xs,ys,hS,hS',.inl (ai _)],hd U H pv]
def dg (X:Cx)(N:List Str)(scope:Scope)(cl:List (Str×Addr))(C:Addr)(s₂:Shared)(H₂:Hp)(fp:List Addr):Cx:=
 { X with N:=N,s₀:=s₂,H₀:=H₂,env:=compEnvC scope cl C X.env,outer:=X.stack,stack:=X.stack,ex:=fp,fn:=λ_=>false,xe:=λ_ _=>False }
structure iX (scope:Scope)(env:Env)(cl:List (Str×Addr)):Prop where
 eq:closureFor scope env=pure cl
 sub:∀ x c,cl.lookup x=some c->env.cells.lookup x=some c
 has:∀ x,(x,NameKind.free)∈scope.names->∃ c,cl.lookup x=some c
def tY {env:Env}:∀(names:List (Str×NameKind)) (cs:List (Str×Addr)),(∀ x,(x,NameKind.free)∈names->∃ c,env.cells.lookup x=some c)->(∀ x c,cs.lookup x=some c->env.cells.lookup x=some c)->
  ∃ cl:List (Str×Addr),(forIn names cs (λ(x:Str×NameKind) (r:List (Str×Addr))=>if (x.2==NameKind.free)=true then (do let c <-cellOf env x.1;pure (ForInStep.yield ((x.1,c)::r))) else pure (ForInStep.yield r)):Sem (List (Str×Addr)))=pure cl/\
   (∀ x c,cl.lookup x=some c->env.cells.lookup x=some c)/\(∀ x c,cs.lookup x=some c->∃ c',cl.lookup x=some c')/\∀ x,(x,NameKind.free)∈names->∃ c,cl.lookup x=some c
 | [],cs,_,h2=>#[cs,by rw[List.forIn_nil],h2,λx c e=>#[c,e],λ_ z=>nomatch z]
 | (n,k)::r,cs,h1,h2=>by
  by_cases hk:k=.free
  .subst hk;obtain ⟨c,hc⟩:=h1 n bu;have hn:∀ x c',((n,c)::cs).lookup x=some c'->env.cells.lookup x=some c':=λx c' e=>by
    rw[cY]at e;cases hx:x==n with
    | true=>
     rw[hx]at e;cases e
     rw[eq_of_beq hx];exact hc
    | false=>
     rw[hx]at e;exact h2 x c' e
   obtain ⟨cl,e,s1,s2,s3⟩:=tY r ((n,c)::cs) (λx hx=>h1 x (bE _ hx)) hn;have here:∃ c',cl.lookup n=some c':=s2 n c (by rw[cY,beq_self_eq_true]);refine #[cl,?_,s1,λx c' q=>?_,λx hx=>?_]
   .rw[List.forIn_cons,af (by rfl)];have q:cellOf env n=pure c:=by unfold cellOf;rw[hc]
    rw[q];simp only[pure_bind];exact e
   .cases hxn:x==n with
    | true=>rw[eq_of_beq hxn];exact here
    | false=>exact s2 x c' (by rw[cY,hxn];exact q)
   .rcases aX.mp hx with z|z
    .cases z;exact here
    .exact s3 x z
  .obtain ⟨cl,e,s1,s2,s3⟩:=tY r cs (λx hx=>h1 x (bE _ hx)) h2;refine #[cl,?_,s1,s2,λx hx=>?_]
   .have hb:(k==NameKind.free)=false:=by simpa using hk
    rw[List.forIn_cons,ag (by rw[hb];exact bY)];simp only[pure_bind];exact e
   .rcases aX.mp hx with z|z
    .cases z;exact absurd rfl hk
    .exact s3 x z
def oa {scope:Scope}{env:Env}(h:∀ x,(x,NameKind.free)∈scope.names->∃ c,env.cells.lookup x=some c):∃ cl,iX scope env cl:=by
 obtain ⟨cl,e,s1,_,s3⟩:=tY scope.names [] h (λ_ _ z=>nomatch z);refine #[cl,?_,s1,s3];unfold closureFor;exact (by simpa using e)
def tZ {env:Env}:∀{names:List (Str×NameKind)} {x:Str},names.lookup x=some .free->
  (names.map λ(n,k)=>if (k==NameKind.free&&env.scope.kind == .function&&env.kindOf n==some .cell) then (n,NameKind.cell) else (n,k)).lookup x=some .cell\/
  (names.map λ(n,k)=>if (k==NameKind.free&&env.scope.kind == .function&&env.kindOf n==some .cell) then (n,NameKind.cell) else (n,k)).lookup x=some .free
 | [],_,h=>by simp at h
 | (n,k)::r,x,h=>by
  have ih:=@tZ env r x;show List.lookup x ((if (k==NameKind.free&&env.scope.kind == .function&&env.kindOf n==some .cell)=true then (n,NameKind.cell) else (n,k))::_)=_\/List.lookup x ((if (k==NameKind.free&&env.scope.kind == .function&&env.kindOf n==some .cell)=true then (n,NameKind.cell) else (n,k))::_)=_
  cases hx:x==n with
  | true=>
   simp only[cY,hx]at h;cases h
   by_cases hc:(NameKind.free==NameKind.free&&env.scope.kind == .function&&env.kindOf n==some .cell)=true
   .rw[af hc];left;simp only[cY,hx]
   .rw[ag hc];right;simp only[cY,hx]
  | false=>
   simp only[cY,hx]at h;by_cases hc:(k==NameKind.free&&env.scope.kind == .function&&env.kindOf n==some .cell)=true
   .rw[af hc];simp only[cY,hx];exact ih h
   .rw[ag hc];simp only[cY,hx];exact ih h
def t6 {env:Env}:∀{names:List (Str×NameKind)} {x:Str} {k':NameKind},(names.map λ(n,k)=>if (k==NameKind.free&&env.scope.kind == .function&&env.kindOf n==some .cell) then (n,NameKind.cell) else (n,k)).lookup x=some k'->k'=.cell\/k'=.free->
  (∀ y∈names,y.2≠.cell)->(x,NameKind.free)∈names
 | [],_,_,h,_,_=>by simp at h
 | (n,k)::r,x,k',h,hk,hc=>by
  have ih:=@t6 env r x k';have h':List.lookup x ((if (k==NameKind.free&&env.scope.kind == .function&&env.kindOf n==some .cell)=true then (n,NameKind.cell) else (n,k))::r.map λ(n,k)=>if (k==NameKind.free&&env.scope.kind == .function&&env.kindOf n==some .cell) then (n,NameKind.cell) else (n,k))=some k':=h
  cases hx:x==n with
  | true=>
   have e:=eq_of_beq hx;subst e;by_cases hf:k=.free
   .subst hf;exact bu
   .have hb:(k==NameKind.free)=false:=by simpa using hf
    rw[ag (by rw[hb];simp),cY,hx]at h';cases h'
    rcases hk with z|z
    .exact absurd z (hc (x,k) bu)
    .exact absurd z hf
  | false=>
   refine bE _ (ih ?_ hk λy hy=>hc y (bE _ hy));by_cases hcd:(k==NameKind.free&&env.scope.kind == .function&&env.kindOf n==some .cell)=true
   .rw[af hcd,cY,hx]at h';exact h'
   .rw[ag hcd,cY,hx]at h';exact h'
def er (own:Nat)(cap:List Nat)(U:St):St:=List.replicate own none++cap.map λi=>(U[i]?).getD none
structure oe (X:Cx)(scope:Scope)(N:List Str)(own:Nat)(cap:List Nat):Prop where
 kind:scope.kind=.function
 nocell:(scope.names.all λy=>y.2 != .cell)=true
 locs:(scope.names.all λy=>y.2 != .local||scope.names.lookup y.1==some .local)=true
 frees:(scope.names.all λy=>y.2 != .free||(X.env.kindOf y.1==some .cell||X.env.kindOf y.1==some .free))=true
 len:N.length=own+cap.length
 caps:((List.range cap.length).all λj=>(N[own+j]?==X.N[cap[j]!]?)&&(match N[own+j]? with|some x=>scope.names.lookup x==some .free&&(X.env.kindOf x==some .cell||X.env.kindOf x==some .free)|none=>false))=true
section
variable {prog:Program}{w:World}{A:Around}{R:Result->Shared->Prop}{s:Shared}
def zE {elt target iter:Expr}{ifs:List Expr}{scope:Scope}{pos:Pos}{it acc:Value}{env:Env}(I:Nat->Shared->Prop)
  (turn:∀ n s,I n s->wpAny (model prog w) A (pyNext it) (λr s₁=>match r with
   | none=>R (.ok .next) s₁
   | some v=>wpAny (model prog w) A (letOwnedTupleGo target it v) (λ_ s₁'=>wpAny (model prog w) A (assign target env v) (λ_ s₂=>
     wpAny (model prog w) A (forIn ifs true λc r=>if r=true then do let ok <-isTrue c env (eval c env);pure (ForInStep.yield ok) else pure (ForInStep.yield r)) (λok s₃=>
      if ok=true then wpAny (model prog w) A (eval elt env) (λx s₄=>
       wpAny (model prog w) A (call (.builtin "list.append") [acc,x]) (λ_ s₅=>∃ m,m<n/\I m s₅) (λ_ _=>False) s₄) (λ_ _=>False) s₃
      else ∃ m,m<n/\I m s₃) (λ_ _=>False) s₂) (λ_ _=>False) s₁') (λ_ _=>False) s₁) (λ_ _=>False) s)
  (n:Nat) (h:I n s) :
  codeAny (model prog w) A (.compLoop (.ListComp elt [#[target,iter,ifs,0]] scope pos) 0 it acc env) R s:=by
 refine codeAny_loop rfl I (λn s hI=>?_) n h;show wpAny _ A ((compTurn (.ListComp elt [#[target,iter,ifs,0]] scope pos) 0 it acc env).onRaise (λx=>do noteFrame x env;theTreesLotGoes x)) _ _ s
 refine wpAny_noted ?_;rw[compTurn_list];refine ao (wpAny_standAt (ao (dM (turn n s hI) (λr s₁ h₁=>?_) λ_ _ h'=>h'.elim)));cases r with
 | none=>exact aC h₁
 | some v=>
  refine ao (dM h₁ (λ_ s₁' h₁'=>?_) λ_ _ h'=>h'.elim);refine ao (dM h₁' (λ_ s₂ h₂=>ao (dM h₂ (λok s₃ h₃=>?_) λ_ _ h'=>h'.elim)) λ_ _ h'=>h'.elim);cases ok with
  | true=>
   simp only[if_true]at h₃ ⊢;exact ao (ao (dM h₃ (λx s₄ h₄=>ao (dM h₄ (λ_ s₅ h₅=>aC (aC #[rfl,h₅])) λ_ _ h'=>h'.elim)) λ_ _ h'=>h'.elim))
  | false=>
   simp only[cS,if_false]at h₃ ⊢;exact aC #[rfl,h₃]
end
section
variable {X:Cx}
def PTs (X:Cx)(ifs:List Expr)(t:TT):Prop:=
 ∀(LI:List (Addr×Obj)) (s:Shared) (U:St) (H:Hp) (Q:Bool->Hp->Prop),Inv X LI U H s->t U H Q->
  wpAny (model X.prog X.w) X.A (forIn ifs true λc r=>if r=true then do let ok <-isTrue c X.env (eval c X.env);pure (ForInStep.yield ok) else pure (ForInStep.yield r)) (TP X LI U Q) X.xe s
def tYes:TT:=λ_ H Q=>Q true H
def eR:PTs X [] tYes:=λ_ _ _ H _ I h=>wpAny_tests_nil #[H,I,h]
def gn {t:TT}(h:PT X c t):PTs X [c] t:=λLI s U H Q I q=>wpAny_tests_one (h LI s U H Q I q)
def Fg {C:Addr}{fp:List Addr}{h₁:Heap}{tk:Nat}{D:Addr}
  (I:Inv X LI U H s) (c:oe X scope N own cap) (hcl:iX scope X.env cl) (f:∀ b∈fp,FpOk X LI H b) (hD:s.heap.objs.size<=D) (hC:s.heap.objs.size<=C) (hCD:D≠C)
  (kp:∀ b o,s.heap.get? b=some o->h₁.get? b=some o) (hnew:h₁.get? D=some { cls:=.type "list",data:=.seq (List.toArray []) }) (hns:∃ m,h₁.Ns C m) (hfp:∀ b∈fp,b<s.heap.objs.size) (hcalm:X.calm=true) :
  Inv (dg X N scope cl C s H fp) LI (er own cap U) (upd H D (.lst [])) { s with heap:=h₁,toks:=tk }:=by
 have hfr:H D=none:=I.hok.fresh hD;have hfrC:H C=none:=I.hok.fresh hC;have sz:∀ b o,s.heap.get? b=some o->b≠D/\b≠C:=λb o e=>#[bh (aO (aJ e) hD),bh (aO (aJ e) hC)];have cells:∀ x cc,cl.lookup x=some cc->∃ v,s.heap.IsCell cc v:=λx cc e=>I.cell x cc (hcl.sub x cc e);have cellne:∀ x cc,cl.lookup x=some cc->cc≠D/\cc≠C:=λx cc e=>by
  obtain ⟨v,o,ho,_⟩:=cells x cc e;exact sz cc o ho
 have ok:(dg X N scope cl C s H fp).Ok:=by
  refine #[I.ok.mod,c.kind,I.ok.glob,I.ok.blt,hC,λx y cc e1 e2=>I.ok.inj x y cc (hcl.sub x cc e1) (hcl.sub y cc e2),λx hx=>?_,(λx cc z _=>nomatch z),I.ok.hd,I.ok.frames,.inl rfl,λb hb=>?_,λb o e=>I.bs b o e,?_,λb o e hb=>?_,λb hb z=>?_,I.stack,λb hb=>I.stkFree b hb]
  .have hm:(x,NameKind.free)∈scope.names:=by
    rcases hx with z|z
    .exact t6 (env:=X.env) (names:=scope.names) (x:=x) (k':=.cell) z (.inl rfl) λy hy q=>by
      have:=eY.mp c.nocell y hy;rw[q]at this;exact absurd this (by decide)
    .exact t6 (env:=X.env) (names:=scope.names) (x:=x) (k':=.free) z (.inr rfl) λy hy q=>by
      have:=eY.mp c.nocell y hy;rw[q]at this;exact absurd this (by decide)
   exact hcl.has x hm
  .exact #[bh (aO (hfp b hb) hC),λx cc e z=>(f b hb).2.2.2.2.1 x cc (hcl.sub x cc e) z]
  .exact az I.ok.bsz I.sz
  .obtain ⟨_,_,_,h4,_⟩:=f b hb;rcases h4 with z|z
   .exact I.ok.noex b o e z
   .exact absurd (aO (aJ e) (az I.ok.bsz z)) (dv _)
  .obtain ⟨_,h2,h3,_⟩:=f b hb;rcases aX.mp (I.stkSub b z) with q|q
   .exact h2 q
   .exact h3 q
 have hokN:bB X.prog X.w (upd H D (.lst [])) h₁ D (.lst []):=#[bG _,[],0,.nil,hnew];refine #[ok,I.os.symm ▸ rfl,I.bare,Un.laid kp hD hfr,?_,λx cc e=>?_,?_,λx cc e=>?_,λp hp=>?_,I.hok.laid kp hD hokN,?_]
 .obtain ⟨m,hm⟩:=hns;refine #[m,hm,λi x v e1 e2 e3=>?_];have hi:own<=i:=by
   false_or_by_contra
   rename_i z;unfold er at e2;rw[fZ (by rw[fk];lia),sg]at e2;split at e2<;>cases e2
  obtain ⟨j,rfl⟩:∃ j,i=own+j:=#[i-own,by lia];have hj:j<cap.length:=by
   have:=(aN.mp e1).1;have z:=c.len;have this':own+j<N.length:=this;lia
  have hc:=eY.mp c.caps j (dw.mpr hj);have e1':N[own+j]?=some x:=e1;rw[e1']at hc;simp only[d6,beq_iff_eq,kU]at hc;obtain ⟨hN,hf,hk⟩:=hc;have e2':U[cap[j]!]?=some (some v):=by
   unfold er at e2;rw[eF (by rw[fk];lia),fk,show own+j-own=j by lia,aY]at e2;have g:cap[j]! = cap[j]:=by simp[hj]
   rw[aw hj,Option.map_some]at e2;rw[g];have e2:=aK e2;cases q:U[cap[j]]? with
   | none=>rw[q]at e2;cases e2
   | some z=>rw[q]at e2;exact congrArg some e2
  obtain ⟨m0,_,hl⟩:=I.loc;obtain ⟨u,ru,lk⟩:=hl (cap[j]!) x v hN.symm e2' (by
   rcases hk with z|z
   .exact .inr (.inl z)
   .exact .inr (.inr z))
  refine #[u,ru,.inr #[tZ (env:=X.env) hf,?_]];rcases lk with ⟨z,_⟩|⟨_,cc,ec,ic⟩
  .rcases hk with q|q
   .rw[q]at z;cases z
   .rw[q]at z;cases z
  ·obtain ⟨c',hc'⟩:=hcl.has x (by
    have:(x,NameKind.free)∈scope.names:=by
     have hlk:=hf;obtain ⟨l1,l2,hs,hno⟩:=List.lookup_eq_some_iff.mp hlk;rw[hs];exact bV _ bu
    exact this)
   have:=hcl.sub x c' hc';rw[ec]at this;cases this
   obtain ⟨o,ho,hd⟩:=ic;exact #[cc,hc',o,kp cc o ho,hd]
 .obtain ⟨v,o,ho,hd⟩:=cells x cc e;exact #[v,o,kp cc o ho,hd]
 .show upd H D (.lst []) C=none;rw[ak (aT hCD)];exact hfrC
 .show upd H D (.lst []) cc=none;rw[ak (cellne x cc e).1];exact I.freeC x cc (hcl.sub x cc e)
 .obtain ⟨e,n,ne,nf,d⟩:=I.pin p hp;refine #[kp _ _ e,?_,(sz _ _ e).2,λz=>?_,d]
  .show upd H D (.lst []) p.1=none;rw[ak (sz _ _ e).1];exact n
  .rcases aX.mp (I.stkSub p.1 z) with q|q
   .exact ne q
   .exact nf q
 .show (er own cap U).length=N.length;unfold er;rw[aV,fk,aq,c.len]
def t7 (own:Nat)(cap:List Nat)(wi:TI)(g:TG)(ts:TT)(te:TE):TE:=λU H Q=>wi U H λJ H1=>∀ D,H1 D=none->∃ W:Nat->Nat->St->Hp->Prop,(∃ m,W 0 m (er own cap U) (upd H1 D (.lst [])))/\∀ i m U H,W i m U H->
 (J.stop i H/\Q (.ref D) H)\/(J.go i H/\∀ x H',J.yld i H x H'->g x U H' λU2 H2=>ts U2 H2 λb H3=>if b=true then te U2 H3 λy H4=>∃ xs,H4 D=some (.lst xs)/\xs.length<sizeLine/\∃ m',m'<m/\W (i+1) m' U2 (upd H4 D (.lst (xs++[y]))) else ∃ m',m'<m/\W (i+1) m' U2 H3)
def zF {fp:List Addr}{iter:Expr}{pos:Pos}{Q:VK}
  {E:Value->Shared->Prop} {RR:Value->Addr->Result->Shared->Prop}
  (hcalm:X.calm=true) (c:oe X scope N own cap) (hcl:iX scope X.env cl)
  (hg:∀ cl C s₂ H₂ fp,PG (dg X N scope cl C s₂ H₂ fp) tg g) (hts:∀ cl C s₂ H₂ fp,PTs (dg X N scope cl C s₂ H₂ fp) ifs ts) (he:∀ cl C s₂ H₂ fp,PE (dg X N scope cl C s₂ H₂ fp) elt te)
  (I2:Inv X LI U H2 s2) (T:Turn X.prog X.w X.K tg J fp it tn) (st2:tn 0 s2.heap) (f2:∀ b∈fp,FpOk X LI H2 b)
  (rd:∀ D,H2 D=none->∃ W:Nat->Nat->St->Hp->Prop,(∃ m,W 0 m (er own cap U) (upd H2 D (.lst [])))/\∀ i m U H,W i m U H->
   (J.stop i H/\Q (.ref D) H)\/(J.go i H/\∀ x H',J.yld i H x H'->g x U H' λU2 H2=>ts U2 H2 λb H3=>if b=true then te U2 H3 λy H4=>∃ xs,H4 D=some (.lst xs)/\xs.length<sizeLine/\∃ m',m'<m/\W (i+1) m' U2 (upd H4 D (.lst (xs++[y]))) else ∃ m',m'<m/\W (i+1) m' U2 H3))
  (hRR:∀ D C s' H',Inv X LI U H' s'->(∃ m,s'.heap.Ns C m)->FpOk X LI H' C->Q (.ref D) H'->RR (.ref D) C (.ok .next) s') :
  wpAny (model X.prog X.w) X.A (newList []) (λacc s₃=>wpAny (model X.prog X.w) X.A (newFunctionEnv scope X.env.globals cl [] X.env.qual none .none (some X.env)) (λcenv s₄=>
   codeAny (model X.prog X.w) X.A (.compStart (.ListComp elt [#[tg,iter,ifs,0]] scope pos) 0 (.ref it) acc { cenv with scope:=relabel scope X.env }) (RR acc cenv.locals) s₄) E s₃) E s2:=by
 have hcell:∀ y∈scope.names,y.2≠.cell:=λy hy q=>by
  have:=eY.mp c.nocell y hy;rw[q]at this;exact absurd this (by decide)
 have hfp:∀ b∈fp,b<s2.heap.objs.size:=λb hb=>by
  obtain ⟨o,e,_⟩:=T.obj 0 _ st2 b hb;exact aJ e
 refine wpAny_newObj_type (wpAny_newFunctionEnv hcell (by intro y hy;simp at hy) (λh₁ hns₁ hsb₁=>?_) c.kind);dsimp only at hns₁ hsb₁ ⊢;generalize hHH:s2.heap.push { cls:=.type "list",dict:=none,data:=.seq ([]:List Value).toArray }=HH at hns₁ hsb₁ ⊢;have hC:HH.objs.size=s2.heap.objs.size+1:=by rw[<-hHH,jy]
 have hDC:s2.heap.objs.size≠HH.objs.size:=by rw[hC];exact bh (jz _)
 have hCle:s2.heap.objs.size<=HH.objs.size:=by rw[hC];exact dj _
 have old:∀ b o,s2.heap.get? b=some o->h₁.get? b=some o:=λb o e=>hsb₁.extBut b o (bh (by rw[hC];exact nq (aJ e))) (aU _ (hHH ▸ aU _ e));have hnew:h₁.get? s2.heap.objs.size=some { cls:=.type "list",data:=.seq (List.toArray []) }:=hsb₁.extBut _ _ hDC (aU _ (hHH ▸ cQ _ rfl));have I3:∀ tk,Inv (dg X N scope cl HH.objs.size s2 H2 fp) LI (er own cap U) (upd H2 s2.heap.objs.size (.lst [])) { s2 with heap:=h₁,toks:=tk }:=λtk=>
  Fg I2 c hcl f2 (ai _) hCle hDC old hnew #[_,hns₁] hfp hcalm
 obtain ⟨W,⟨m0,w0⟩,turn⟩:=rd s2.heap.objs.size (I2.hok.fresh (ai _));have st3:tn 0 h₁:=T.keep _ _ _ st2 λb _ o e=>old b o e;have fr3:∀ b∈fp,upd H2 s2.heap.objs.size (.lst []) b=none:=λb hb=>by rw[ak (bh (hfp b hb))];exact (f2 b hb).1
 have stat:∀{H':Hp},(∀ b∈fp,H' b=none)->∀ b∈fp,FpOk (dg X N scope cl HH.objs.size s2 H2 fp) LI H' b:=λhn b hb=>by
  obtain ⟨_,h2,h3,_,h5,h6⟩:=f2 b hb;refine #[hn b hb,bh (aO (hfp b hb) hCle),λz=>?_,.inl hb,λx cc e=>h5 x cc (hcl.sub x cc e),h6];rcases aX.mp (I2.stkSub b z) with q|q
  .exact h2 q
  .exact h3 q
 have loop:∀ s₃:Shared,s₃={ s2 with heap:=h₁,toks:=s2.toks+([]:List (Str×Value)).length }->
   codeAny (model X.prog X.w) X.A (.compLoop (.ListComp elt [#[tg,iter,ifs,0]] scope pos) 0 (.ref it) (.ref s2.heap.objs.size) (compEnvC scope cl HH.objs.size X.env)) (RR (.ref s2.heap.objs.size) HH.objs.size) s₃:=by
  rintro s₃ rfl;refine zE (λn s'=>∃ i U' H',Inv (dg X N scope cl HH.objs.size s2 H2 fp) LI U' H' s'/\tn i s'.heap/\(∀ b∈fp,H' b=none)/\W i n U' H') ?_ m0 #[0,_,_,I3 _,st3,fr3,w0];rintro n s3 ⟨i,U3,H3,J3,t3,fr,w3⟩;rcases turn i n U3 H3 w3 with ⟨stop,qn⟩|⟨go,step⟩
  .refine thn (T.done (dg X N scope cl HH.objs.size s2 H2 fp) rfl rfl rfl hcalm i LI s3 U3 H3 (λ_ _=>False) J3 (stat fr) t3 stop) λr s4 zq0=>?_;obtain ⟨hr,I4⟩:=zq0;subst hr;obtain ⟨mm,hmm,_⟩:=I4.loc;refine hRR _ _ s4 H3 (I2.call' I4.os I4.base I4.hok I4.bare λb hb=>?_) #[mm,hmm] (I2.fpOk hCle I4.free) qn;obtain ⟨_,h2,_,h4,h5,h6⟩:=f2 b hb;exact #[h4,h2,h5,h6]
  .refine thn (T.item (dg X N scope cl HH.objs.size s2 H2 fp) rfl rfl rfl hcalm i LI s3 U3 H3 (λ_ _=>False) J3 (stat fr) t3 go) λr s4 zq0=>?_;obtain ⟨u,hr,h4⟩:=zq0;subst hr;refine thn h4 λ_ s5 zq0=>?_;obtain ⟨x,H5,I5,r5,y5,st5,fr5⟩:=zq0;have I5':=I5.pinned (stat fr5) (T.obj _ _ st5);have back:∀{U7:St} {H7:Hp} {s7:Shared} {m':Nat},Inv (dg X N scope cl HH.objs.size s2 H2 fp) (LI++jE fp s5.heap) U7 H7 s7->W (i+1) m' U7 H7->∃ i U' H',Inv (dg X N scope cl HH.objs.size s2 H2 fp) LI U' H' s7/\tn i s7.heap/\(∀ b∈fp,H' b=none)/\W i m' U' H':=λ{U7 H7 s7 m'} I7 w7=>by
    refine #[i+1,U7,H7,I7.unpinned,T.keep _ _ _ st5 λb hb o e=>(I7.pin (b,o) (bV _ (bV _ (jF hb e)))).1,λb hb=>?_,w7];obtain ⟨o,e,d⟩:=T.obj _ _ st5 b hb;exact (I7.pin (b,o) (bV _ (bV _ (jF hb e)))).2.1
   refine thn (hg cl HH.objs.size s2 H2 fp _ s5 U3 H5 x u _ I5' r5 (step x H5 y5)) λ_ s6 zq0=>?_;obtain ⟨U6,H6,I6,q6⟩:=zq0;refine thn (hts cl HH.objs.size s2 H2 fp _ s6 U6 H6 _ I6 q6) λb s7 zq0=>?_;obtain ⟨H7,I7,q7⟩:=zq0;cases b with
   | false=>
    rw[ag bY]at q7 ⊢;obtain ⟨m',hm,w7⟩:=q7;exact #[m',hm,back I7 w7]
   | true=>
    rw[af rfl]at q7 ⊢;refine thn (he cl HH.objs.size s2 H2 fp _ s7 U6 H7 _ I7 q7) λv s8 zq0=>?_;obtain ⟨y,H8,I8,r8,q8⟩:=zq0;obtain ⟨xs,hx,hz,m',hm,w8⟩:=q8;refine thn (dD (X:=dg X N scope cl HH.objs.size s2 H2 fp) _ s8 U6 H8 (.ref s2.heap.objs.size) [y] (.ref s2.heap.objs.size) [v] (λ_ H9=>H9=upd H8 s2.heap.objs.size (.lst (xs++[y]))) I8 rfl (.cons r8 .nil) #[_,xs,y,rfl,rfl,hx,hz,rfl]) λ_ s9 zq0=>?_;obtain ⟨_,H9,I9,_,e9⟩:=zq0;subst e9;exact #[m',hm,back I9 w8]
 refine codeAny_compStart_list (loop _ rfl) ?_;exact T.self _ 0 _ _ _ st3 (loop _ rfl)
def dY {pos:Pos}(hcalm:X.calm=true)(hi:PI X tg iter wi)(c:oe X scope N own cap)
  (hg:∀ cl C s₂ H₂ fp,PG (dg X N scope cl C s₂ H₂ fp) tg g) (hts:∀ cl C s₂ H₂ fp,PTs (dg X N scope cl C s₂ H₂ fp) ifs ts) (he:∀ cl C s₂ H₂ fp,PE (dg X N scope cl C s₂ H₂ fp) elt te)
  (hs:∀ x,foldedSetIterable iter X.env x=pure x:=by intro _;rfl):PE X (.ListComp elt [#[tg,iter,ifs,0]] scope pos) (t7 own cap wi g ts te):=by
 intro LI s U H Q I h;obtain ⟨cl,hcl⟩:=oa (scope:=scope) (env:=X.env) λx hx=>I.ok.has x (by
  have:=eY.mp c.frees _ hx;simpa using this)
 rw[eval_ListComp];refine wpAny_comprehension_free (use:=none) rfl hs hcl.eq c.kind (λx hx hl=>by
  have:=eY.mp c.locs x hx;rw[hl]at this;simpa using this) (thn (hi LI s U H _ I h) λv s1 h1=>thn h1 λitv s2 h2=>?_)
 obtain ⟨it,fp,tn,J,H2,e,I2,T,st2,f2,rd⟩:=h2;subst e;refine zF (RR:=λacc C=>compPost (model X.prog X.w) X.A X.xe none (EP X LI U Q) acc C) hcalm c hcl hg hts he I2 T st2 f2 rd ?_;intro D C s' H' I' hm fC q;obtain ⟨m,hm⟩:=hm;obtain ⟨f0,f1,f2,f3,f4,f5⟩:=fC;exact #[m,hm,λh' hsb=>#[.ref D,H',I'.turned (t':=s'.toks) (λb o hb e=>(hsb.2 b hb).trans e) f0 f1 f3 f4 f5,rfl,q]]
def iY {i:Nat}{x:Str}{pos pos' spos:Pos}(hN:X.N.Nodup)(hxi:X.N[i]?=some x)(hx:X.env.scope.names.lookup x=some .local)(hcalm:X.calm=true)(hi:PI X tg iter wi)(c:oe X scope N own cap)
  (hg:∀ cl C s₂ H₂ fp,PG (dg X N scope cl C s₂ H₂ fp) tg g) (hts:∀ cl C s₂ H₂ fp,PTs (dg X N scope cl C s₂ H₂ fp) ifs ts) (he:∀ cl C s₂ H₂ fp,PE (dg X N scope cl C s₂ H₂ fp) elt te)
  (hsw:swapsWith (.ListComp elt [#[tg,iter,ifs,0]] scope pos) (some (.Name x pos')) spos.line X.env=pure true:=by rfl)
  (hs:∀ x,foldedSetIterable iter X.env x=pure x:=by intro _;rfl):PS X (.Assign [.Name x pos'] (.ListComp elt [#[tg,iter,ifs,0]] scope pos) spos) (tAsg (t7 own cap wi g ts te) (gJ i)):=by
 intro LI s U H D I h;obtain ⟨cl,hcl⟩:=oa (scope:=scope) (env:=X.env) λx hx=>I.ok.has x (by
  have:=eY.mp c.frees _ hx;simpa using this)
 rw[exec_Assign_Name_used _ _ _ _ hsw];refine ao (wpAny_standAt (ao ?_));show wpAny _ X.A (do let _ <-comprehension (.ListComp elt [#[tg,iter,ifs,0]] scope pos) scope X.env _ (newList []) false (eval iter X.env) (some (assign (.Name x pos') X.env))) _ _ s
 refine ao (dM (wpAny_comprehension_free (use:=some (assign (.Name x pos') X.env)) (Q:=λ_ s'=>SP X LI D .next s') rfl hs hcl.eq c.kind (λx hx hl=>by
  have:=eY.mp c.locs x hx;rw[hl]at this;simpa using this) (thn (hi LI s U H _ I h) λv s1 h1=>thn h1 λitv s2 h2=>?_)) (λ_ s' hq=>aC (aC hq)) λ_ _ e=>e)
 obtain ⟨it,fp,tn,J,H2,e,I2,T,st2,f2,rd⟩:=h2;subst e;refine zF (RR:=λacc C=>compPost (model X.prog X.w) X.A X.xe (some (assign (.Name x pos') X.env)) (λ_ s'=>SP X LI D .next s') acc C) (Q:=λx H1=>gJ i x U H1 D.nx) hcalm c hcl hg hts he I2 T st2 f2 rd ?_;intro Dd C s' H' I' hm fC q;obtain ⟨m,hm⟩:=hm;have hne:∀ a,(a=X.env.locals\/X.env.cells.lookup x=some a)->a≠C:=λa z=>by
  obtain ⟨f0,f1,f2,f3,f4,f5⟩:=fC;rcases z with z|z
  .rw[z];exact aT f1
  .exact f4 x a z
 show wpAny _ X.A (assign (.Name x pos') X.env (.ref Dd)) _ _ _;refine wpAny_assign_Name (sR I' hN hxi (.inl hx) (v:=.ref Dd) rfl (λs'' I'' hch=>?_) (.inr hx));obtain ⟨a,hsb,ha⟩:=hch;refine #[m,hm.sameBut hsb (aT (hne a ha)),λh' hs'=>?_];obtain ⟨f0,f1,f2,f3,f4,f5⟩:=fC;exact #[_,H',I''.turned (t':=s''.toks) (λb o hb e=>(hs'.2 b hb).trans e) f0 f1 f3 f4 f5,q]
end
end L2
namespace L2
open PySem PySem.Spec PyProof.Rows PySem.SeqAt
class Srt (α:Type)[Rep α] where
 blt:α->α->Bool
 irrefl:∀ a,blt a a=false
 trans:∀ a b c,blt a b=true->blt b c=true->blt a c=true
 negTrans:∀ a b c,blt a c=true->blt a b=true\/blt b c=true
 total:∀ a b,blt a b=false->blt b a=false->a=b
 kd:SortKind
 one:α
 lt:∀{X:Cx} {LI:List (Addr×Obj)} {U:St} {H:Hp} {s:Shared} {A:Around} {a b:α} {x y:V} {u v:Value} {Q:Bool->Shared->Prop} {E:Value->Shared->Prop},Inv X LI U H s->Rep.has X.K H a x->Rep.has X.K H b y->RelV x u->RelV y v->Q (blt a b) s->wpAny (model X.prog X.w) A (keyLt' kd u v) Q E s
 kind:∀{X:Cx} {LI:List (Addr×Obj)} {U:St} {H:Hp} {s:Shared} {A:Around} {as:List α} {xs:List V} {us:List Value} {Q:SortKind->Shared->Prop} {E:Value->Shared->Prop},Inv X LI U H s->aB X.K H as xs->Vals xs us->2<=us.length->Q kd s->wpAny (model X.prog X.w) A (keyKind' us.toArray) Q E s
section
variable {α:Type}[Rep α][Srt α]
noncomputable def srtKind (α:Type)[Rep α][Srt α](K:Frag)(H:Hp):PyProof.Rows.KeyKind where
 α:=α
 blt:=Srt.blt
 irrefl:=Srt.irrefl
 trans:=Srt.trans
 negTrans:=Srt.negTrans
 total:=Srt.total
 keyOf:=λu=>open Classical in if h:∃ a:α,∃ x,RelV x u/\Rep.has K H a x then some (Classical.choose h) else none
 dflt:=Srt.one
def Fh {a:α}{x:V}{u:Value}(I:Inv X LI U H s)(r:RelV x u)(h:Rep.has X.K H a x):(srtKind α X.K H).keyOf u=some a:=by
 have e:∃ a:α,∃ x,RelV x u/\Rep.has X.K H a x:=#[a,x,r,h];unfold srtKind;dsimp only;rw[dif_pos e];obtain ⟨y,ry,hy⟩:=Classical.choose_spec e;have z:=ry.inj r;subst z;exact congrArg some (Rep.inj I hy h)
def zG {K:Frag}{a:α}{u:Value}(h:(srtKind α K H).keyOf u=some a):∃ x,RelV x u/\Rep.has K H a x:=by
 unfold srtKind at h;dsimp only at h;split at h
 .rename_i e;cases h
  exact Classical.choose_spec e
 .cases h
def dE (as:List α):List α:=as.mergeSort λa b=>!Srt.blt b a
def jR (as:List α):(dE as).Perm as:=List.mergeSort_perm _ _
def og {as:List α}{a:α}:a∈dE as↔a∈as:=(jR as).mem_iff
def oh (as:List α):(dE as).length=as.length:=(jR as).length_eq
def Fi {a b:α}(h:Srt.blt a b=true):Srt.blt b a=false:=by
 cases e:Srt.blt b a with
 | false=>rfl
 | true=>
  have:=Srt.trans _ _ _ h e;rw[Srt.irrefl]at this;cases this
def zH (as:List α):(dE as).Pairwise λa b=>Srt.blt b a=false:=by
 have h:=List.pairwise_mergeSort (le:=λa b:α=>!Srt.blt b a) (λa b c h1 h2=>by
  simp only[g9]at h1 h2 ⊢;cases e:Srt.blt c a with
  | false=>rfl
  | true=>
   rcases Srt.negTrans c b a e with z|z
   .rw[h2]at z;cases z
   .rw[h1]at z;cases z) (λa b=>by
  cases e:Srt.blt b a with
  | false=>rfl
  | true=>rw[Fi e];rfl) as
 exact h.imp λ{a b} z=>by simpa using z
def Fj {as bs:List α}(hp:bs.Perm as)(hs:bs.Pairwise λa b=>Srt.blt b a=false):bs=dE as:=
 List.Perm.eq_of_pairwise (λa b _ _ h1 h2=>Srt.total a b h2 h1) hs (zH as) (hp.trans (jR as).symm)
def t8 {as:List α}(hn:as.Nodup):(dE as).Pairwise λa b=>Srt.blt a b=true:=by
 have h1:=zH as;have h2:(dE as).Nodup:=(jR as).nodup_iff.mpr hn;refine (h1.and h2).imp λ{a b} z=>?_;cases e:Srt.blt a b with
 | true=>rfl
 | false=>exact absurd (Srt.total a b e z.1) z.2
def zI {K:Frag}:∀{out:List Value},(∀ v∈out,∃ a:α,∃ x,RelV x v/\Rep.has K H a x/\(srtKind α K H).keyOf v=some a)->
  ∃(ws:List V) (bs:List α),Vals ws out/\aB K H bs ws/\bs=out.map (Tim.keyV (srtKind α K H))
 | [],_=>#[[],[],.nil,.nil,rfl]
 | v::out,h=>by
  obtain ⟨ws,bs,h1,h2,h3⟩:=zI (out:=out) λu hu=>h u (bE _ hu);obtain ⟨a,x,r,e,k⟩:=h v bu;refine #[x::ws,a::bs,.cons r h1,.cons e h2,?_];rw[bS,<-h3];have z:Tim.keyV (srtKind α K H) v=a:=by
   unfold Tim.keyV;rw[k];rfl
  rw[z];rfl
def zJ (I:Inv X LI U H s):∀{as:List α} {xs:List V} {us:List Value},aB X.K H as xs->Vals xs us->us.map (Tim.keyV (srtKind α X.K H))=as/\∀ v∈us,∃ a:α,∃ x,RelV x v/\Rep.has X.K H a x/\(srtKind α X.K H).keyOf v=some a
 | _,_,_,.nil,.nil=>#[rfl,λ_ z=>nomatch z]
 | _,_,_,.cons e t,.cons r q=>by
  obtain ⟨h1,h2⟩:=zJ I t q;have k:=Fh I r e;refine #[?_,λv hv=>?_]
  .rw[bS,h1];unfold Tim.keyV;rw[k];rfl
  .rcases aX.mp hv with z|z
   .subst z;exact #[_,_,r,e,k]
   .exact h2 v z
end
inductive zK (α:Type)[Rep α][Srt α](K:Frag)(xs:List V)(H:Hp)(Q:VK):Prop
 | c:∀(p:Addr) (vs:List V) (as:List α),xs=[.ref p]->SqL K H p vs->aB K H as vs->(∀ l ws,H l=none->aB K H (dE as) ws->Q (.ref l) (upd H l (.lst ws)))->zK α K xs H Q
section
variable {X:Cx}
def oi (α:Type)[Rep α][Srt α]:cT X (.builtin "sorted") (zK α X.K):=by
 intro LI s U H xs us Q I r h;obtain ⟨p,vs,as,rfl,hq,ha,q⟩:=h;obtain ⟨u,rfl,rx⟩:=fE r;cases rx
 obtain ⟨its,rv,pl,hz⟩:=I.list hq;have hlen:=rv.length;obtain ⟨km,kk⟩:=zJ I ha rv;refine Tim.EO (κ:=srtKind α X.K H) (kd:=Srt.kd α) pl.isList (by lia) (λv hv=>?_) (λh' k E x y a b Q hx hy q=>?_) (λh' E Q k h2 q=>Srt.kind (Inv.kept (t':=s.toks) I k) ha rv h2 q) λout h' c p1 p2 k hc=>?_
 .obtain ⟨a,_,_,_,e⟩:=kk v hv;exact #[a,e]
 .obtain ⟨x1,r1,e1⟩:=zG hx;obtain ⟨y1,r2,e2⟩:=zG hy;exact Srt.lt (Inv.kept (t':=s.toks) I k) e1 e2 r1 r2 q
 .obtain ⟨ws,bs,w1,w2,w3⟩:=zI (α:=α) (K:=X.K) (H:=H) (out:=out) λv hv=>kk v (p1.mem_iff.mp hv);have eb:bs=dE as:=by
   refine Fj ?_ ?_
   .rw[w3,<-km];exact p1.map _
   .rw[w3];exact iM.mpr p2
  rw[eb]at w2;have hw:ws.length<=sizeLine:=by
   have:=w1.length;have:=p1.length_eq;lia
  exact #[.ref (s.heap.objs.size+1),_,I.laid (a:=s.heap.objs.size+1) (o:=.lst ws) (t':=s.toks) k (dj _) #[hw,out,c,w1,hc],rfl,q _ ws (I.hok.fresh (dj _)) w2]
end
instance:Srt Int where
 blt:=λa b=>decide (a<b)
 irrefl:=λa=>by simp
 trans:=λa b c h1 h2=>by
  simp only[decide_eq_true_eq]at *;lia
 negTrans:=λa b c h=>by
  simp only[decide_eq_true_eq]at *;lia
 total:=λa b h1 h2=>by
  simp only[decide_eq_false_iff_not]at *;lia
 kd:=oneType'
 one:=0
 lt:=λ{X LI U H s A a b x y u v Q E} _ h1 h2 r1 r2 q=>by
  have h1:x=.int a:=h1;have h2:y=.int b:=h2;subst h1 h2;obtain ⟨t,rfl⟩:=r1;obtain ⟨t',rfl⟩:=r2;exact W.kat_lt_int q
 kind:=λ{X LI U H s A as xs us Q E} _ h r hl q=>by
  have e:=aB.toInts h;subst e;have hi:IntsAre us as:=by
   clear q hl
   induction as generalizing us with
   | nil=>cases r;exact .nil
   | cons a as ih=>
    cases r with
    | cons r1 r2=>
     obtain ⟨t,rfl⟩:=r1;exact .cons a t (ih (by first|exact aB.ints|assumption) r2)
  match us,hl,hi with
  | v₁::v₂::rest,_,hi=>
   rw[keyKind_ints hi];exact aC q
def pLt (a b:Int×Int):Bool:=decide (a.1<b.1)||(decide (a.1=b.1)&&decide (a.2<b.2))
def gp {a:Int×Int}:pLt a b=true↔a.1<b.1\/(a.1=b.1/\a.2<b.2):=by
 unfold pLt;simp
def t9 {a:Int×Int}:pLt a b=false↔¬ (a.1<b.1\/(a.1=b.1/\a.2<b.2)):=by
 rw[<-gp];simp
def uc {a:Int×Int}{x:V}{u:Value}(I:Inv X LI U H s)(h:Rep.has X.K H a x)(r:RelV x u) :
  ∃(p:Addr) (o:Obj) (n:Nat) (t t':Tok),u=.ref p/\s.heap.get? p=some o/\o.cls=.type "tuple"/\o.data=.seq (List.toArray [.int a.1 t,.int a.2 t']) n:=by
 obtain ⟨p,x1,x2,rfl,q,e1,e2⟩:=(show hasP X.K H a x from h);have e1:x1=.int a.1:=e1;have e2:x2=.int a.2:=e2;subst e1 e2;cases r
 obtain ⟨us,ru,pu,_⟩:=I.tuple (SqT.of q);obtain ⟨u1,u2,rfl,⟨t,rfl⟩,⟨t',rfl⟩⟩:=gM ru;obtain ⟨o,ho,hc,n,hd⟩:=pu;exact #[p,o,n,t,t',rfl,ho,hc,hd]
def zL {prog:Program}{w:World}{A:Around}{E:Value->Shared->Prop}{s:Shared}{x y:Int}{t u:Tok}{Q:Bool->Shared->Prop}(b:Bool)(h:Q (decide (x<y)) s):wpAny (model prog w) A (oneLt' b (.int x t) (.int y u)) Q E s:=by
 cases b with
 | true=>
  rw[<-keyLt'_oneType];exact W.kat_lt_int h
 | false=>exact W.kat_one _ _ (lt_int h)
instance:Srt (Int×Int) where
 blt:=pLt
 irrefl:=λa=>by rw[t9];lia
 trans:=λa b c h1 h2=>by
  rw[gp]at *;lia
 negTrans:=λa b c h=>by
  rw[gp]at *;rw[gp];lia
 total:=λa b h1 h2=>by
  rw[t9]at *;obtain ⟨a1,a2⟩:=a;obtain ⟨b1,b2⟩:=b;have:a1=b1/\a2=b2:=by dsimp only at *;lia
  rw[this.1,this.2]
 kd:=tuples' true
 one:=(0,0)
 lt:=λ{X LI U H s A a b x y u v Q E} I h1 h2 r1 r2 q=>by
  obtain ⟨p,o,n,t1,t2,rfl,ho,hc,hd⟩:=uc I h1 r1;obtain ⟨p',o',n',t3,t4,rfl,ho',hc',hd'⟩:=uc I h2 r2;refine W.kat_lt ho hd ho' hd' ?_;show W.KatLex X.prog X.w A true _ Q [(.int a.1 t1,.int b.1 t3),(.int a.2 t2,.int b.2 t4)] 0 s;refine W.kat_cons (EqAt.int_int a.1 t1 b.1 t3 _ _ _ _ (W.kat_go (λe=>W.kat_yes ?_) (λe=>W.kat_no ?_)))
  .have e1:a.1=b.1:=eq_of_beq e;refine W.kat_cons (EqAt.int_int a.2 t2 b.2 t4 _ _ _ _ (W.kat_go (λe=>W.kat_yes (W.kat_nil ?_)) (λe=>W.kat_no (zL _ ?_))))
   .have e2:a.2=b.2:=eq_of_beq e;have z:pLt a b=false:=by rw[t9];lia
    rw[z]at q;exact q
   .have z:pLt a b=decide (a.2<b.2):=by
     unfold pLt;rw[bD (by lia:¬ a.1<b.1),bg e1];rfl
    rw[z]at q;exact q
  .have e1:¬ a.1=b.1:=λz=>by rw[z]at e;simp at e
   refine zL _ ?_;have z:pLt a b=decide (a.1<b.1):=by
    unfold pLt;rw[bD e1];simp
   rw[z]at q;exact q
 kind:=λ{X LI U H s A as xs us Q E} I h r hl q=>by
  have go:∀{as:List (Int×Int)} {xs:List V} {us:List Value},aB X.K H as xs->Vals xs us->∃ fs,W.KatTups s.heap us fs/\fs.length=us.length/\∀ v∈fs,∃ i t,v=Value.int i t:=by
   intro as
   induction as with
   | nil=>
    intro xs us h r;cases h
    cases r
    exact #[[],.nil,rfl,λ_ z=>nomatch z]
   | cons a as ih=>
    intro xs us h r;cases h with
    | cons h1 h2=>
     cases r with
     | cons r1 r2=>
      obtain ⟨fs,f1,f2,f3⟩:=ih h2 r2;obtain ⟨p,o,n,t,t',rfl,ho,hc,hd⟩:=uc I h1 r1;refine #[.int a.1 t::fs,W.KatTups.cons ho hc hd rfl f1,by rw[cR,cR,f2],λv hv=>?_];rcases aX.mp hv with z|z
      .exact #[_,_,z]
      .exact f3 v z
  obtain ⟨fs,f1,f2,f3⟩:=go h r;refine W.kat_kind (T:=.type "int") f1 (by lia) (λv hv=>?_) (by decide) ?_
  .obtain ⟨i,t,rfl⟩:=f3 v hv;exact W.Looks.of_pure rfl
  .exact q
end L2
namespace L2
open PySem PySem.Spec PyProof.Rows
section
variable {X:Cx}
def ud {i:Int}{pos:Pos}(hg:Gl X x)(hm:∃ t,X.mg x=some (.int i t))(hd:(x==("__debug__" : Str))=false:=by decide):PE X (.Name x pos) (tC (.int i)):=by
 obtain ⟨t,e⟩:=hm;exact Da hg e #[t,rfl] hd
end
def fT {K:Frag}{a:Addr}{g:TG}{ts:TT}{te:TE}{U:St}{H:Hp}{Q:Hp->Prop}(Pv:Nat->St->Hp->Prop)(h0:Pv 0 U H)(hl:∀ i U H,i<=xs.length->Pv i U H->SqL K H a xs)
  (hs:∀ i m x U H,xs[i]?=some x->i+m=xs.length->Pv i U H->g x U H λU2 H2=>ts U2 H2 λb H3=>if b=true then te U2 H3 λy H4=>∃ zs,H4 D=some (.lst zs)/\zs.length<sizeLine/\∃ m',m'<m/\(i+1+m'=xs.length/\Pv (i+1) U2 (upd H4 D (.lst (zs++[y])))) else ∃ m',m'<m/\(i+1+m'=xs.length/\Pv (i+1) U2 H3))
  (hd:∀ U H,Pv xs.length U H->Q H) :
  ∃ W:Nat->Nat->St->Hp->Prop,(∃ m,W 0 m U H)/\∀ i m U H,W i m U H->((Itl K a).stop i H/\Q H)\/((Itl K a).go i H/\∀ x H',(Itl K a).yld i H x H'->g x U H' λU2 H2=>ts U2 H2 λb H3=>if b=true then te U2 H3 λy H4=>∃ xs,H4 D=some (.lst xs)/\xs.length<sizeLine/\∃ m',m'<m/\W (i+1) m' U2 (upd H4 D (.lst (xs++[y]))) else ∃ m',m'<m/\W (i+1) m' U2 H3):=by
 refine #[λi m U H=>i+m=xs.length/\Pv i U H,#[xs.length,by lia,h0],λi m U H zq0=>?_];obtain ⟨e,pv⟩:=zq0;have hS:=hl i U H (by lia) pv;by_cases hi:i<xs.length
 .refine .inr #[#[xs,xs[i],hS,aw hi],λx H' y=>?_];obtain ⟨e1,y⟩:=y;subst e1;exact hs i m x U _ (y xs hS) e pv
 .have:i=xs.length:=by lia
  subst this;exact .inl #[#[xs,hS,ai _],hd U H pv]
def iZ {lo:Int}{n:Nat}{g:TG}{ts:TT}{te:TE}{U:St}{H:Hp}{Q:Hp->Prop}(Pv:Nat->St->Hp->Prop)(h0:Pv 0 U H)
  (hs:∀ i m U H,i+m=n->i<n->Pv i U H->g (.int (lo+i)) U H λU2 H2=>ts U2 H2 λb H3=>if b=true then te U2 H3 λy H4=>∃ zs,H4 D=some (.lst zs)/\zs.length<sizeLine/\∃ m',m'<m/\(i+1+m'=n/\Pv (i+1) U2 (upd H4 D (.lst (zs++[y])))) else ∃ m',m'<m/\(i+1+m'=n/\Pv (i+1) U2 H3))
  (hd:∀ U H,Pv n U H->Q H) :
  ∃ W:Nat->Nat->St->Hp->Prop,(∃ m,W 0 m U H)/\∀ i m U H,W i m U H->((Itr lo n).stop i H/\Q H)\/((Itr lo n).go i H/\∀ x H',(Itr lo n).yld i H x H'->g x U H' λU2 H2=>ts U2 H2 λb H3=>if b=true then te U2 H3 λy H4=>∃ xs,H4 D=some (.lst xs)/\xs.length<sizeLine/\∃ m',m'<m/\W (i+1) m' U2 (upd H4 D (.lst (xs++[y]))) else ∃ m',m'<m/\W (i+1) m' U2 H3):=by
 refine #[λi m U H=>i+m=n/\Pv i U H,#[n,by lia,h0],λi m U H zq0=>?_];obtain ⟨e,pv⟩:=zq0;by_cases hi:i<n
 .refine .inr #[hi,λx H' y=>?_];obtain ⟨e1,y⟩:=y;subst e1 y;exact hs i m U _ e hi pv
 .have:i=n:=by lia
  subst this;exact .inl #[ai _,hd U H pv]
def zM:∀{ns:List Int} {us:List Value},Vals (ns.map V.int) us->IntsAre us ns
 | [],_,.nil=>.nil
 | n::_,_,.cons ⟨t,e⟩ q=>by
  subst e;exact .cons n t (zM q)
def Fk:kitO "tuple" "tuple" = some true:=by decide +kernel
end L2
namespace L2
def gq {i:Nat}{x:V}{U:St}{H:Hp}{A B:St->Hp->Prop}(h:A (U.set i (some x)) H):gJ i x U H λU2 H2=>tYes U2 H2 λb H3=>if b=true then A U2 H3 else B U2 H3:=by
 show (if true=true then A (U.set i (some x)) H else B (U.set i (some x)) H)
 rw[af rfl];exact h
end L2
namespace L2
open PySem PySem.Spec PyProof.Rows
def zN:∀{bs:List Bool} {us:List Value},Vals (bs.map V.bl) us->us=bs.map Value.bool
 | [],_,.nil=>rfl
 | b::_,_,.cons e q=>by
  have e:_=Value.bool b:=e;rw[e,zN q];rfl
section
variable {X:Cx}
def Fl (hc:X.calm=true):cT X (.builtin "all") (λxs H Q=>∃(p:Addr) (bs:List Bool),xs=[.ref p]/\SqL X.K H p (bs.map V.bl)/\Q (.bl (bs.all id)) H):=by
 intro LI s U H xs us Q I r h;obtain ⟨p,bs,rfl,hq,q⟩:=h;obtain ⟨u,rfl,rx⟩:=fE r;cases rx
 obtain ⟨its,rv,pl,_⟩:=I.list hq;have e:=zN rv;subst e;have hl:=pl.isList;have hlt:p<s.heap.objs.size:=by obtain ⟨_,e,_⟩:=hl;exact aJ e
 refine call_all_walk (wpAny_pyIter_list hl ?_);refine #[s.heap.objs.size,[s.heap.objs.size,p],[s.heap.objs.size],(bs.map Value.bool).toArray.size,_,_,λi=>(bs[i]?).getD true,rfl,Walks.list (A:=X.A.in1) (I.ok.hd hc) _ p (bh hlt) _,
  #[#[_,cQ _ rfl,rfl,rfl],hl.push _],λi v s' Q' E' hP hQ=>?_,λh' tk hk=>?_]
 .have hP:(bs.map Value.bool)[i]?=some v:=by simpa using hP
  rw[aY]at hP;cases e:bs[i]? with
  | none=>rw[e]at hP;cases hP
  | some b=>
   rw[e]at hP;cases hP
   simp only[e,Option.getD_some]at hQ;exact wpAny_truthy_bool hQ
 .have e:((List.range (bs.map Value.bool).toArray.size).all λi=>(bs[i]?).getD true)=bs.all id:=by
   rw[bM,aq];exact PyProof.Rows.LSm.range_all bs
  rw[e];have kk:∀ b o,s.heap.get? b=some o->h'.get? b=some o:=λb o eb=>hk b o (λhm=>by rw[aM.mp hm]at eb;exact dv _ (aJ eb)) (aU _ eb);have I':Inv X LI U H { s with heap:=h',toks:=tk }:=I.kept (t':=tk) kk;exact #[.bl _,H,I',rfl,q]
end
section
variable {X:Cx}{K:Frag}
def bU (h:X.K=K:=by rfl):cT X (.builtin "len") (λxs H Q=>∃ p ys,xs=[.ref p]/\(SqL K H p ys\/SqT K H p ys)/\Q (.int ys.length) H):=by
 subst h;exact DT
def oj (h:X.K=K:=by rfl):cT X (.builtin "isinstance") (rIsi K):=by
 subst h;exact EU
def aQ (h:X.K=K:=by rfl):IxR X (rIxL K):=by
 subst h;exact DK
def bI (h:X.K=K:=by rfl):IxR X (rIxT K):=by
 subst h;exact DL
def lS (h:X.K=K:=by rfl):cT X (.type "list") (λxs H Q=>∃ p ys,xs=[.ref p]/\(SqL K H p ys\/SqT K H p ys)/\∀ l,H l=none->Q (.ref l) (upd H l (.lst ys))):=by
 subst h;exact DU
end
def ue {c:TT}{tb:TS}{D:Ends}{U:St}{H:Hp}(Pv Pe:St->Hp->Prop)(μ:St->Hp->Nat)(h0:Pv U H)
  (hs:∀ U H,Pv U H->c U H λb H1=>if b=true then tb { D with nx:=λU' H'=>Pv U' H'/\μ U' H'<μ U H,ct:=λU' H'=>Pv U' H'/\μ U' H'<μ U H,bk:=D.nx } U H1 else Pe U H1)
  (mono:∀ U H Q Q',(∀ b H1,Q b H1->Q' b H1)->c U H Q->c U H Q') (he:∀ U H,Pe U H->D.nx U H):sS c tb D U H:=by
 refine xU Pv μ h0 (λU H p=>mono U H _ _ (λb H1 q=>?_) (hs U H p)) mono;cases b with
 | true=>exact q
 | false=>exact he _ _ q
def uf (c:TT):Prop:=∀ U H Q Q',(∀ b H1,Q b H1->Q' b H1)->c U H Q->c U H Q'
def Fm {a:TT}(ha:uf a)(hb:uf b):uf (tAnd a b):=λU H Q Q' m h=>ha U H _ _ (λc H1 q=>by
 cases c with
 | false=>exact m _ _ q
 | true=>exact hb U H1 Q Q' m q) h
section
variable {X:Cx}{K:Frag}
def Fn (h:X.K=K:=by rfl):OpR X (compareOp .In) (rIn K false):=by
 subst h;exact DR
def jS (h:X.K=K:=by rfl):OpR X (compareOp .NotIn) (rIn K true):=by
 subst h;exact DS
def zO {k:Nat}{t:TGs}{n:Nat}{pos:Pos}(hc:X.calm=true)(h:PGs X es t)(hK:X.K=K:=by rfl)
  (hn:(assignEach es X.env).length=n:=by rfl) (hst:(assignEach es X.env).findIdx? (·.1)=none:=by rfl):PG X (.Tuple es k pos) (gTup K n t):=by
 subst hK;exact fR hc h hn hst
def jT (h:X.K=K:=by rfl):SlR X (rSlL K):=by
 subst h;exact DP
end
def Fo {K:Frag}{a:Addr}{xs ys:List V}{g:TG}{ts:TT}{te:TE}{U:St}{H:Hp}{Q:Hp->Prop}(hlen:xs.length=ys.length)(Pv:Nat->St->Hp->Prop)(h0:Pv 0 U H)(hl:∀ i U H,i<=xs.length->Pv i U H->SqL K H a xs/\SqL K H b ys)
  (hs:∀ i m x y U H r,xs[i]?=some x->ys[i]?=some y->i+m=xs.length->Pv i U H->H r=none->g (.ref r) U (upd H r (.tup [x,y])) λU2 H2=>ts U2 H2 λb H3=>if b=true then te U2 H3 λy H4=>∃ zs,H4 D=some (.lst zs)/\zs.length<sizeLine/\∃ m',m'<m/\(i+1+m'=xs.length/\Pv (i+1) U2 (upd H4 D (.lst (zs++[y])))) else ∃ m',m'<m/\(i+1+m'=xs.length/\Pv (i+1) U2 H3))
  (hd:∀ U H,Pv xs.length U H->Q H) :
  ∃ W:Nat->Nat->St->Hp->Prop,(∃ m,W 0 m U H)/\∀ i m U H,W i m U H->((Itz K a b).stop i H/\Q H)\/((Itz K a b).go i H/\∀ x H',(Itz K a b).yld i H x H'->g x U H' λU2 H2=>ts U2 H2 λb H3=>if b=true then te U2 H3 λy H4=>∃ xs,H4 D=some (.lst xs)/\xs.length<sizeLine/\∃ m',m'<m/\W (i+1) m' U2 (upd H4 D (.lst (xs++[y]))) else ∃ m',m'<m/\W (i+1) m' U2 H3):=by
 refine #[λi m U H=>i+m=xs.length/\Pv i U H,#[xs.length,by lia,h0],λi m U H zq0=>?_];obtain ⟨e,pv⟩:=zq0;obtain ⟨hS,hS'⟩:=hl i U H (by lia) pv;by_cases hi:i<xs.length
 .refine .inr #[#[xs,ys,xs[i],ys[i]'(by lia),hS,hS',aw hi,aw (by lia)],λx H' y=>?_];obtain ⟨p,z,z',rfl,hp,hz,hz',rfl⟩:=y;exact hs i m z z' U H p (hz xs hS) (hz' ys hS') e pv hp
 .have:i=xs.length:=by lia
  subst this;exact .inl #[#[xs,ys,hS,hS',.inl (ai _)],hd U H pv]
section
variable {X:Cx}
def Fp (hc:X.calm=true):cT X (.builtin "min") (λxs H Q=>∃(p:Addr) (ns:List Int),xs=[.ref p]/\SqL X.K H p (ns.map V.int)/\0<ns.length/\∀ M,M∈ns->(∀ a,a∈ns->M<=a)->Q (.int M) H):=by
 intro LI s U H xs us Q I r h;obtain ⟨p,ns,rfl,hq,hne,q⟩:=h;obtain ⟨u,rfl,rx⟩:=fE r;cases rx
 obtain ⟨its,rv,pl,_⟩:=I.list hq;have hi:=zM rv;obtain ⟨xs,hx⟩:=hi.allInts.items;have hl':s.heap.IsList p (intItems xs):=hx ▸ pl.isList;have e1:ns=xs.toList.map (·.1):=by
  rw[<-nums_intItems,<-hx];exact (show numsOf its.toArray.toList=ns from hi.numsOf).symm
 have hsz:0<xs.size:=by
  rw[e1,aq,bF]at hne;exact hne
 refine min_intList (I.ok.hd hc) hl' hsz λv h' tk hv hk=>?_;obtain ⟨t,rfl⟩:=intItems_at hv;obtain ⟨h1,h2⟩:=argBest_lt (numAt xs) (xs.size-1);refine #[.int _,H,Inv.kept (t':=tk) I hk,#[t,rfl],q _ ?_ λa ha=>?_]
 .rw[e1,numAt_eq];rw[aA,aw (by rw[aq,bF];lia)];exact cG _
 .rw[e1]at ha;obtain ⟨j,hj,rfl⟩:=mem_getD ha;rw[aq,bF]at hj;rw[<-numAt_eq];exact h2 j (by lia)
end
def lT {K:Frag}{a:Addr}{g:TG}{ts:TT}{te:TE}{U:St}{H:Hp}{Q:Hp->Prop}(Pv:Nat->St->Hp->Prop)(h0:Pv 0 U H)(hl:∀ i U H,i<=xs.length->Pv i U H->SqT K H a xs)
  (hs:∀ i m x U H,xs[i]?=some x->i+m=xs.length->Pv i U H->g x U H λU2 H2=>ts U2 H2 λb H3=>if b=true then te U2 H3 λy H4=>∃ zs,H4 D=some (.lst zs)/\zs.length<sizeLine/\∃ m',m'<m/\(i+1+m'=xs.length/\Pv (i+1) U2 (upd H4 D (.lst (zs++[y])))) else ∃ m',m'<m/\(i+1+m'=xs.length/\Pv (i+1) U2 H3))
  (hd:∀ U H,Pv xs.length U H->Q H) :
  ∃ W:Nat->Nat->St->Hp->Prop,(∃ m,W 0 m U H)/\∀ i m U H,W i m U H->((Itt K a).stop i H/\Q H)\/((Itt K a).go i H/\∀ x H',(Itt K a).yld i H x H'->g x U H' λU2 H2=>ts U2 H2 λb H3=>if b=true then te U2 H3 λy H4=>∃ xs,H4 D=some (.lst xs)/\xs.length<sizeLine/\∃ m',m'<m/\W (i+1) m' U2 (upd H4 D (.lst (xs++[y]))) else ∃ m',m'<m/\W (i+1) m' U2 H3):=by
 refine #[λi m U H=>i+m=xs.length/\Pv i U H,#[xs.length,by lia,h0],λi m U H zq0=>?_];obtain ⟨e,pv⟩:=zq0;have hS:=hl i U H (by lia) pv;by_cases hi:i<xs.length
 .refine .inr #[#[xs,xs[i],hS,aw hi],λx H' y=>?_];obtain ⟨e1,y⟩:=y;subst e1;exact hs i m x U _ (y xs hS) e pv
 .have:i=xs.length:=by lia
  subst this;exact .inl #[#[xs,hS,ai _],hd U H pv]
def Itv (K:Frag)(a:Addr)(n:Nat):It:=
 #[λi H=>i<n/\∃ xs,SqL K H a xs/\xs.length=n,λi H x H'=>H'=H/\∀ xs,SqL K H a xs->xs.length=n->xs.reverse[i]?=some x,λi _=>i=n]
def Fq {K:Frag}(a it:Addr)(n:Nat):Turn P w K tg (Itv K a n) [it] it (λi h=>h.IsRevIter it a ((n:Int)-1-(i:Int))) where
 mem:=by simp
 obj:=λi h st b hb=>by
  have e:b=it:=by simpa using hb
  subst e;obtain ⟨o,e,c,d⟩:=st;exact #[o,e,λv z=>by rw[d]at z;cases z]
 keep:=λi h h' st k=>st.at λo e=>k it (by simp) o e
 item:=by
  intro X hP hw hK hc i LI s U H E I hf st hg;subst hP hw hK;obtain ⟨hi,xs,hq,hn⟩:=hg;obtain ⟨its,rv,p,hz⟩:=I.list hq;have hx:xs[n-1-i]?=some (xs[n-1-i]'(by lia)):=aw (by lia);obtain ⟨u,hu,ru⟩:=rv.get hx;obtain ⟨f0,f1,f2,f3,f4,f5⟩:=hf it (by simp);have e1:(n:Int)-1-(i:Int)=((n-1-i:Nat):Int):=by lia
  rw[e1]at st;refine wpAny_pyNext_rev_item st p.isList (x:=u) (by simpa using hu) λh' st' sb=>?_;have e2:((n-1-i:Nat):Int)-1=(n:Int)-1-((i+1:Nat):Int):=by lia
  rw[e2]at st';have I1:Inv X LI U H { s with heap:=h' }:=I.turned (t':=s.toks) (λb o hb e=>(sb.2 b hb).trans e) f0 f1 f3 f4 f5;obtain ⟨o,e,c,d⟩:=id st';refine #[u,rfl,lx (s:={ s with heap:=h' }) e c d (by decide) #[xs[n-1-i]'(by lia),H,I1,ru,#[rfl,λys hy hyn=>?_],st',λb hb=>(hf b hb).1]];rw[I.list_inj hy hq,sM (by lia),show xs.length-1-i=n-1-i by lia];exact hx
 done:=by
  intro X hP hw hK hc i LI s U H E I hf st hg;subst hP hw hK;have hi:i=n:=hg;subst hi;obtain ⟨f0,f1,f2,f3,f4,f5⟩:=hf it (by simp);have e1:(i:Int)-1-(i:Int) = -1:=by lia
  rw[e1]at st;exact wpAny_pyNext_rev_end (I.ok.hd hc) st λh' eb=>#[rfl,I.turned (t':=s.toks) (λb o hb e=>eb b o hb e) f0 f1 f3 f4 f5]
 self:=λ_ _ _ _ _ st h=>wpAny_pyIter_revIter st h
inductive zP (K:Frag)(R:It->Hp->Prop)(vs:List V)(H1:Hp):Prop
 | c:∀ a xs,vs=[.ref a]->SqL K H1 a xs->R (Itv K a xs.length) H1->zP K R vs H1
def iRev (K:Frag)(ta:TA):TI:=λU H R=>ta U H λvs H1=>zP K R vs H1
section
variable {X:Cx}
def Fs {a:Expr}{p pos:Pos}(hg:Gl X "reversed")(hm:X.mg "reversed" = none)(ha:PA X [a] ta)(hs:starEach [a] X.env=[(false,eval a X.env)]:=by rfl):PI X tg (.Call (.Name "reversed" p) [a] [] pos) (iRev X.K ta):=by
 intro LI s U H R I h;refine Call_ (gI I hg hm boot_reversed (PyProof.Rows.callWith_type1 (thn (ha pos LI s U H _ I h) λus s1 zq0=>?_) hs rfl));obtain ⟨vs,H1,I1,r1,q1⟩:=zq0;obtain ⟨l,xs,e,hq,q⟩:=q1;subst e;cases r1 with
 | cons r rr=>
  cases rr
  cases r
  obtain ⟨its,rv,pl,hz⟩:=I1.list hq;have hl:=rv.length;refine call_reversed_list pl.isList ?_;have I2:Inv X LI U H1 { s1 with heap:=s1.heap.push (revObj l ((its.toArray.size:Int)-1)) }:=I1.kept (t':=s1.toks) λb o e=>aU _ e;have hr:(s1.heap.push (revObj l ((its.toArray.size:Int)-1))).IsRevIter s1.heap.objs.size l (((xs.length:Nat):Int)-1-((0:Nat):Int)):=by
   refine #[_,cQ _ rfl,rfl,?_];have:(its.toArray.size:Int)-1=((xs.length:Nat):Int)-1-((0:Nat):Int):=by
    rw[bM,hl];lia
   rw[this];rfl
  refine wpAny_pyIter_revIter (s:={ s1 with heap:=s1.heap.push (revObj l ((its.toArray.size:Int)-1)) }) hr #[_,[s1.heap.objs.size],_,_,H1,rfl,I2,Fq l s1.heap.objs.size xs.length,hr,λb hb=>?_,q];have e:b=s1.heap.objs.size:=by simpa using hb
  subst e;exact I1.fpOk (ai _) (I1.hok.fresh (ai _))
end
def Ft {K:Frag}{a:Addr}{g:TG}{tb:TS}{D:Ends}{U:St}{H:Hp}(Pv:Nat->St->Hp->Prop)(h0:Pv 0 U H)(hl:∀ i U H,i<=xs.length->Pv i U H->SqL K H a xs)
  (hs:∀ i x U H,xs.reverse[i]?=some x->Pv i U H->g x U H λU2 H2=>tb { D with nx:=Pv (i+1),ct:=Pv (i+1),bk:=D.nx } U2 H2) (hd:∀ U H,Pv xs.length U H->D.nx U H) :
  ∃ W:Nat->Nat->St->Hp->Prop,(∃ m,W 0 m U H)/\∀ i m U H,W i m U H->((Itv K a xs.length).stop i H/\D.nx U H)\/((Itv K a xs.length).go i H/\∃ N:St->Hp->Prop,(∀ U' H',N U' H'->∃ m',m'<m/\W (i+1) m' U' H')/\∀ x H',(Itv K a xs.length).yld i H x H'->g x U H' λU2 H2=>tb { D with nx:=N,ct:=N,bk:=D.nx } U2 H2):=by
 refine #[λi m U H=>i+m=xs.length/\Pv i U H,#[xs.length,by lia,h0],λi m U H zq0=>?_];obtain ⟨e,pv⟩:=zq0;have hS:=hl i U H (by lia) pv;by_cases hi:i<xs.length
 .refine .inr #[#[hi,xs,hS,rfl],Pv (i+1),λU' H' q=>#[m-1,by lia,by lia,q],λx H' y=>?_];obtain ⟨e1,y⟩:=y;subst e1;exact hs i x U _ (y xs hS rfl) pv
 .have:i=xs.length:=by lia
  subst this;exact .inl #[rfl,hd U H pv]
def Fu {k:Key}{u:Value}(h:(bz P w).is k u=true):RelV (kV k) u:=by
 rw[C0]at h;rcases f9 h with ⟨i,t,rfl,rfl⟩|⟨x,t,rfl,rfl⟩
 .exact #[t,rfl]
 .exact #[t,rfl]
section
variable {X:Cx}
def Fv (hc:X.calm=true):cT X (.type "list") (λxs H Q=>∃(p:Addr) (kvs:List (Key×V)),xs=[.ref p]/\H p=some (.dK kvs)/\∀ l,H l=none->Q (.ref l) (upd H l (.lst (kvs.map λkv=>kV kv.1)))):=by
 intro LI s U H xs us Q I r h;obtain ⟨p,kvs,rfl,hq,q⟩:=h;obtain ⟨u,rfl,rx⟩:=fE r;cases rx
 obtain ⟨hz,hne,vs,rel,o,es,ep,h1,h2,h3,h4,h5,h6⟩:=tq I.hok hq;have hlen:kvs.length=vs.length:=rel.length;refine W.kdl_call (W.kdl_dict (knd:=bz X.prog X.w) (kvs:=vs) (ep:=ep) hne) (I.ok.hd hc) #[o,es,h1,h2,h3,h4,h5,h6] (by lia) λh' tk acc c k e hi=>?_;have hv:Vals (kvs.map λkv=>kV kv.1) acc.toList:=by
  obtain ⟨g1,g2⟩:=hi;have key:∀(m:Nat) (kvs:List (Key×V)) (vs:List (Key×Value)) (us:List Value),KV kvs vs->us.length=vs.length->(∀(i:Nat) (v:Value),us[i]?=some v->∃ k x,vs[i]?=some (k,x)/\(bz X.prog X.w).is k v=true)->Vals (kvs.map λkv=>kV kv.1) us:=by
   intro m kvs
   induction kvs with
   | nil=>
    intro vs us r hl _;cases r
    have:us=[]:=nr hl;subst this;exact .nil
   | cons kv kvs ih=>
    intro vs us r hl hh;cases r with
    | cons a b=>
     cases us with
     | nil=>cases hl
     | cons v us=>
      refine .cons ?_ (ih _ us b (Nat.succ.inj hl) λi v e=>?_)
      .obtain ⟨k,x,e1,e2⟩:=hh 0 v rfl;cases e1
       have h9:=Fu e2;have a1:kv.1=k:=a.1;rw[<-a1]at h9;exact h9
      .have:=hh (i+1) v (by simpa using e);simpa using this
  refine key 0 kvs vs acc.toList rel (by rw[bF];exact g1) λi v e=>?_;exact g2 i v (by rw[<-eO];exact e)
 refine #[.ref s.heap.objs.size,_,I.laid (a:=s.heap.objs.size) (o:=.lst (kvs.map λkv=>kV kv.1)) (t':=tk) k (ai _) #[?_,acc.toList,c,hv,by rw[Array.toArray_toList];exact e],rfl,q _ (I.hok.fresh (ai _))];rw[aq];lia
end
end L2
namespace HT
open PySem PySem.Spec PyProof.Rows
section
variable {prog:Program}{w:World}{A:Around}{E:Value->Shared->Prop}{s:Shared}
def getItem_tuple_all {t sl:Addr}{items:Array Value}{vl vu:Value}{lo hi:Option Int}{Q:Value->Shared->Prop}(ht:IsTup s.heap t items)(hs:s.heap.IsSliceOf sl vl vu .none)(pl:IsPart vl lo)(pu:IsPart vu hi)
  (hw:sIx items.size 0 lo=0/\sIx items.size items.size hi=items.size) (h:Q (.ref t) s):wpAny (model prog w) A (getItem (.ref t) (.ref sl)) Q E s:=by
 obtain ⟨os,hos,hcs,hds⟩:=id hs;have hTs:s.TypeIs (.ref sl) "slice":=#[os,hos,hcs];unfold getItem
 try with_reducible refine wpAny_holding ?_
 first|refine ao (aC ?_)|skip
 refine ao (wpAny_sequenceKey ht.typeIs (by decide) ?_);refine ao (wpAny_callSpecial?_slot (name:=Str.ofString "__getitem__") ht.typeIs PyProof.Rows.slot_tuple_getitem (wpAny_call_entry PyProof.Rows.slot_tuple_getitem ht.typeIs entry_tuple_getitem ?_ (args_tuple_getitem _ _)));show wpAny _ _ (Builtin.Tuple.tupleItemsOf (.ref t) >>= _) _ _ s;refine ao (tupleItemsOf_ ht ?_);refine ao (wpAny_typeOf hTs ?_);rw[af (by decide)];refine ao (yx hs pl pu ?_);have yes:(((sIx items.size 0 lo:Nat):Int)==0&&(1:Int)==1&&(sIx items.size items.size hi-sIx items.size 0 lo)==items.size)=true:=by
  rw[hw.1,hw.2];simp
 show wpAny _ _ (if (((sIx items.size 0 lo:Nat):Int)==0&&(1:Int)==1&&(sIx items.size items.size hi-sIx items.size 0 lo)==items.size)=true then _ else _) _ _ s
 rw[af yes];refine ao ?_;unfold Builtin.Tuple.tupleIsExact;refine ao (wpAny_typeOf ht.typeIs ?_);refine aC ?_;rw[af (by decide)];exact ao (wpAny_rule (aC #[_,rfl,aC h]))
end
end HT
namespace L2
open PySem PySem.Spec PyProof.Rows
section
variable {X:Cx}
inductive rSlX (K:Frag)(x:V)(lo:Option Int)(hi:Option Int)(H:Hp)(Q:VK):Prop
 | c:∀ a xs,x=.ref a->SqT K H a xs->((HT.sIx xs.length 0 lo=0/\HT.sIx xs.length xs.length hi=xs.length)->Q (.ref a) H)->(¬ (HT.sIx xs.length 0 lo=0/\HT.sIx xs.length xs.length hi=xs.length)->∀ p,H p=none->Q (.ref p) (upd H p (.tup (cutV xs lo hi))))->rSlX K x lo hi H Q
def Fw:SlR X (rSlX X.K):=by
 intro LI s U H x v vl vu lo hi sl Q I rx hs pl pu h;obtain ⟨a,xs,e,hx,q1,q2⟩:=h;by_cases hw:HT.sIx xs.length 0 lo=0/\HT.sIx xs.length xs.length hi=xs.length
 .subst e;cases rx
  obtain ⟨its,r,ht,hz⟩:=I.tuple hx;have hlen:its.toArray.size=xs.length:=by rw[bM];exact r.length.symm
  refine #["tuple",_,PyProof.Rows.slot_tuple_getitem.lookup,ht.typeIs,?_];exact HT.getItem_tuple_all ht hs pl pu (by rw[hlen];exact hw) #[.ref a,H,I,rfl,q1 hw]
 .exact DI LI s U H x v vl vu lo hi sl Q I rx hs pl pu #[a,xs,e,hx,hw,q2 hw]
def om {K:Frag}(h:X.K=K:=by rfl):SlR X (rSlX K):=by
 subst h;exact Fw
inductive ug (K:Frag)(x:V)(y:V)(H:Hp)(Q:VK):Prop
 | c:∀ a b xs ys,x=.ref a->y=.ref b->SqT K H a xs->SqT K H b ys->ys≠[]->xs.length+ys.length<=sizeLine->(xs=[]->Q (.ref b) H)->(xs≠[]->∀ p,H p=none->Q (.ref p) (upd H p (.tup (xs++ys))))->ug K x y H Q
def Fx:OpR X (binaryOp .Add) (ug X.K):=by
 intro LI s U H x y v u Q I rx ry h;obtain ⟨a,b,xs,ys,e1,e2,ha,hb,hy,hz,q1,q2⟩:=h;by_cases hx:xs=[]
 .subst e1 e2;cases rx
  cases ry
  obtain ⟨its,r1,p1,_⟩:=I.tuple ha;obtain ⟨its2,r2,p2,_⟩:=I.tuple hb;obtain ⟨⟨cls,dd,data,sl⟩,ho,hc,n,hd⟩:=id p1;obtain ⟨⟨cls2,dd2,data2,sl2⟩,ho2,hc2,n2,hd2⟩:=id p2;simp only at hc hd hc2 hd2;subst hc hd hc2 hd2;have hv:its=[]:=r1.nil_iff.mpr hx;exact concat_meets #[_,ho,rfl] #[_,ho2,rfl] noFill_tuple_add seq_tuple_add PySem.F.slot_tuple_add PySem.F.entry_tuple_add (PySem.F.args_tuple_add_2 _ _)
   (tuple_addW0 a b its.toArray its2.toArray n n2 dd dd2 sl sl2 (by simp[hv])) #[ho,ho2,.ref b,H,I,rfl,q1 hx]
 .exact yB LI s U H x y v u Q I rx ry #[a,b,xs,ys,e1,e2,ha,hb,hx,hz,λz=>absurd z hy,λ_=>q2 hx]
end
end L2
namespace L2
open PySem PySem.Spec PyProof.Rows PySem.SeqAt
structure Tup (α:Type) where
 l:List α
def Tup.ext' {α:Type}{a b:Tup α}(h:a.l=b.l):a=b:=by
 cases a
 cases b
 cases h
 rfl
instance {α:Type} [DecidableEq α]:DecidableEq (Tup α):=λa b=>if h:a.l=b.l then .isTrue (Tup.ext' h) else .isFalse λz=>h (by rw[z])
inductive hasT {α:Type}[Rep α](K:Frag)(H:Hp)(t:Tup α)(v:V):Prop
 | c:∀ a xs,v=.ref a->SqT K H a xs->aB K H t.l xs->hasT K H t v
section
variable {α:Type}[r:Rep α]{X:Cx}{LI:List (Addr×Obj)}{U:St}{H:Hp}{s:Shared}{A:Around}{as bs:Tup α}{x y:V}{u v:Value}
def zQ (I:Inv X LI U H s)(h1:hasT X.K H as x)(h2:hasT X.K H bs x):as=bs:=by
 obtain ⟨a,xs,rfl,q1,h1⟩:=h1;obtain ⟨b,ys,e,q2,h2⟩:=h2;cases e
 rw[I.tuple_inj q2 q1]at h2;exact Tup.ext' (h1.inj I h2)
def zR {as bs:List α}(n m:Nat)(hn:as.length=n)(hm:bs.length=m):((List.range (min n m)).all (λj=>decide (as[j]?=bs[j]?))&&n==m)=decide (as=bs):=by
 by_cases hl:as.length=bs.length
 .have e:=tV as bs hl;have z:min n m=as.length:=by lia
  rw[z,e,beq_iff_eq.mpr (by lia:n=m),Bool.and_true]
 .rw[bD (λz=>hl (by rw[z])),beq_eq_false_iff_ne.mpr (by lia:n≠m),Bool.and_false]
def zS:decide (as=bs)=decide (as.l=bs.l):=by
 by_cases h:as.l=bs.l
 .rw[bg h,bg (Tup.ext' h)]
 .rw[bD h,bD (λz=>h (by rw[z]))]
def zT (I:Inv X LI U H s)(hu:A.units+(Rep.depth α+1)<cLine)(h1:hasT X.K H as x)(h2:hasT X.K H bs y)(r1:RelV x u)(r2:RelV y v):RcAt A s u v (decide (as=bs)):=by
 obtain ⟨a,xs,rfl,q1,h1⟩:=h1;obtain ⟨b,ys,rfl,q2,h2⟩:=h2;cases r1
 cases r2
 obtain ⟨us,ru,pu,_⟩:=I.tuple q1;obtain ⟨vs,rv,pv,_⟩:=I.tuple q2;have l1:=ru.length;have l2:=rv.length;have m1:=h1.length;have m2:=h2.length;have hin:A.in1.units+Rep.depth α<cLine:=cC (fN jQ _) (by lia);have:=RcAt.tuples (A:=A) (s:=s) (l:=a) (b:=b) (items:=us.toArray) (items2:=vs.toArray) (e:=λj=>decide (as.l[j]?=bs.l[j]?)) pu pv (by lia) (nY I hin h1 h2 ru rv);rw[zR (as:=as.l) (bs:=bs.l) us.toArray.size vs.toArray.size (by simp;lia) (by simp;lia),<-zS]at this;exact this
def Fy (I:Inv X LI U H s)(hu:A.units+(Rep.depth α+1)<cLine)(h1:hasT X.K H as x)(h2:hasT X.K H bs y)(r1:RelV x u)(r2:RelV y v):RcNeAt A s u v (!decide (as=bs)):=by
 obtain ⟨a,xs,rfl,q1,h1⟩:=h1;obtain ⟨b,ys,rfl,q2,h2⟩:=h2;cases r1
 cases r2
 obtain ⟨us,ru,pu,_⟩:=I.tuple q1;obtain ⟨vs,rv,pv,_⟩:=I.tuple q2;have l1:=ru.length;have l2:=rv.length;have m1:=h1.length;have m2:=h2.length;have hin:A.in1.units+Rep.depth α<cLine:=cC (fN jQ _) (by lia);have:=RcNeAt.tuples (A:=A) (s:=s) (l:=a) (b:=b) (items:=us.toArray) (items2:=vs.toArray) (e:=λj=>decide (as.l[j]?=bs.l[j]?)) pu pv (by lia) (nY I hin h1 h2 ru rv);rw[zR (as:=as.l) (bs:=bs.l) us.toArray.size vs.toArray.size (by simp;lia) (by simp;lia),<-zS]at this;exact this
def Fz (I:Inv X LI U H s)(hu:A.units+(Rep.depth α+1)<cLine)(h1:hasT X.K H as x)(h2:hasT X.K H bs y)(r1:RelV x u)(r2:RelV y v):EqAt A s u v (decide (as=bs)):=by
 have rc:=zT (A:=A) I hu h1 h2 r1 r2;have h1':=id h1;have h2':=id h2;obtain ⟨a,xs,rfl,q1,h1⟩:=h1;obtain ⟨b,ys,rfl,q2,h2⟩:=h2;cases r1
 cases r2
 by_cases hab:a=b
 .subst hab;rw[bg (zQ I h1' h2')];exact EqAt.same _
 .exact EqAt.of_refs hab rc
end
instance {α:Type} [Rep α]:Rep (Tup α) where
 dec:=inferInstance
 depth:=Rep.depth α+1
 has:=hasT
 mono:=λe ⟨a,xs,h1,h2,h3⟩=>#[a,xs,h1,h2.ext e,h3.mono e]
 inj:=λI h1 h2=>zQ I h1 h2
 rc:=λI hu h1 h2 r1 r2=>zT I hu h1 h2 r1 r2
 rn:=λI hu h1 h2 r1 r2=>Fy I hu h1 h2 r1 r2
 eq:=λI hu h1 h2 r1 r2=>Fz I hu h1 h2 r1 r2
end L2
namespace L2
open PySem PySem.Spec PyProof.Rows
section
variable {X:Cx}{K:Frag}
def oo (h:X.K=K:=by rfl):cT X (.type "tuple") (λxs H Q=>∃ p ys,xs=[V.ref p]/\((SqL K H p ys/\∀ l,H l=none->Q (.ref l) (upd H l (.tup ys)))\/(SqT K H p ys/\Q (.ref p) H))):=by
 subst h;exact DV
end
section
variable {X:Cx}{K:Frag}{tg:Expr}
def FB (hl:PE X l tl)(h:X.K=K:=by rfl):PI X tg l (iTup K tl):=by
 subst h;exact gL hl
end
def dZ (X:Cx)(N:List Str)(scope:Scope)(z:Str)(cl:List (Str×Addr))(C:Addr)(s₂:Shared)(H₂:Hp)(fp:List Addr):Cx:=
 { X with N:=N,s₀:=s₂,H₀:=H₂,env:=compEnvC scope ((z,C+1)::cl) C X.env,outer:=X.stack,stack:=X.stack,ex:=fp,fn:=λx=>x==z,xe:=λ_ _=>False }
def zU {n:Nat}{h:Heap}:∀{names:List (Str×NameKind)} {acc:List (Str×Addr)},names.filter (λy=>y.2 == .cell)=[]->cellsFrom n names acc=acc/\pushCells h names=h
 | [],_,_=>#[rfl,rfl]
 | (x,k)::r,acc,e=>by
  cases hk:k==NameKind.cell with
  | true=>
   rw[ef (by exact hk)]at e;cases e
  | false=>
   rw[fz (by rw[show ((x,k):Str×NameKind).2=k from rfl,hk];decide)]at e;unfold cellsFrom pushCells;rw[hk];exact zU e
def uh {n:Nat}{h:Heap}{z:Str}:∀{names:List (Str×NameKind)} {acc:List (Str×Addr)},names.filter (λy=>y.2 == .cell)=[(z,.cell)]->cellsFrom n names acc=(z,n)::acc/\pushCells h names=h.push { cls:=.type "cell",data:=.cell none }
 | [],_,e=>by cases e
 | (x,k)::r,acc,e=>by
  cases hk:k==NameKind.cell with
  | true=>
   rw[ef (by exact hk)]at e;obtain ⟨e1,e2⟩:=List.cons.inj e;have e3:x=z:=congrArg Prod.fst e1;subst e3;unfold cellsFrom pushCells;rw[hk];exact zU e2
  | false=>
   rw[fz (by rw[show ((x,k):Str×NameKind).2=k from rfl,hk];decide)]at e;unfold cellsFrom pushCells;rw[hk];exact uh e
def FD {M:Model}{A:Around}{E:Value->Shared->Prop}{s:Shared}{scope:Scope}{z:Str}{globals:Addr}{closure:List (Str×Addr)}{qual:Str}{env:Env}{Q:Env->Shared->Prop}
  (one:scope.names.filter (λy=>y.2 == .cell)=[(z,.cell)])
  (hQ:Q { scope,locals:=s.heap.objs.size,globals,cells:=(z,s.heap.objs.size+1)::closure,qual,func:=none,code:=env.code,frame:=env.frame,builtins:=env.builtins } { s with heap:=(s.heap.push { cls:=.type "dict",data:=.dict (List.toArray []) }).push { cls:=.type "cell",data:=.cell none } }) :
  wpAny M A (newFunctionEnv scope globals closure [] qual none .none (some env)) Q E s:=by
 simp only[newFunctionEnv,Option.isSome_some,if_true];refine ao (wpAny_alloc ?_);refine ao (wpAny_layCells _ (λname kind cells=>by cases hkc:kind==NameKind.cell<;>simp[hkc]) _ _ _ _ ?_)
 rw[show ({ s with heap:=s.heap.push { cls:=.type "dict",data:=.dict (List.toArray []) } }:Shared).heap.objs.size=s.heap.objs.size+1 from jy ..];rw[(uh (n:=s.heap.objs.size+1) (h:=s.heap) one).1,(uh (n:=0) (h:=s.heap.push { cls:=.type "dict",data:=.dict (List.toArray []) }) (acc:=[]) one).2];refine ao ?_;rw[List.forIn_nil];exact aC (aC hQ)
def ui {env:Env}:∀{names:List (Str×NameKind)} {x:Str} {k':NameKind},(names.map λ(n,k)=>if (k==NameKind.free&&env.scope.kind == .function&&env.kindOf n==some .cell) then (n,NameKind.cell) else (n,k)).lookup x=some k'->k'=.cell\/k'=.free->
  (x,NameKind.free)∈names\/(x,NameKind.cell)∈names
 | [],_,_,h,_=>by simp at h
 | (n,k)::r,x,k',h,hk=>by
  have ih:=@ui env r x k';have h':List.lookup x ((if (k==NameKind.free&&env.scope.kind == .function&&env.kindOf n==some .cell)=true then (n,NameKind.cell) else (n,k))::r.map λ(n,k)=>if (k==NameKind.free&&env.scope.kind == .function&&env.kindOf n==some .cell) then (n,NameKind.cell) else (n,k))=some k':=h
  cases hx:x==n with
  | true=>
   have e:=eq_of_beq hx;subst e;by_cases hf:k=.free
   .subst hf;exact .inl bu
   .have hb:(k==NameKind.free)=false:=by simpa using hf
    rw[ag (by rw[hb];simp),cY,hx]at h';cases h'
    rcases hk with z|z
    .subst z;exact .inr bu
    .exact absurd z hf
  | false=>
   refine (ih ?_ hk).imp (bE _) (bE _);by_cases hcd:(k==NameKind.free&&env.scope.kind == .function&&env.kindOf n==some .cell)=true
   .rw[af hcd,cY,hx]at h';exact h'
   .rw[ag hcd,cY,hx]at h';exact h'
structure uj (X:Cx)(scope:Scope)(z:Str)(N:List Str)(own:Nat)(cap:List Nat):Prop where
 kind:scope.kind=.function
 one:scope.names.filter (λy=>y.2 == .cell)=[(z,.cell)]
 look:scope.names.lookup z=some .cell
 locs:(scope.names.all λy=>y.2 != .local||scope.names.lookup y.1==some .local)=true
 frees:(scope.names.all λy=>y.2 != .free||(X.env.kindOf y.1==some .cell||X.env.kindOf y.1==some .free))=true
 len:N.length=own+cap.length
 caps:((List.range cap.length).all λj=>(N[own+j]?==X.N[cap[j]!]?)&&(match N[own+j]? with|some x=>scope.names.lookup x==some .free&&(X.env.kindOf x==some .cell||X.env.kindOf x==some .free)|none=>false))=true
section
variable {X:Cx}
def FE {C:Addr}{fp:List Addr}{h₁:Heap}{tk:Nat}{D:Addr}
  (I:Inv X LI U H s) (c:uj X scope z N own cap) (hcl:iX scope X.env cl) (f:∀ b∈fp,FpOk X LI H b) (hD:s.heap.objs.size<=D) (hC:s.heap.objs.size<=C) (hCD:D≠C)
  (kp:∀ b o,s.heap.get? b=some o->h₁.get? b=some o) (hnew:h₁.get? D=some { cls:=.type "list",data:=.seq (List.toArray []) }) (hns:∃ m,h₁.Ns C m) (hcz:h₁.IsCell (C+1) none) (hDz:D≠C+1) (hfp:∀ b∈fp,b<s.heap.objs.size) (hcalm:X.calm=true) :
  Inv (dZ X N scope z cl C s H fp) LI (er own cap U) (upd H D (.lst [])) { s with heap:=h₁,toks:=tk }:=by
 have hfr:H D=none:=I.hok.fresh hD;have hfrC:H C=none:=I.hok.fresh hC;have sz:∀ b o,s.heap.get? b=some o->b≠D/\b≠C:=λb o e=>#[bh (aO (aJ e) hD),bh (aO (aJ e) hC)];have cells:∀ x cc,cl.lookup x=some cc->∃ v,s.heap.IsCell cc v:=λx cc e=>I.cell x cc (hcl.sub x cc e);have cellne:∀ x cc,cl.lookup x=some cc->cc≠D/\cc≠C:=λx cc e=>by
  obtain ⟨v,o,ho,_⟩:=cells x cc e;exact sz cc o ho
 have czlt:∀ x cc,cl.lookup x=some cc->cc≠C+1:=λx cc e q=>by
  obtain ⟨v,o,ho,_⟩:=cells x cc e;exact absurd (show C+1<s.heap.objs.size from (by rw[<-q];exact aJ ho)) (hW.mpr (az hC (dj _)))
 have lk:∀ x cc,((z,C+1)::cl).lookup x=some cc->(x=z/\cc=C+1)\/(x≠z/\cl.lookup x=some cc):=λx cc e=>by
  rw[cY]at e;cases hx:x==z with
  | true=>
   rw[hx]at e;exact .inl #[eq_of_beq hx,(aK e).symm]
  | false=>
   rw[hx]at e;exact .inr #[λq=>(by rw[q,beq_self_eq_true]at hx;cases hx),e]
 have hfrZ:H (C+1)=none:=I.hok.fresh (az hC (dj _));have ok:(dZ X N scope z cl C s H fp).Ok:=by
  refine #[I.ok.mod,c.kind,I.ok.glob,I.ok.blt,hC,λx y cc e1 e2=>?_,λx hx=>?_,λx cc e1 e2=>?_,I.ok.hd,I.ok.frames,.inl rfl,λb hb=>?_,λb o e=>I.bs b o e,?_,λb o e hb=>?_,λb hb z=>?_,I.stack,λb hb=>I.stkFree b hb]
  .rcases lk x cc e1 with ⟨q1,q2⟩|⟨q1,q2⟩<;>rcases lk y cc e2 with ⟨r1,r2⟩|⟨r1,r2⟩
   .rw[q1,r1]
   .exact absurd q2 (czlt y cc r2)
   .exact absurd r2 (czlt x cc q2)
   .exact I.ok.inj x y cc (hcl.sub x cc q2) (hcl.sub y cc r2)
  .show ∃ c,((z,C+1)::cl).lookup x=some c;cases hxz:x==z with
   | true=>exact #[C+1,by rw[cY,hxz]]
   | false=>
    have hm:(x,NameKind.free)∈scope.names:=by
     have hor:(x,NameKind.free)∈scope.names\/(x,NameKind.cell)∈scope.names:=by
      rcases hx with y|y
      .exact ui (env:=X.env) (names:=scope.names) (x:=x) (k':=.cell) y (.inl rfl)
      .exact ui (env:=X.env) (names:=scope.names) (x:=x) (k':=.free) y (.inr rfl)
     rcases hor with q|q
     .exact q
     .have hf:(x,NameKind.cell)∈scope.names.filter (λy=>y.2 == .cell):=eD.mpr #[q,rfl];rw[c.one]at hf;have e:=congrArg Prod.fst (aM.mp hf);have e:x=z:=e;rw[e,beq_self_eq_true]at hxz;cases hxz
    obtain ⟨cc,hcc⟩:=hcl.has x hm;exact #[cc,by rw[cY,hxz];exact hcc]
  .have e1:(x==z)=true:=e1;rcases lk x cc e2 with ⟨_,q2⟩|⟨q1,_⟩
   .rw[q2];exact az hC (dj _)
   .exact absurd (eq_of_beq e1) q1
  ·exact #[bh (aO (hfp b hb) hC),λx cc e q=>by
    rcases lk x cc e with ⟨_,q2⟩|⟨_,q2⟩
    .exact absurd (show C+1<s.heap.objs.size from (by rw[<-q2,q];exact hfp b hb)) (hW.mpr (az hC (dj _)))
    .exact (f b hb).2.2.2.2.1 x cc (hcl.sub x cc q2) q]
  .exact az I.ok.bsz I.sz
  .obtain ⟨_,_,_,h4,_⟩:=f b hb;rcases h4 with z|z
   .exact I.ok.noex b o e z
   .exact absurd (aO (aJ e) (az I.ok.bsz z)) (dv _)
  .obtain ⟨_,h2,h3,_⟩:=f b hb;rcases aX.mp (I.stkSub b z) with q|q
   .exact h2 q
   .exact h3 q
 have hokN:bB X.prog X.w (upd H D (.lst [])) h₁ D (.lst []):=#[bG _,[],0,.nil,hnew];refine #[ok,I.os.symm ▸ rfl,I.bare,Un.laid kp hD hfr,?_,λx cc e=>?_,?_,λx cc e=>?_,λp hp=>?_,I.hok.laid kp hD hokN,?_]
 .obtain ⟨m,hm⟩:=hns;refine #[m,hm,λi x v e1 e2 e3=>?_];have hi:own<=i:=by
   false_or_by_contra
   rename_i z;unfold er at e2;rw[fZ (by rw[fk];lia),sg]at e2;split at e2<;>cases e2
  obtain ⟨j,rfl⟩:∃ j,i=own+j:=#[i-own,by lia];have hj:j<cap.length:=by
   have:=(aN.mp e1).1;have z:=c.len;have this':own+j<N.length:=this;lia
  have hc:=eY.mp c.caps j (dw.mpr hj);have e1':N[own+j]?=some x:=e1;rw[e1']at hc;simp only[d6,beq_iff_eq,kU]at hc;obtain ⟨hN,hf,hk⟩:=hc;have e2':U[cap[j]!]?=some (some v):=by
   unfold er at e2;rw[eF (by rw[fk];lia),fk,show own+j-own=j by lia,aY]at e2;have g:cap[j]! = cap[j]:=by simp[hj]
   rw[aw hj,Option.map_some]at e2;rw[g];have e2:=aK e2;cases q:U[cap[j]]? with
   | none=>rw[q]at e2;cases e2
   | some z=>rw[q]at e2;exact congrArg some e2
  obtain ⟨m0,_,hl⟩:=I.loc;obtain ⟨u,ru,lk⟩:=hl (cap[j]!) x v hN.symm e2' (by
   rcases hk with z|z
   .exact .inr (.inl z)
   .exact .inr (.inr z))
  refine #[u,ru,.inr #[tZ (env:=X.env) hf,?_]];rcases lk with ⟨z,_⟩|⟨_,cc,ec,ic⟩
  .rcases hk with q|q
   .rw[q]at z;cases z
   .rw[q]at z;cases z
  ·obtain ⟨c',hc'⟩:=hcl.has x (by
    have:(x,NameKind.free)∈scope.names:=by
     have hlk:=hf;obtain ⟨l1,l2,hs,hno⟩:=List.lookup_eq_some_iff.mp hlk;rw[hs];exact bV _ bu
    exact this)
   have:=hcl.sub x c' hc';rw[ec]at this;cases this
   obtain ⟨o,ho,hd⟩:=ic;refine #[cc,?_,o,kp cc o ho,hd];show ((z,C+1)::cl).lookup x=some cc;cases hxz:x==z with
   | true=>
    rw[eq_of_beq hxz,c.look]at hf;cases hf
   | false=>rw[cY,hxz];exact hc'
 .rcases lk x cc e with ⟨_,q2⟩|⟨_,q2⟩
  .rw[q2];exact #[_,hcz]
  .obtain ⟨v,o,ho,hd⟩:=cells x cc q2;exact #[v,o,kp cc o ho,hd]
 .show upd H D (.lst []) C=none;rw[ak (aT hCD)];exact hfrC
 .show upd H D (.lst []) cc=none;rcases lk x cc e with ⟨_,q2⟩|⟨_,q2⟩
  .rw[q2,ak (aT hDz)];exact hfrZ
  .rw[ak (cellne x cc q2).1];exact I.freeC x cc (hcl.sub x cc q2)
 .obtain ⟨e,n,ne,nf,d⟩:=I.pin p hp;refine #[kp _ _ e,?_,(sz _ _ e).2,λz=>?_,d]
  .show upd H D (.lst []) p.1=none;rw[ak (sz _ _ e).1];exact n
  .rcases aX.mp (I.stkSub p.1 z) with q|q
   .exact ne q
   .exact nf q
 .show (er own cap U).length=N.length;unfold er;rw[aV,fk,aq,c.len]
def FF {fp:List Addr}{iter:Expr}{pos:Pos}{Q:VK}
  {E:Value->Shared->Prop} {RR:Value->Addr->Result->Shared->Prop}
  (hcalm:X.calm=true) (c:uj X scope z N own cap) (hcl:iX scope X.env cl)
  (hg:∀ cl C s₂ H₂ fp,PG (dZ X N scope z cl C s₂ H₂ fp) tg g) (hts:∀ cl C s₂ H₂ fp,PTs (dZ X N scope z cl C s₂ H₂ fp) ifs ts) (he:∀ cl C s₂ H₂ fp,PE (dZ X N scope z cl C s₂ H₂ fp) elt te)
  (I2:Inv X LI U H2 s2) (T:Turn X.prog X.w X.K tg J fp it tn) (st2:tn 0 s2.heap) (f2:∀ b∈fp,FpOk X LI H2 b)
  (rd:∀ D,H2 D=none->∃ W:Nat->Nat->St->Hp->Prop,(∃ m,W 0 m (er own cap U) (upd H2 D (.lst [])))/\∀ i m U H,W i m U H->
   (J.stop i H/\Q (.ref D) H)\/(J.go i H/\∀ x H',J.yld i H x H'->g x U H' λU2 H2=>ts U2 H2 λb H3=>if b=true then te U2 H3 λy H4=>∃ xs,H4 D=some (.lst xs)/\xs.length<sizeLine/\∃ m',m'<m/\W (i+1) m' U2 (upd H4 D (.lst (xs++[y]))) else ∃ m',m'<m/\W (i+1) m' U2 H3))
  (hRR:∀ D C s' H',Inv X LI U H' s'->(∃ m,s'.heap.Ns C m)->FpOk X LI H' C->Q (.ref D) H'->RR (.ref D) C (.ok .next) s') :
  wpAny (model X.prog X.w) X.A (newList []) (λacc s₃=>wpAny (model X.prog X.w) X.A (newFunctionEnv scope X.env.globals cl [] X.env.qual none .none (some X.env)) (λcenv s₄=>
   codeAny (model X.prog X.w) X.A (.compStart (.ListComp elt [#[tg,iter,ifs,0]] scope pos) 0 (.ref it) acc { cenv with scope:=relabel scope X.env }) (RR acc cenv.locals) s₄) E s₃) E s2:=by
 have hfp:∀ b∈fp,b<s2.heap.objs.size:=λb hb=>by
  obtain ⟨o,e,_⟩:=T.obj 0 _ st2 b hb;exact aJ e
 refine wpAny_newObj_type (FD c.one ?_);dsimp only;generalize hHH:s2.heap.push { cls:=.type "list",dict:=none,data:=.seq ([]:List Value).toArray }=HH;generalize hh₁:(HH.push { cls:=.type "dict",data:=.dict (List.toArray []) }).push { cls:=.type "cell",data:=.cell none }=h₁;have hC:HH.objs.size=s2.heap.objs.size+1:=by rw[<-hHH,jy]
 have hDC:s2.heap.objs.size≠HH.objs.size:=by rw[hC];exact bh (jz _)
 have hCle:s2.heap.objs.size<=HH.objs.size:=by rw[hC];exact dj _
 have kp₁:∀ b o,HH.get? b=some o->h₁.get? b=some o:=λb o e=>hh₁ ▸ aU _ (aU _ e);have old:∀ b o,s2.heap.get? b=some o->h₁.get? b=some o:=λb o e=>kp₁ b o (hHH ▸ aU _ e);have hnew:h₁.get? s2.heap.objs.size=some { cls:=.type "list",data:=.seq (List.toArray []) }:=kp₁ _ _ (hHH ▸ cQ _ rfl);have hns₁:h₁.Ns HH.objs.size λ_=>none:=hh₁ ▸ (Heap.Ns.new HH (.type "dict")).push _;have hcz:h₁.IsCell (HH.objs.size+1) none:=by
  refine #[{ cls:=.type "cell",data:=.cell none },?_,rfl];rw[<-hh₁];have e:(HH.push { cls:=.type "dict",data:=.dict (List.toArray []) }).objs.size=HH.objs.size+1:=jy ..;rw[<-e];exact cQ _ rfl
 have I3:∀ tk,Inv (dZ X N scope z cl HH.objs.size s2 H2 fp) LI (er own cap U) (upd H2 s2.heap.objs.size (.lst [])) { s2 with heap:=h₁,toks:=tk }:=λtk=>
  FE I2 c hcl f2 (ai _) hCle hDC old hnew #[_,hns₁] hcz (by rw[hC];exact bh (nq (jz _))) hfp hcalm
 obtain ⟨W,⟨m0,w0⟩,turn⟩:=rd s2.heap.objs.size (I2.hok.fresh (ai _));have st3:tn 0 h₁:=T.keep _ _ _ st2 λb _ o e=>old b o e;have fr3:∀ b∈fp,upd H2 s2.heap.objs.size (.lst []) b=none:=λb hb=>by rw[ak (bh (hfp b hb))];exact (f2 b hb).1
 have stat:∀{H':Hp},(∀ b∈fp,H' b=none)->∀ b∈fp,FpOk (dZ X N scope z cl HH.objs.size s2 H2 fp) LI H' b:=λhn b hb=>by
  obtain ⟨_,h2,h3,_,h5,h6⟩:=f2 b hb;refine #[hn b hb,bh (aO (hfp b hb) hCle),λz=>?_,.inl hb,λx cc e=>?_,h6]
  .rcases aX.mp (I2.stkSub b z) with q|q
   .exact h2 q
   .exact h3 q
  .have e:((_,HH.objs.size+1)::cl).lookup x=some cc:=e;rw[cY]at e;split at e
   .exact λq=>absurd (show HH.objs.size+1<s2.heap.objs.size from (by rw[aK e,q];exact hfp b hb)) (hW.mpr (az hCle (dj _)))
   .exact h5 x cc (hcl.sub x cc e)
 have loop:∀ s₃:Shared,s₃={ s2 with heap:=h₁ }->
   codeAny (model X.prog X.w) X.A (.compLoop (.ListComp elt [#[tg,iter,ifs,0]] scope pos) 0 (.ref it) (.ref s2.heap.objs.size) (compEnvC scope ((z,HH.objs.size+1)::cl) HH.objs.size X.env)) (RR (.ref s2.heap.objs.size) HH.objs.size) s₃:=by
  rintro s₃ rfl;refine zE (λn s'=>∃ i U' H',Inv (dZ X N scope z cl HH.objs.size s2 H2 fp) LI U' H' s'/\tn i s'.heap/\(∀ b∈fp,H' b=none)/\W i n U' H') ?_ m0 #[0,_,_,I3 _,st3,fr3,w0];rintro n s3 ⟨i,U3,H3,J3,t3,fr,w3⟩;rcases turn i n U3 H3 w3 with ⟨stop,qn⟩|⟨go,step⟩
  .refine thn (T.done (dZ X N scope z cl HH.objs.size s2 H2 fp) rfl rfl rfl hcalm i LI s3 U3 H3 (λ_ _=>False) J3 (stat fr) t3 stop) λr s4 zq0=>?_;obtain ⟨hr,I4⟩:=zq0;subst hr;obtain ⟨mm,hmm,_⟩:=I4.loc;refine hRR _ _ s4 H3 (I2.call' I4.os I4.base I4.hok I4.bare λb hb=>?_) #[mm,hmm] (I2.fpOk hCle I4.free) qn;obtain ⟨_,h2,_,h4,h5,h6⟩:=f2 b hb;exact #[h4,h2,h5,h6]
  .refine thn (T.item (dZ X N scope z cl HH.objs.size s2 H2 fp) rfl rfl rfl hcalm i LI s3 U3 H3 (λ_ _=>False) J3 (stat fr) t3 go) λr s4 zq0=>?_;obtain ⟨u,hr,h4⟩:=zq0;subst hr;refine thn h4 λ_ s5 zq0=>?_;obtain ⟨x,H5,I5,r5,y5,st5,fr5⟩:=zq0;have I5':=I5.pinned (stat fr5) (T.obj _ _ st5);have back:∀{U7:St} {H7:Hp} {s7:Shared} {m':Nat},Inv (dZ X N scope z cl HH.objs.size s2 H2 fp) (LI++jE fp s5.heap) U7 H7 s7->W (i+1) m' U7 H7->∃ i U' H',Inv (dZ X N scope z cl HH.objs.size s2 H2 fp) LI U' H' s7/\tn i s7.heap/\(∀ b∈fp,H' b=none)/\W i m' U' H':=λ{U7 H7 s7 m'} I7 w7=>by
    refine #[i+1,U7,H7,I7.unpinned,T.keep _ _ _ st5 λb hb o e=>(I7.pin (b,o) (bV _ (bV _ (jF hb e)))).1,λb hb=>?_,w7];obtain ⟨o,e,d⟩:=T.obj _ _ st5 b hb;exact (I7.pin (b,o) (bV _ (bV _ (jF hb e)))).2.1
   refine thn (hg cl HH.objs.size s2 H2 fp _ s5 U3 H5 x u _ I5' r5 (step x H5 y5)) λ_ s6 zq0=>?_;obtain ⟨U6,H6,I6,q6⟩:=zq0;refine thn (hts cl HH.objs.size s2 H2 fp _ s6 U6 H6 _ I6 q6) λb s7 zq0=>?_;obtain ⟨H7,I7,q7⟩:=zq0;cases b with
   | false=>
    rw[ag bY]at q7 ⊢;obtain ⟨m',hm,w7⟩:=q7;exact #[m',hm,back I7 w7]
   | true=>
    rw[af rfl]at q7 ⊢;refine thn (he cl HH.objs.size s2 H2 fp _ s7 U6 H7 _ I7 q7) λv s8 zq0=>?_;obtain ⟨y,H8,I8,r8,q8⟩:=zq0;obtain ⟨xs,hx,hz,m',hm,w8⟩:=q8;refine thn (dD (X:=dZ X N scope z cl HH.objs.size s2 H2 fp) _ s8 U6 H8 (.ref s2.heap.objs.size) [y] (.ref s2.heap.objs.size) [v] (λ_ H9=>H9=upd H8 s2.heap.objs.size (.lst (xs++[y]))) I8 rfl (.cons r8 .nil) #[_,xs,y,rfl,rfl,hx,hz,rfl]) λ_ s9 zq0=>?_;obtain ⟨_,H9,I9,_,e9⟩:=zq0;subst e9;exact #[m',hm,back I9 w8]
 refine codeAny_compStart_list (loop _ rfl) ?_;exact T.self _ 0 _ _ _ st3 (loop _ rfl)
def FG (z:Str){i:Nat}{x:Str}{pos pos' spos:Pos}(hN:X.N.Nodup)(hxi:X.N[i]?=some x)(hx:X.env.scope.names.lookup x=some .local)(hcalm:X.calm=true)(hi:PI X tg iter wi)(c:uj X scope z N own cap)
  (hg:∀ cl C s₂ H₂ fp,PG (dZ X N scope z cl C s₂ H₂ fp) tg g) (hts:∀ cl C s₂ H₂ fp,PTs (dZ X N scope z cl C s₂ H₂ fp) ifs ts) (he:∀ cl C s₂ H₂ fp,PE (dZ X N scope z cl C s₂ H₂ fp) elt te)
  (hsw:swapsWith (.ListComp elt [#[tg,iter,ifs,0]] scope pos) (some (.Name x pos')) spos.line X.env=pure true:=by rfl)
  (hs:∀ x,foldedSetIterable iter X.env x=pure x:=by intro _;rfl):PS X (.Assign [.Name x pos'] (.ListComp elt [#[tg,iter,ifs,0]] scope pos) spos) (tAsg (t7 own cap wi g ts te) (gJ i)):=by
 intro LI s U H D I h;obtain ⟨cl,hcl⟩:=oa (scope:=scope) (env:=X.env) λx hx=>I.ok.has x (by
  have:=eY.mp c.frees _ hx;simpa using this)
 rw[exec_Assign_Name_used _ _ _ _ hsw];refine ao (wpAny_standAt (ao ?_));show wpAny _ X.A (do let _ <-comprehension (.ListComp elt [#[tg,iter,ifs,0]] scope pos) scope X.env _ (newList []) false (eval iter X.env) (some (assign (.Name x pos') X.env))) _ _ s
 refine ao (dM (wpAny_comprehension_free (use:=some (assign (.Name x pos') X.env)) (Q:=λ_ s'=>SP X LI D .next s') rfl hs hcl.eq c.kind (λx hx hl=>by
  have:=eY.mp c.locs x hx;rw[hl]at this;simpa using this) (thn (hi LI s U H _ I h) λv s1 h1=>thn h1 λitv s2 h2=>?_)) (λ_ s' hq=>aC (aC hq)) λ_ _ e=>e)
 obtain ⟨it,fp,tn,J,H2,e,I2,T,st2,f2,rd⟩:=h2;subst e;refine FF (RR:=λacc C=>compPost (model X.prog X.w) X.A X.xe (some (assign (.Name x pos') X.env)) (λ_ s'=>SP X LI D .next s') acc C) (Q:=λx H1=>gJ i x U H1 D.nx) hcalm c hcl hg hts he I2 T st2 f2 rd ?_;intro Dd C s' H' I' hm fC q;obtain ⟨m,hm⟩:=hm;have hne:∀ a,(a=X.env.locals\/X.env.cells.lookup x=some a)->a≠C:=λa z=>by
  obtain ⟨f0,f1,f2,f3,f4,f5⟩:=fC;rcases z with z|z
  .rw[z];exact aT f1
  .exact f4 x a z
 show wpAny _ X.A (assign (.Name x pos') X.env (.ref Dd)) _ _ _;refine wpAny_assign_Name (sR I' hN hxi (.inl hx) (v:=.ref Dd) rfl (λs'' I'' hch=>?_) (.inr hx));obtain ⟨a,hsb,ha⟩:=hch;refine #[m,hm.sameBut hsb (aT (hne a ha)),λh' hs'=>?_];obtain ⟨f0,f1,f2,f3,f4,f5⟩:=fC;exact #[_,H',I''.turned (t':=s''.toks) (λb o hb e=>(hs'.2 b hb).trans e) f0 f1 f3 f4 f5,q]
end
def ItF (hi:Int)(n:Nat):It:=#[λi _=>i<n,λi H x H'=>H'=H/\x=.int (hi-i),λi _=>n<=i]
def FH {K:Frag}(it:Addr)(hi:Int)(n:Nat):Turn P w K tg (ItF hi n) [it] it (λi h=>IsRangeIter h it (hi+(i:Nat)*(-1)) ((n:Int)-(i:Nat)) (-1)) where
 mem:=by simp
 obj:=λi h st b hb=>by
  have e:b=it:=by simpa using hb
  subst e;exact #[_,st,λv z=>by
   have z':Data.fields _=Data.cell v:=z;cases z']
 keep:=λi h h' st k=>k it (by simp) _ st
 item:=by
  intro X hP hw hK hc i LI s U H E I hf st hg;subst hP hw hK;obtain ⟨f0,f1,f2,f3,f4,f5⟩:=hf it (by simp);have W:=Walks.range (prog:=X.prog) (w:=X.w) (I.ok.hd hc) it hi (-1) n;refine W.item i s _ _ hg st λv h' tk hv st' kk=>?_;obtain ⟨t,rfl⟩:=hv;have I1:Inv X LI U H { s with heap:=h',toks:=tk }:=I.turned (λb o hb e=>kk b o (by simpa using hb) e) f0 f1 f3 f4 f5;refine #[_,rfl,lx (s:={ s with heap:=h',toks:=tk }) (n := "range_iterator") st' rfl rfl (by decide) #[.int (hi-i),H,I1,#[t,?_],#[rfl,rfl],st',λb hb=>(hf b hb).1]];rw[show hi+((i:Nat):Int)*(-1)=hi-i by lia]
 done:=by
  intro X hP hw hK hc i LI s U H E I hf st hg;subst hP hw hK;obtain ⟨f0,f1,f2,f3,f4,f5⟩:=hf it (by simp);exact wpAny_pyNext_range_end (I.ok.hd hc) st (by have:n<=i:=hg;lia) λh' eb=>#[rfl,I.turned (t':=s.toks) (λb o hb e=>eb b o hb e) f0 f1 f3 f4 f5]
 self:=λ_ _ _ _ _ st h=>wpAny_pyIter_rangeiter st h
def zV (a b:Int):Builtin.Range.rangeSize a b (-1)=if a>b then a-b else 0:=by
 unfold Builtin.Range.rangeSize;rw[ag (by decide)];split
 .rw[show -(-1:Int)=1 from rfl,Int.ediv_one];lia
 .rfl
def FI {a b:Int}(ha:-(2^62)<=a)(ha':a<2^62)(hb:-(2^62)<=b)(hb':b<2^62):Builtin.Range.small a b (-1)=true:=by
 unfold Builtin.Range.small;rw[zV];simp only[Builtin.Range.rangeFitsLong,d6,kU,decide_eq_true_eq,beq_iff_eq,show ¬ (-1:Int)>0 by decide,if_false];split<;>lia
section
variable {X:Cx}{tg:Expr}
def FJ {R:It->Hp->Prop}{E:Value->Shared->Prop}{hi lo:Int}{t u v:Tok}{tk:Nat}(I:Inv X LI U H s)(h1:-(2^62)<=hi)(h2:hi<2^62)(h3:-(2^62)<=lo)(h4:lo<2^62)
  (q:R (ItF hi (hi-lo).toNat) H):wpAny (model X.prog X.w) X.A (pyIter (.ref s.heap.objs.size)) (PIE X LI U tg R) E { s with heap:=s.heap.push { cls:=.type "range",data:=.fields (List.toArray [.int hi t,.int lo u,.int (-1) v]) },toks:=tk }:=by
 refine wpAny_pyIter_range (IsRange.new ..) (FI h1 h2 h3 h4) ?_;have I1:Inv X LI U H { s with heap:=s.heap.push { cls:=.type "range",data:=.fields (List.toArray [.int hi t,.int lo u,.int (-1) v]) },toks:=tk }:=I.kept λb o e=>aU _ e;refine #[(s.heap.push { cls:=.type "range",data:=.fields (List.toArray [.int hi t,.int lo u,.int (-1) v]) }).objs.size,[(s.heap.push { cls:=.type "range",data:=.fields (List.toArray [.int hi t,.int lo u,.int (-1) v]) }).objs.size],_,_,H,rfl,
  I1.kept (t':=tk) λb o e=>aU _ e,FH _ hi (hi-lo).toNat,?_,λb hb=>?_,q]
 .have e1:hi+((0:Nat):Int)*(-1)=hi:=by simp
  have e2:(((hi-lo).toNat:Nat):Int)-((0:Nat):Int)=Builtin.Range.rangeSize hi lo (-1):=by rw[zV];split<;>lia
  show IsRangeIter _ _ (hi+((0:Nat):Int)*(-1)) ((((hi-lo).toNat:Nat):Int)-((0:Nat):Int)) (-1);rw[e1,e2];exact cQ _ rfl
 .have e:b=(s.heap.push { cls:=.type "range",data:=.fields (List.toArray [.int hi t,.int lo u,.int (-1) v]) }).objs.size:=by simpa using hb
  subst e;exact I1.fpOk (ai _) (I1.hok.fresh (ai _))
inductive zW (R:It->Hp->Prop)(vs:List V)(H1:Hp):Prop
 | c:∀(i j:Int),vs=[.int i,.int j,.int (-1)]->(-(2^62)<=i/\i<2^62/\-(2^62)<=j/\j<2^62)->R (ItF i (i-j).toNat) H1->zW R vs H1
def FK (ta:TA):TI:=λU H R=>ta U H λvs H1=>zW R vs H1
def FL {a b c:Expr}{p pos:Pos}(hg:Gl X "range")(hm:X.mg "range" = none)(ha:PA X [a,b,c] ta)(hs:starEach [a,b,c] X.env=[(false,eval a X.env),(false,eval b X.env),(false,eval c X.env)]:=by rfl)(hs2:starEach [b,c] X.env=[(false,eval b X.env),(false,eval c X.env)]:=by rfl) :
  PI X tg (.Call (.Name "range" p) [a,b,c] [] pos) (FK ta):=by
 intro LI s U H R I h;refine Call_ (gI I hg hm boot_range (PyProof.Rows.callWith_type1 (thn (ha pos LI s U H _ I h) λus s1 zq0=>?_) (by rw[hs,hs2]) (by rw[hs2];rfl)));obtain ⟨vs,H1,I1,r1,q1⟩:=zq0;obtain ⟨i,j,e,⟨q1,q2,q3,q4⟩,q⟩:=q1;subst e;cases r1 with
 | cons r rr=>
  cases rr with
  | cons r' rr=>
   cases rr with
   | cons r2 rr=>
    cases rr
    obtain ⟨t,rfl⟩:=r;obtain ⟨t',rfl⟩:=r';obtain ⟨t2,rfl⟩:=r2;exact call_range_3 (by decide) (FJ I1 q1 q2 q3 q4 q) (ar (PyProof.noPylong_small (by decide)))
end
def FM {hi:Int}{n:Nat}{g:TG}{tb:TS}{D:Ends}{U:St}{H:Hp}(Pv:Nat->St->Hp->Prop)(h0:Pv 0 U H)
  (hs:∀ i U H,i<n->Pv i U H->g (.int (hi-i)) U H λU2 H2=>tb { D with nx:=Pv (i+1),ct:=Pv (i+1),bk:=D.nx } U2 H2) (hd:∀ U H,Pv n U H->D.nx U H) :
  ∃ W:Nat->Nat->St->Hp->Prop,(∃ m,W 0 m U H)/\∀ i m U H,W i m U H->
   ((ItF hi n).stop i H/\D.nx U H)\/((ItF hi n).go i H/\∃ N:St->Hp->Prop,(∀ U' H',N U' H'->∃ m',m'<m/\W (i+1) m' U' H')/\∀ x H',(ItF hi n).yld i H x H'->g x U H' λU2 H2=>tb { D with nx:=N,ct:=N,bk:=D.nx } U2 H2):=by
 refine #[λi m U H=>m=n-i/\i<=n/\Pv i U H,#[n,by simp,bG _,h0],?_];rintro i m U H ⟨rfl,hi,p⟩;by_cases hlt:i<n
 .refine .inr #[hlt,Pv (i+1),λU' H' p'=>#[n-(i+1),by lia,rfl,hlt,p'],λx H' y=>?_];obtain ⟨e,y⟩:=y;subst e y;exact hs i U _ hlt p
 .have e:i=n:=by lia
  subst e;exact .inl #[ai _,hd U H p]
mutual
inductive RD (H:Hp):V->PyData->List Addr->Prop
 | non:RD H .non .none []
 | bl (b:Bool):RD H (.bl b) (.bool b) []
 | int (i:Int):RD H (.int i) (.int i) []
 | str (x:Str):RD H (.str x) (.str x) []
 | lst {a:Addr} {xs:List V} {ds:List PyData} {as:List Addr}:H a=some (.lst xs)->RDs H xs ds as->RD H (.ref a) (.list ds) (a::as)
 | tup {a:Addr} {xs:List V} {ds:List PyData} {as:List Addr}:H a=some (.tup xs)->RDs H xs ds as->RD H (.ref a) (.tuple ds) as
 | dic {a:Addr}:H a=some (.dK [])->RD H (.ref a) (.dict []) [a]
inductive RDs (H:Hp):List V->List PyData->List Addr->Prop
 | nil:RDs H [] [] []
 | cons {x:V} {xs:List V} {d:PyData} {ds:List PyData} {as bs:List Addr}:RD H x d as->RDs H xs ds bs->RDs H (x::xs) (d::ds) (as++bs)
end
section
variable {X:Cx}{LI:List (Addr×Obj)}{U:St}{H:Hp}{s:Shared}
mutual
def RD.reads (I:Inv X LI U H s):∀{x:V} {d:PyData} {as:List Addr} {u:Value},RD H x d as->RelV x u->Reads s.heap u d as
 | _,_,_,_,.non,r=>by
  cases r
  exact .none
 | _,_,_,_,.bl b,r=>by
  cases r
  exact .bool b
 | _,_,_,_,.int i,r=>by
  obtain ⟨t,rfl⟩:=r;exact .int i t
 | _,_,_,_,.str x,r=>by
  obtain ⟨t,rfl⟩:=r;exact .str x t
 | _,_,_,_,.lst (a:=a) (xs:=xs) e t,r=>by
  cases r
  obtain ⟨_,its,n,rv,h1⟩:=(show bB X.prog X.w H s.heap a (.lst xs) from I.hok a _ e);exact .list h1 rfl rfl (RDs.reads I t rv)
 | _,_,_,_,.tup (a:=a) (xs:=xs) e t,r=>by
  cases r
  obtain ⟨_,its,rv,p⟩:=(show bB X.prog X.w H s.heap a (.tup xs) from I.hok a _ e);obtain ⟨o,h1,h2,n,h3⟩:=(show s.heap.IsTuple a its.toArray from p);exact .tuple h1 h2 h3 (RDs.reads I t rv)
 | _,_,_,_,.dic (a:=a) e,r=>by
  cases r
  obtain ⟨_,_,vs,rel,o,es,ep,h1,h2,h3,h4,h5,h6⟩:=(show bB X.prog X.w H s.heap a (.dK []) from I.hok a _ e);cases rel
  have e0:es.toList=[]:=by
   have:=h5.length;exact List.length_eq_zero_iff.mp this
  have:=Reads.dict (kvs:=[]) (as:=[]) (bs:=[]) h1 h2.1 h3 (by rw[e0];exact .nil) (by rw[e0];exact .nil);exact this
def RDs.reads (I:Inv X LI U H s):∀{xs:List V} {ds:List PyData} {as:List Addr} {us:List Value},RDs H xs ds as->Vals xs us->ReadsAll s.heap us ds as
 | _,_,_,_,.nil,.nil=>.nil
 | _,_,_,_,.cons r t,.cons rv q=>.cons (RD.reads I r rv) (RDs.reads I t q)
end
end
inductive uk (xs:List V)(H:Hp)(Q:VK):Prop
 | c:∀(a:Addr) (d:PyData) (as:List Addr),xs=[.ref a]->RD H (.ref a) d as->d.showable=true->(d.hasDict=true->sysModules∉as)->d.depth<=8->d.shown.length<=sizeLine->Q (.str d.shown) H->uk xs H Q
def zX {X:Cx}(hg:X.A.guards=some [])(hu:X.A.units+16<cLine):cT X (.builtin "repr") uk:=by
 intro LI s U H xs us Q I r h;obtain ⟨a,d,as,rfl,rd,h1,h2,h3,h4,q⟩:=h;obtain ⟨u,rfl,rx⟩:=fE r;have rr:=rd.reads I rx;cases rx
 exact repr_of_reads' rr h1 h2 hg (by lia) (λb o e=>e) (λh' u tk k=>#[.str d.shown,H,Inv.kept (t':=tk) I k,#[u,rfl],q]) h4
structure um (scope:Scope)(ps caps:List Str):Prop where
 kind:scope.kind=.function
 co:scope.isCoroutine=false
 gen:scope.isGenerator=false
 nocell:∀ x∈scope.names,x.2≠.cell
 par:∀ x∈ps,scope.names.lookup x=some .local
 cap:∀ x∈caps,scope.names.lookup x=some .free
 nd:(ps++caps).Nodup
def jU (P:Program)(w:World)(K:Frag)(mg:Str->Option Value)(base:Heap)(N:List Str)(qual:Str)(scope:Scope)(f:Addr)(cd:Value)(cl:List (Str×Addr))(A:Around)(outer:List Env)(s:Shared)(H:Hp):Cx where
 prog:=P
 w:=w
 K:=K
 mg:=mg
 base:=base
 A:=A.deeper (W.envX qual scope s.heap.objs.size f cd cl)
 N:=N
 s₀:=s
 H₀:=H
 env:=W.envX qual scope s.heap.objs.size f cd cl
 outer:=outer
 stack:=W.envX qual scope s.heap.objs.size f cd cl::outer
 ex:=[]
 calm:=true
 fn:=λ_=>false
 pn:=[]
 xe:=λ_ _=>False
def lU (c:Addr)(q:Str):Heap->Prop:=λh=>h.CodeRec (.ref c) q
def i0 (H:Hp)(c:Addr)(q:Str):Prop:=H c=some (.ext (lU c q))
def FN (h1 h2:Heap)(x:lU c q h1)(k:∀ o,h1.get? c=some o->h2.get? c=some o):lU c q h2:=by
 obtain ⟨c',o,vs,t,e,ho,r⟩:=x;cases e
 exact #[c,o,vs,t,rfl,k o ho,r]
def i0.rec {w:World}{h:Heap}{c:Addr}(x:i0 H c q)(ok:HOk P w H h):h.CodeRec (.ref c) q:=(ok c _ x).1
def zY {x:Str}{u:Value}:∀{ps:List Str} {us:List Value} {i:Nat},ps.Nodup->ps[i]?=some x->us[i]?=some u->(ps.zip us).reverse.lookup x=some u
 | [],_,_,_,e,_=>by simp at e
 | _::_,[],_,_,_,e=>by simp at e
 | p::ps,v::us,0,hn,e1,e2=>by
  have e1:p=x:=by simpa using e1
  have e2:v=u:=by simpa using e2
  subst e1 e2;rw[sL,nv,List.lookup_append];have z:(ps.zip us).reverse.lookup p=none:=by
   rw[List.lookup_eq_none_iff];intro y hy;have:=kJ (kW.mp hy);simp only[beq_eq_false_iff_ne,ne_eq,bne_iff_ne];intro q;rw[dN]at hn
   first
    | exact hn.1 (q ▸ this.1)
    | (rw[q]at hn;exact hn.1 this.1)
  rw[z];simp
 | p::ps,v::us,i+1,hn,e1,e2=>by
  rw[dN]at hn;have ih:=zY (ps:=ps) (us:=us) (i:=i) hn.2 (by simpa using e1) (by simpa using e2);rw[sL,nv,List.lookup_append,ih];rfl
inductive lV (n:Nat)(tb:TE)(vcs:List V)(c:Addr)(q:Str)(vs:List V)(H:Hp)(Q:VK)(w_1:XK):Prop
 | c:vs.length=n->i0 H c q->tb (vs.map some++vcs.map some) H Q->lV n tb vcs c q vs H Q w_1
def FO {K:Frag}{base:Heap}{k:Nat}{f c:Addr}{name qual:Str}{params:Arguments}{body:Expr}{cl:List (Str×Addr)}{pm ctv:Value}{vcs:List V}
  (S:um scope ps caps) (hf:base.get? f=some (W.kla_obj name qual params body scope cl pm c ctv)) (hlen:vcs.length=caps.length)
  (hcap:∀(j:Nat) (x:Str) (v:V),caps[j]?=some x->vcs[j]?=some v->∃ a u,cl.lookup x=some a/\base.IsCell a (some u)/\RelV v u)
  (hcell:∀ x a,cl.lookup x=some a->∃ v,base.IsCell a v) (hinj:∀ x y a,cl.lookup x=some a->cl.lookup y=some a->x=y) (hhas:∀ x,scope.names.lookup x=some .free->∃ a,cl.lookup x=some a)
  (hb:∀(A:Around) (outer:List Env) (s:Shared) (H:Hp),Room k (A.deeper (W.envX qual scope s.heap.objs.size f (.ref c) cl))->PE (jU P w K mg base (ps++caps) qual scope f (.ref c) cl A outer s H) body tb) :
  FnOk P w K mg base CX0 (k+1) f (W.kla_fn name qual params body scope cl pm (.ref c) ctv) ps (lV ps.length tb vcs c qual):=by
 refine #[λvs H Q E h=>h.1,λA outer s H args us vs Q E hr e0 hbind r hsp=>?_];obtain ⟨hl,hc,hq⟩:=hsp;have bk:∀ b o,base.get? b=some o->s.heap.get? b=some o:=λb o e=>(e0.bs b o e).1;have hul:us.length=ps.length:=by rw[<-r.length];exact hl
 refine W.kla_callFunE hr.depth (bk _ _ hf) rfl S.co S.gen rfl (hc.rec e0.hok) ?_;refine hbind _ _ _ _ ?_;refine wpAny_newFunctionEnv S.nocell (λy hy=>S.par _ (kJ hy).1) (λh1 hns hsb=>#[(e0.mod.nolimit.keeps bk).fresh _ hsb,?_]) S.kind;show codeAny _ _ (.expr body (W.envX qual scope s.heap.objs.size f (.ref c) cl)) _ _;have hk:∀ b o,s.heap.get? b=some o->h1.get? b=some o:=λb o e=>hsb.extBut b o (bh (aJ e)) (aU _ e);have cellK:∀ a v,base.IsCell a v->h1.IsCell a v/\H a=none:=λa v ⟨o,ho,hd⟩=>#[#[o,hk _ _ (bk _ _ ho),hd],(e0.bs _ _ ho).2];have ndps:ps.Nodup:=(fO.mp S.nd).1;have noA:∀ b:Addr,b∉([]:List Addr):=λb z=>absurd z (by simp);have I:Inv (jU P w K mg base (ps++caps) qual scope f (.ref c) cl A outer s H) [] (vs.map some++vcs.map some) H { s with heap:=h1,toks:=s.toks+(ps.zip us).length }:=by
  refine #[#[e0.mod,S.kind,rfl,rfl,ai _,hinj,λy hy=>?_,λy a z _=>(by cases z),λ_=>hr.hd,Around.frames_deeper e0.frames,.inr #[rfl,rfl],λb z=>absurd z (noA b),e0.bs,e0.bsz,λb _ _=>noA b,λb z=>absurd z (noA b),e0.funs,e0.frf],
   rfl,e0.bare,Un.kept hk,#[_,hns,λi y v h1' h2 h3=>?_],λy a h=>?_,e0.hok.fresh (ai _),λy a h=>?_,λp hp=>absurd (show p∈([]:List (Addr×Obj)) from hp) (by simp),e0.hok.kept hk,?_]
  .have hy:scope.names.lookup y=some .cell\/scope.names.lookup y=some .free:=hy;rcases hy with hy|hy
   .exact absurd rfl (S.nocell _ (PySem.mem_of_lookup hy))
   .exact hhas y hy
  .have h1':(ps++caps)[i]?=some y:=h1';by_cases hi:i<ps.length
   .rw[fZ hi]at h1';rw[fZ (by rw[aq];lia),aY]at h2;cases e:vs[i]? with
    | none=>rw[e]at h2;cases h2
    | some v'=>
     rw[e]at h2;cases h2
     obtain ⟨u,hu,ru⟩:=r.get e;exact #[u,ru,.inl #[S.par y (cB h1'),zY ndps h1' hu]]
   .rw[eF (by lia)]at h1';rw[eF (by rw[aq];lia),aq,aY]at h2;cases e:vcs[i-vs.length]? with
    | none=>rw[e]at h2;cases h2
    | some v'=>
     rw[e]at h2;cases h2
     rw[hl]at e;obtain ⟨a,u,e1,e2,ru⟩:=hcap _ _ _ h1' e;exact #[u,ru,.inr #[.inr (S.cap y (cB h1')),a,e1,(cellK _ _ e2).1]]
  .obtain ⟨v,z⟩:=hcell y a h;exact #[v,(cellK _ _ z).1]
  .obtain ⟨v,z⟩:=hcell y a h;exact (cellK _ _ z).2
  .show (vs.map some++vcs.map some).length=(ps++caps).length;rw[aV,aV,aq,aq,hl,hlen]
 refine W.kla_codeExpr (dM (hb A outer s H (hr.deeper _) [] _ _ H Q I hq) (λu s' hu=>?_) λ_ _ z=>(show False from z).elim);obtain ⟨v,H',J,rv,q⟩:=hu;exact #[v,H',J.os,J.bare,J.base,J.hok,rv,q]
def Gro (Pt:Addr)(H H':Hp):Prop:=∀ b o,b≠Pt->H b=some o->H' b=some o
def Gro.refl (Pt:Addr)(H:Hp):Gro Pt H H:=λ_ _ _ h=>h
structure cU (H:Hp)(Pt:Addr)(pos:Pos)(q:Str):Prop where
 ex:∃ tab:Array Value,H Pt=some (.tbl tab)/\TriplesOk tab.toList/\(codeAmong pos tab.toList=none\/∃ c,codeAmong pos tab.toList=some (.ref c)/\i0 H c q)
def cU.ext (x:cU H Pt pos q)(e:Ext H H'):cU H' Pt pos q:=by
 obtain ⟨tab,h1,h2,h3⟩:=x.ex;refine #[tab,e _ _ h1 nofun,h2,?_];rcases h3 with h3|⟨c,h3,h4⟩
 .exact .inl h3
 .exact .inr #[c,h3,e _ _ h4 nofun]
def cU.gro (x:cU H Pt pos q)(e:Gro P2 H H')(hne:Pt≠P2)(h2:∃ tab,H P2=some (.tbl tab)):cU H' Pt pos q:=by
 obtain ⟨tab,h1,h3,h4⟩:=x.ex;refine #[tab,e _ _ hne h1,h3,?_];rcases h4 with h4|⟨c,h4,h5⟩
 .exact .inl h4
 .refine .inr #[c,h4,e _ _ (λz=>?_) h5];obtain ⟨tab2,y⟩:=h2;rw[<-z,show H c=_ from h5]at y;cases y
def BMAt (mg:Str->Option Value)(base:Heap):Prop:=∃ bm o,mg "__builtins__" = some (.ref bm)/\bm≠builtinsNs/\bm≠mainGlobals/\base.get? bm=some o/\o.cls=.type "module"/\o.dict=some builtinsNs/\o.data=.plain
section
variable {X:Cx}{LI:List (Addr×Obj)}{U:St}{H:Hp}{s:Shared}{params:Arguments}{body:Expr}{scope:Scope}{lpos:Pos}{c Pt:Addr}{Q:Value->Shared->Prop}
def FP {c':Addr}{q:Str}{tab more:Array Value}{h':Heap}{tk:Nat}(I:Inv X LI U H s)(hP:H Pt=some (.tbl tab))(hx:∀ b o,b≠Pt->s.heap.get? b=some o->h'.get? b=some o)(hge:s.heap.objs.size<=c')
  (hrec:h'.CodeRec (.ref c') q) (htb:h'.get? Pt=some (W.tabObj (tab++more))):Inv X LI U (upd (upd H Pt (.tbl (tab++more))) c' (.ext (lU c' q))) { s with heap:=h',toks:=tk }:=by
 have hfr:H c'=none:=I.hok.fresh hge;have nPc:Pt≠c':=au hP hfr;have low:∀ b u,H b=some u->b≠c':=λb u e=>au e hfr;have lows:∀ b o,s.heap.get? b=some o->b≠c':=λb o e=>bh (aO (aJ e) hge);have nP:∀ b,H b=none->b≠Pt:=λb n z=>by rw[z,hP]at n;cases n
 refine I.un (t':=tk) #[λb o e n _ _=>hx b o (nP b n) e,λb o e n _ _=>#[o.slots,hx b o (nP b n) e],λb o e n _=>?_,λb o e _=>?_,λb xs e=>?_,λb o u e=>?_,λb ps e=>?_] λa o e=>?_
 .rw[ak (lows b o e),ak (nP b n)];exact n
 .by_cases z:b=Pt
  .exact #[_,by rw[z];exact htb]
  .exact #[o,hx b o z e]
 .rw[ak (low b _ e),ak (λz=>by rw[z,hP]at e;cases e)]
  exact e
 .rw[ak (low b _ e),ak (λz=>by rw[z,hP]at e;cases e)]
  exact e
 .by_cases z:b=Pt
  .rw[z,hP]at e;cases e
   exact #[more,by rw[z,ak nPc,aj]]
  .exact #[(List.toArray []),by rw[ak (low b _ e),ak z,e];simp]
 .by_cases z:a=c'
  .subst z;rw[aj]at e;cases e
   obtain ⟨c2,o2,vs,t,e2,ho2,r2⟩:=id hrec;cases e2
   exact #[hrec,#[o2,ho2],λh1 h2 x k=>FN h1 h2 x k]
  .rw[ak z]at e;by_cases y:a=Pt
   .subst y;rw[aj]at e;cases e
    exact htb
   .rw[ak y]at e;refine (I.hok a o e).stay (λb u hb q=>hx b u ?_ q) (λb q=>?_) λb xs q=>?_
    .rcases hb with rfl|hb
     .exact y
     .intro z2;rw[z2,hP]at hb;cases hb
    .rw[ak (low b _ q),ak (λz2=>by rw[z2,hP]at q;cases q)]
     exact q
    .rw[ak (low b _ q),ak (λz2=>by rw[z2,hP]at q;cases q)]
     exact q
def FQ (I:Inv X LI U H s)(hdef:defaultsOf params X.env=([],[]))(hfr:∀ x,(x,NameKind.free)∈scope.names->(X.env.kindOf x=some .cell\/X.env.kindOf x=some .free))(hcode:X.env.code=.ref c)(hC:codeHdIn X.K c Pt=true)(hBM:BMAt X.mg X.base)
  (hT:cU H Pt lpos (X.env.qual ++ "<lambda>"))
  (h:∀(f c':Addr) (cl:List (Str×Addr)) (pm ctv:Value) (H':Hp) (s':Shared),iX scope X.env cl->Inv X LI U H' s'->s'.heap.get? f=some (W.kla_obj "<lambda>" (X.env.qual ++ "<lambda>") params body scope cl pm c' ctv)->H' f=none->s.heap.objs.size<=f->
   Gro Pt H H'->cU H' Pt lpos (X.env.qual ++ "<lambda>")->i0 H' c' (X.env.qual ++ "<lambda>")->Q (.ref f) s') :
  wpAny (model X.prog X.w) X.A (eval (.Lambda params body scope lpos) X.env) Q X.xe s:=by
 obtain ⟨cl,hcl⟩:=oa (scope:=scope) (env:=X.env) λx hx=>I.ok.has x (hfr x hx);obtain ⟨tab,hP,ht,hor⟩:=hT.ex;have hPo:s.heap.get? Pt=some (W.tabObj tab):=I.hok Pt _ hP;have C:W.CodeHd s.heap c Pt:=(W.codeHd_of_K I.ok.mod.kin hC).keeps I.bk;have hgl:=I.mod.glob.keeps I.bk;have hgP:mainGlobals≠Pt:=λz=>by
  obtain ⟨o,es,ep,e,_⟩:=I.mod.glob;have:=(I.bs _ _ e).2;rw[z,hP]at this;cases this
 have hb:s.heap.BuiltinsAt X.mg Pt:=by
  obtain ⟨bm,o,b1,b2,b3,b4,b5⟩:=hBM;refine #[bm,o,b1,b2,b3,λz=>?_,I.bk _ _ b4,b5];have:=(I.bs _ _ b4).2;rw[z,hP]at this;cases this
 refine W.kla_eval hdef ?_;rcases hor with hnone|⟨c',hsome,hca⟩
 .refine W.kla_makeFunction (clos:=cl) hcl.eq I.ok.glob hgl hcode C hPo ht hnone hgP hb λc' ctv h' tk hx hge hlt hrec htb=>?_;have hx':∀ o2 b o,b≠Pt->s.heap.get? b=some o->(h'.push o2).get? b=some o:=λo2 b o n e=>aU _ (hx b o n e);have I':=FP (c':=c') (q:=X.env.qual ++ "<lambda>") (tk:=tk) I hP (hx' _) hge (hrec.push (W.kla_obj "<lambda>" (X.env.qual ++ "<lambda>") params body scope cl ((X.mg "__name__").getD .none) c' ctv)) (aU _ htb);have hsz:s.heap.objs.size<=h'.objs.size:=bf (cC hge hlt);have nPc:Pt≠c':=au hP (I.hok.fresh hge);have eT:(tab++(List.toArray [rawInt lpos.line,rawInt lpos.col,.ref c'])).toList=tab.toList++[rawInt lpos.line,rawInt lpos.col,.ref c']:=by simp
  have hTI:cU (upd (upd H Pt (.tbl (tab++(List.toArray [rawInt lpos.line,rawInt lpos.col,.ref c'])))) c' (.ext (lU c' (X.env.qual ++ "<lambda>")))) Pt lpos (X.env.qual ++ "<lambda>"):=
   #[_,by rw[ak nPc,aj],by rw[eT];exact TriplesOk_snoc _ _ _ _ ht,.inr #[c',by rw[eT];exact codeAmong_snoc _ ht hnone,aj]]
  refine h h'.objs.size c' cl _ ctv _ _ hcl I' (cQ _ rfl) ?_ hsz ?_ hTI aj
  .rw[ak (iE hlt),ak (λz=>?_)]
   .exact I.hok.fresh hsz
   .have:=aJ hPo;rw[<-z]at this;exact absurd this (hW.mpr hsz)
  .intro b o n e;rw[ak (au e (I.hok.fresh hge)),ak n];exact e
 .refine W.kla_makeFunctionHit (clos:=cl) hcl.eq I.ok.glob hgl hcode C hPo ht hsome hb λctv h' tk hk hsz=>?_;exact h h'.objs.size c' cl _ ctv H _ hcl (I.kept (t':=tk) λb o e=>aU _ (hk b o e)) (cQ _ rfl) (I.hok.fresh hsz) hsz (Gro.refl _ _) hT hca
end
def fH (X:Cx)(s:Shared)(H:Hp):Heap:=W.hideAll s.heap (trk s.heap H++frs X.stack)
def uo {h b1 b2:Heap}:∀{l:List Env},h.FunFrames b1 l->(∀ b∈frs l,b2.get? b=none)->h.FunFrames b2 l
 | [],_,_=>trivial
 | env::l,⟨h1,⟨L,o,h2,h3,h4,h5⟩,h6⟩,k=>by
  have m:∀ b∈frs l,b∈frs (env::l):=λb hb=>by
   unfold frs;rw[kI,h2];exact bE _ hb
  refine #[h1,#[L,o,h2,k L ?_,h4,h5],uo h6 λb hb=>k b (m b hb)];unfold frs;rw[kI,h2];exact bu
section
variable {X:Cx}{LI:List (Addr×Obj)}{U:St}{H:Hp}{s:Shared}
def uq {b:Addr}{o:Obj}(e:s.heap.get? b=some o)(n:H b=none)(hf:b∉frs X.stack):(fH X s H).get? b=some o:=
 W.hideAll_get _ e λhm=>by
  rcases bj.mp hm with z|z
  .have q:(H b).isSome=true:=(eD.mp z).2;rw[n]at q;cases q
  .exact hf z
def zZ {b:Addr}{o:Obj}(e:(fH X s H).get? b=some o):s.heap.get? b=some o/\H b=none/\b∉frs X.stack:=by
 have e1:=W.of_hideAll _ e;have hm:b∉trk s.heap H++frs X.stack:=λz=>by
  unfold fH at e;rw[W.hideAll_none _ z]at e;cases e
 rw[bj,not_or]at hm;refine #[e1,?_,hm.2];cases q:H b with
 | none=>rfl
 | some u=>exact absurd (eD.mpr #[dw.mpr (aJ e1),by rw[q];rfl]) hm.1
def z9 (I:Inv X LI U H s):∀ b o,X.base.get? b=some o->(fH X s H).get? b=some o:=λb o e=>by
 obtain ⟨h1,h2⟩:=I.bs b o e;refine uq h1 h2 λz=>?_;have:=(I.stack.mem z).1;rw[e]at this;cases this
def FR (I:Inv X LI U H s):Env0 X.prog X.w X.K X.mg (fH X s H) X.A X.stack s H:=by
 have sub:=z9 I;refine #[I.ok.frames,#[I.mod.kin.keeps sub,I.mod.glob.keeps sub,?_,I.mod.nolimit.keeps sub],λb o e=>#[(zZ e).1,(zZ e).2.1],dk (W.hideAll_size _ _),uo I.stack λb hb=>W.hideAll_none _ (bV _ hb),I.stkFree,I.hok,I.bare];obtain ⟨mb,h1,h2⟩:=I.mod.blt;exact #[mb,h1.keeps sub,h2]
end
structure FV (P:Program)(w:World)(K:Frag)(mg:Str->Option Value)(base:Heap)(k:Nat)(f:Addr)(ps:List Str)(sp:Sp):Prop where
 ex:∃ fd,FnOk P w K mg base CX0 k f fd ps sp/\gN K fd ps []/\W.FnAt f base
section
variable {X:Cx}
def FS (X:Cx)(kr:Nat)(tf:TE)(t:TA):TE:=λU H Q=>tf U H λx H1=>∃ f k ps sp,x=.ref f/\FV X.prog X.w X.K X.mg X.base k f ps sp/\k<=kr/\t U H1 λvs H2=>sp vs H2 Q E0
def ur {x:Str}{e:Expr}{es:List Expr}{t:TA}{p pos:Pos}(hr:Room kr X.A)(hf:PE X (.Name x p) tf)(ha:PA X (e::es) t)
  (he:starEach (e::es) X.env=(false,eval e X.env)::starEach es X.env:=by rfl) (hpl:(backTo pos (starEach es X.env)).any (·.1)=false:=by rfl):PE X (.Call (.Name x p) (e::es) [] pos) (FS X kr tf t):=by
 intro LI s U H Q I h;refine wpAny_Call_Name_kw (thn (hf LI s U H _ I h) λu s1 zq0=>?_);obtain ⟨x1,H1,I1,r1,q1⟩:=zq0;obtain ⟨f,k,ps,sp,rfl,hF,hk,q⟩:=q1;cases r1
 obtain ⟨fd,ok,bd,oc,od,fd2,sl,ho⟩:=hF.ex;refine W.callWith_F #[oc,od,fd2,sl,I1.bk _ _ ho] (thn (ha pos LI s1 U H1 _ I1 q) λus s2 zq0=>?_) he hpl;obtain ⟨vs,H2,I2,r,q2⟩:=zq0;refine #[#[oc,od,fd2,sl,I2.bk _ _ ho],?_];exact yk ok (hr.mono hk) bd .nil yW I2 r (by rw[bZ];exact q2)
structure lW (X:Cx)(params:Arguments)(body:Expr)(scope:Scope)(ps caps:List Str)(cap:List Nat):Prop where
 sc:um scope ps caps
 frees:∀ x,(x,NameKind.free)∈scope.names->(X.env.kindOf x=some .cell\/X.env.kindOf x=some .free)
 capAt:∀(j:Nat) (x:Str),caps[j]?=some x->∃ i:Nat,cap[j]?=some i/\X.N[i]?=some x/\(X.env.kindOf x=some .cell\/X.env.kindOf x=some .free)
 dflt:defaultsOf params X.env=([],[])
 binds:∀(cl:List (Str×Addr)) (pm cdv ct:Value) (us:List Value),us.length=ps.length->bindArgs (W.kla_fn "<lambda>" (X.env.qual ++ "<lambda>") params body scope cl pm cdv ct) #[us,[]]=pure (ps.zip us)
 own:∀ x,X.fn x=true
end
def FT {K:Frag}{mg mb:Str->Option Value}{k:Nat}{a:Addr}{x:Str}{s₁:Shared}{vs:List Value}{ns:List Int}{tabs:List (Addr×Addr)}
  (KX:K.In s₁.heap) (hns:s₁.heap.Ns mainGlobals mg) (hb:s₁.heap.Ns builtinsNs mb) (hbb:∀ x:Str,x ≠ "__name__"->mb x=bootBuiltins x) (hlim:s₁.heap.NoLimit) (hg:s₁.gens=(List.toArray [])) (hBM:BMAt mg s₁.heap)
  (hT:W.TabsAt tabs s₁.heap) (hKT:∀ q∈tabs,K.lookup q.2=none)
  (ha:s₁.heap.get? a=some { cls:=.type "list",data:=.seq vs.toArray }) (hi:IntsAre vs ns) (hl:ns.length<=sizeLine) (hr:Room k callerA)
  (F:∀ base:Heap,K.In base->base.Ns mainGlobals mg->BMAt mg base->FnOk P w K mg base CX k fa fd [x] sp) (hbind:∀(s:Shared) (u:Value),BindsTo s fd #[[u],[]] [(x,u)])
  (hsp:∀ H:Hp,(∀ q∈tabs,H q.2=some (.tbl (List.toArray [])))->SqL K H a (ns.map V.int)->sp [.ref a] H (λv _=>v=.bl true) λ_ _ _=>False)
  (hCX:∀ H e s',CX [] H s₁ (λ_ _ _=>False) e s'->False) :
  codeAny (model P w) callerA (.call (.ref fa) #[[.ref a],[]]) (λr s'=>r=.ok (.ret (.bool true))/\OldK s₁.heap s'.heap/\s'.os=s₁.os/\AllBare s'.gens) s₁:=by
 have rv:=yV hi;have lenV:=hi.length;have tabO:∀ b,b∈tabs.map (·.2)->s₁.heap.get? b=some (W.tabObj (List.toArray []))/\isCodeTable s₁.heap b/\K.lookup b=none:=λb hm=>by
  obtain ⟨q,hq,rfl⟩:=bC.mp hm;exact #[(hT q hq).2,((hT q hq).1.tab (hT q hq).2).isCodeTable,hKT q hq]
 have nat:a∉tabs.map (·.2):=λz=>by
  have:=(tabO a z).1;rw[ha]at this;cases this
 have core:∀ Hs:Hp,(∀ b,Hs b=none\/(b=a/\Hs b=some (.frz { cls:=.type "list",data:=.seq vs.toArray } (.lst (ns.map V.int)))))->(∀ H:Hp,(∀ b,b∉tabs.map (·.2)->H b=Hs b)->SqL K H a (ns.map V.int))->(Hs a≠none->K.lookup a=none)->
   codeAny (model P w) callerA (.call (.ref fa) #[[.ref a],[]]) (λr s'=>r=.ok (.ret (.bool true))/\OldK s₁.heap s'.heap/\s'.os=s₁.os/\AllBare s'.gens) s₁:=by
  intro Hs hO hS hK;obtain ⟨H,hH⟩:∃ H:Hp,H=λb=>if b∈tabs.map (·.2) then some (.tbl (List.toArray [])) else Hs b:=#[_,rfl]
  have H1:∀ b,b∈tabs.map (·.2)->H b=some (.tbl (List.toArray [])):=λb z=>by rw[hH];exact af z
  have H2:∀ b,b∉tabs.map (·.2)->H b=Hs b:=λb z=>by rw[hH];exact ag z
  have cases3:∀ b,H b=none\/(b=a/\H b=some (.frz { cls:=.type "list",data:=.seq vs.toArray } (.lst (ns.map V.int))))\/(b∈tabs.map (·.2)/\H b=some (.tbl (List.toArray []))):=λb=>by
   by_cases z:b∈tabs.map (·.2)
   .exact .inr (.inr #[z,H1 b z])
   .rcases hO b with y|⟨y1,y2⟩
    .exact .inl ((H2 b z).trans y)
    .exact .inr (.inl #[y1,(H2 b z).trans y2])
  have hok:HOk P w H s₁.heap:=λb u e=>by
   rcases cases3 b with y|⟨y1,y2⟩|⟨y1,y2⟩
   .rw[y]at e;cases e
   .rw[y2]at e;cases e
    subst y1;exact #[ha,by rw[aq];exact hl,vs,_,rv,ha]
   .rw[y2]at e;cases e
    exact (tabO b y1).1
  have base_of:∀{b:Addr} {o:Obj},s₁.heap.get? b=some o->H b=none->(hidT s₁.heap H).get? b=some o:=λe n=>C5 e n;have noD:∀{b:Addr} {o:Obj},s₁.heap.get? b=some o->(∀ xs n,o.data≠.seq xs n)->(∀ xs,o.data≠.fields xs)->H b=none:=λ{b o} e d1 d2=>by
   rcases cases3 b with y|⟨y1,y2⟩|⟨y1,y2⟩
   .exact y
   .subst y1;rw[ha]at e;cases e
    exact absurd rfl (d1 _ _)
   .rw[(tabO b y1).1]at e;cases e
    exact absurd rfl (d2 _)
  have nsK:∀{b:Addr} {m:Str->Option Value},s₁.heap.Ns b m->(hidT s₁.heap H).Ns b m:=λ{b m} ⟨o,es,ep,e,d,r⟩=>#[o,es,ep,base_of e (noD e (λ_ _ z=>by rw[d]at z;cases z) (λ_ z=>by rw[d]at z;cases z)),d,r]
  have hKb:K.In (hidT s₁.heap H):=λb o e=>base_of (KX b o e) (by
   rcases cases3 b with y|⟨y1,y2⟩|⟨y1,y2⟩
   .exact y
   .subst y1;rw[hK (by rw[<-H2 b nat,y2];exact λz=>nomatch z)]at e;cases e
   .rw[(tabO b y1).2.2]at e;cases e)
  have hM:Mod K mg (hidT s₁.heap H):=#[hKb,nsK hns,#[mb,nsK hb,hbb],let ⟨mc,h1,h2⟩:=hlim;#[mc,nsK h1,h2]];have hBMb:BMAt mg (hidT s₁.heap H):=by
   obtain ⟨bm,o,b1,b2,b3,b4,b5,b6,b7⟩:=hBM;exact #[bm,o,b1,b2,b3,base_of b4 (noD b4 (λ_ _ z=>by rw[b7]at z;cases z) (λ_ z=>by rw[b7]at z;cases z)),b5,b6,b7]
  have e0:Env0 P w K mg (hidT s₁.heap H) callerA [] s₁ H:=#[rfl,hM,λb o e=>C6 e,dk (C4 _ _),trivial,λb hb=>absurd (show b∈([]:List Addr) from hb) (by simp),hok,.of_eq hg];refine codeAny_mono ((F _ hKb (nsK hns) hBMb).run callerA [] s₁ H #[[.ref a],[]] [.ref a] [.ref a] _ _ hr e0 (hbind s₁ (.ref a)) (.cons rfl .nil) (hsp H (λq hq=>H1 _ (List.mem_map_of_mem hq)) (hS H H2))) λr s' h=>?_;cases r with
  | error e=>exact (hCX H e s' h).elim
  | ok fl=>
   cases fl with
   | next=>exact False.elim h
   | brk=>exact False.elim h
   | cont=>exact False.elim h
   | ret u=>
    obtain ⟨v,H',os,bare,un,hok',r',q⟩:=h;have q':v=.bl true:=q;subst q';obtain rfl:u=Value.bool true:=r';have keep:∀ b o,H b=none->s₁.heap.get? b=some o->s'.heap.get? b=some o:=λb o n e=>un.keep b o e n (by intro z;exact absurd (show b∈([]:List Addr) from z) (by simp)) (by simp);have frz:∀ b o,b=a->H b=some (.frz { cls:=.type "list",data:=.seq vs.toArray } (.lst (ns.map V.int)))->s₁.heap.get? b=some o->s'.heap.get? b=some o:=λb o y1 y2 e=>by
     obtain ⟨e1,_⟩:=hok b _ y2;obtain ⟨e2,_⟩:=hok' b _ (un.frzs b _ _ y2);rw[e]at e1;cases e1
     exact e2
    have tbl:∀ b,H b=some (.tbl (List.toArray []))->∃ ps,s'.heap.get? b=some (W.tabObj ps):=λb y=>by
     obtain ⟨more,e⟩:=un.tbls b _ y;exact #[_,hok' b _ e]
    refine #[rfl,#[λb o e=>?_,λb o e=>?_],os,bare]
    .rcases cases3 b with y|⟨y1,y2⟩|⟨y1,y2⟩
     .exact .inl (keep b o y e)
     .exact .inl (frz b o y1 y2 e)
     .obtain ⟨ps,hp⟩:=tbl b y2;obtain ⟨t1,t2,_⟩:=tabO b y1;rw[e]at t1;cases t1
      exact .inr (.inl #[t2,rfl,(List.toArray []),ps,rfl,by rw[Array.empty_append];exact hp])
    .rcases cases3 b with y|⟨y1,y2⟩|⟨y1,y2⟩
     .exact #[o,keep b o y e]
     .exact #[o,frz b o y1 y2 e]
     .obtain ⟨ps,hp⟩:=tbl b y2;exact #[_,hp]
 cases hk:K.lookup a with
 | some o=>
  have e:=KX a o hk;rw[ha]at e;cases e
  exact core (λ_=>none) (λ_=>.inl rfl) (λH _=>.inr #[_,vs.toArray,_,hk,rfl,rfl,rfl,by rw[bM,lenV];exact hl,by simpa using rv]) λz=>absurd rfl z
 | none=>
  refine core (λb=>if b=a then some (.frz { cls:=.type "list",data:=.seq vs.toArray } (.lst (ns.map V.int))) else none) (λb=>?_) (λH h=>.inl (.inr #[{ cls:=.type "list",data:=.seq vs.toArray },by rw[h a nat];exact af rfl])) λ_=>hk
  by_cases z:b=a
  .exact .inr #[z,af z]
  .exact .inl (ag z)
def FU {l:OpenLaw}{n k:Nat}{q:Program}{loose:List Str}{XP:(Str->Option Value)->Heap->Prop}{YP:World->Heap->Prop}{d:DefRec}{K:Params->Frag}{sp:World->Sp}{x:Str}{tabs:List (Addr×Addr)}
  (hn:l.most=some n) (hn2:n<=sizeLine) (hdf:d.params.defaults=[]) (hr:Room k callerA)
  (hY:∀(w:World) (h:Heap),YP w h->(K w.params).In h) (hYT:∀(w:World) (h:Heap),YP w h->∀ q∈tabs,h.get? q.2=some (W.tabObj (List.toArray [])))
  (hC:∀(w:World),∀ q∈tabs,codeHdIn (K w.params) q.1 q.2=true/\(K w.params).lookup q.2=none)
  (F:∀(w:World) (mg:Str->Option Value) (fa:Addr) (h:Heap),(K w.params).In h->h.Ns mainGlobals mg->mg d.name=some (.ref fa)->
   ∃ fd:FuncData,(∀(s:Shared) (u:Value),BindsTo s fd #[[u],[]] [(x,u)])/\
    ∀ base:Heap,(K w.params).In base->base.Ns mainGlobals mg->BMAt mg base->FnOk l.prog w (K w.params) mg base CX0 k fa fd [x] (sp w))
  (hsp:∀(w:World) (H:Hp) (a:Addr) (ns:List Int),ns.length<=n->(∀ q∈tabs,H q.2=some (.tbl (List.toArray [])))->SqL (K w.params) H a (ns.map V.int)->sp w [.ref a] H (λv _=>v=.bl true) λ_ _ _=>False) :
  W.WalkO q loose XP YP l.row.toRowW d [] (λf vs=>PySem.call f vs):=by
 refine Att.attach_call hn hdf λw s₀ s₁ mg mb fa o pm cd doc a vs ns G Y ho hd hcd hmg hobj hints hlen hg=>?_;have KX:=hY w _ Y;obtain ⟨fd,hb,hF⟩:=F w mg fa _ KX G.T.g hmg;have hBM:BMAt mg s₁.heap:=by
  obtain ⟨bm,ob,b1,b2,b3,b4,b5,b6⟩:=G.T.bmain;refine #[bm,ob,b1,b2,λz=>?_,b3,b4,b5,b6];obtain ⟨o,es,ep,e,hd,_⟩:=G.T.g;rw[z,e]at b3;cases b3
  rw[hd]at b6;cases b6
 exact FT (tabs:=tabs) KX G.T.g G.T.b G.T.builtins G.T.nolimit hg hBM (λq hq=>#[W.codeHd_of_K KX (hC w q hq).1,hYT w _ Y q hq]) (λq hq=>(hC w q hq).2) hobj hints (az hlen hn2) hr hF hb (λH hO hS=>hsp w H a ns hlen hO hS) λH e s' z=>z
structure DFT (K:Frag)(mg:Str->Option Value)(x:Str)(st:Stmt)(ps:List Str)(c Pt:Addr):Prop where
 ex:∃(f:Addr) (oc:Value) (od:Option Addr) (kV dc pm:Value) (an:Option Addr) (ct:Value) (osl:Array (Option Value)),K.lookup f=some #[oc,od,.func (fnOf x x (gf st) (fg st) (aH st) .none kV dc pm an (.ref c) ct),osl]/\
  codeIn K (.ref c) x=true/\keepIn K (.ref f)=true/\mg x=some (.ref f)/\gN K (fnOf x x (gf st) (fg st) (aH st) .none kV dc pm an (.ref c) ct) ps []
 hd:codeHdIn K c Pt=true
def DFT.ok {w:World}{K:Frag}{mg:Str->Option Value}{base:Heap}{st:Stmt}{N:List Str}{k:Nat}{sp:Sp}{c:Addr}(D:DFT K mg x st ps c Pt)(S:aP N ps (aH st))(len:∀ vs H Q E,sp vs H Q E->vs.length=ps.length)
  (hbody:∀(f:Addr) (A:Around) (outer:List Env) (s:Shared) (H:Hp) (vs:List V) (Q:VK) (E:XK),Room k (A.deeper (envOfC x (aH st) s.heap.objs.size f (.ref c)))->sp vs H Q E->
   ∃ t,PSs (cxOf CX0 P w K mg base N x (aH st) f (.ref c) A outer s H E).nox (fg st) t/\t { nx:=λ_ H'=>Q .non H',rt:=Q } (da N vs) H):FC P w K mg base (k+1) x ps sp:=by
 obtain ⟨f,oc,od,kV,dc,pm,an,ct,osl,lk,hcd,kp,m,bd⟩:=D.ex;refine #[f,_,yu lk hcd S len λA outer s H vs Q E hr hsp=>?_,bd,kp,m,oc,od,osl,lk];obtain ⟨t,h,q⟩:=hbody f A outer s H vs Q E hr hsp;exact #[t,h.nox,q]
def FW {K:Frag}{x:Str}{c Pt f:Addr}{oc:Value}{od:Option Addr}{fd:FuncData}{sl:Array (Option Value)}(a:nsIn K mainGlobals x=some (some (.ref f)))(l:K.lookup f=some #[oc,od,.func fd,sl])(t:tabIn K x=some (c,Pt)):fd.code=.ref c:=by
 unfold tabIn at t;rw[a]at t;dsimp only at t;rw[l]at t;dsimp only at t;split at t
 .rename_i c2 hc;split at t
  .split at t
   .cases t
    exact hc
   .cases t
  .cases t
 .cases t
def Aa {X:Cx}{params:Arguments}{body:Expr}{osc:Scope}{N:List Str}{cap:List Nat}(sc:um scope ps caps)
  (h1:∀ p∈scope.names,p.2=NameKind.free->osc.names.lookup p.1=some NameKind.cell) (h2:∀ p∈caps.zip cap,N[p.2]?=some p.1/\osc.names.lookup p.1=some NameKind.cell) (hl:caps.length=cap.length)
  (ho:X.env.scope=osc) (hN:X.N=N) (d:defaultsOf params X.env=([],[]))
  (b:∀(cl:List (Str×Addr)) (pm cdv ct:Value) (us:List Value),us.length=ps.length->bindArgs (W.kla_fn "<lambda>" (X.env.qual ++ "<lambda>") params body scope cl pm cdv ct) #[us,[]]=pure (ps.zip us))
  (o:∀ x,X.fn x=true):lW X params body scope ps caps cap:=by
 have hk:∀ x,X.env.kindOf x=osc.names.lookup x:=λx=>by
  unfold Env.kindOf;rw[ho]
 refine #[sc,λx hx=>.inl ?_,λj x hj=>?_,d,b,o]
 .rw[hk];exact h1 (x,.free) hx rfl
 .have hj':=(aN.mp hj).1;have hc:cap[j]?=some (cap[j]'(by lia)):=aw _;have hz:(caps.zip cap)[j]?=some (x,cap[j]'(by lia)):=by
   rw[List.getElem?_zip_eq_some];exact #[hj,hc]
  obtain ⟨a1,a2⟩:=h2 _ (cB hz);refine #[_,hc,?_,.inl ?_]
  .rw[hN];exact a1
  .rw[hk];exact a2
structure Sub (K:Frag)(mg:Str->Option Value)(b1 b2:Heap):Prop where
 mod:Mod K mg b1
 get:∀ b o,b1.get? b=some o->b2.get? b=some o
 size:b1.objs.size<=b2.objs.size
section
variable {P:Program}{w:World}{K:Frag}{mg:Str->Option Value}{b1 b2:Heap}{k:Nat}{f:Addr}{ps:List Str}{sp:Sp}
def FnOk.lift {fd:FuncData}(F:FnOk P w K mg b1 CX k f fd ps sp)(S:Sub K mg b1 b2):FnOk P w K mg b2 CX k f fd ps sp:=
 #[F.len,λA outer s H args us vs Q E hr e0=>F.run A outer s H args us vs Q E hr #[e0.frames,S.mod,λb o e=>e0.bs b o (S.get b o e),az S.size e0.bsz,uo e0.funs (λb hb=>by
  cases q:b1.get? b with
  | none=>rfl
  | some o=>
   have z:=(e0.funs.mem hb).1;rw[S.get b o q]at z;exact nomatch z),e0.frf,e0.hok,e0.bare]]
def FV.lift (F:FV P w K mg b1 k f ps sp)(S:Sub K mg b1 b2):FV P w K mg b2 k f ps sp:=by
 obtain ⟨fd,ok,bd,oc,od,fd2,sl,ho⟩:=F.ex;exact #[fd,FnOk.lift ok S,bd,oc,od,fd2,sl,S.get _ _ ho]
def FC.lift (F:FC P w K mg b1 k x ps sp)(S:Sub K mg b1 b2):FC P w K mg b2 k x ps sp:=by
 obtain ⟨f,fd,ok,r⟩:=F.ex;exact #[f,fd,FnOk.lift ok S,r]
def BMAt.lift (h:BMAt mg b1)(S:Sub K mg b1 b2):BMAt mg b2:=by
 obtain ⟨bm,o,h1,h2,h3,h4,h5⟩:=h;exact #[bm,o,h1,h2,h3,S.get _ _ h4,h5]
end
def FX (P:Program)(w:World)(K:Frag)(mg:Str->Option Value)(base:Heap)(kr:Nat)(tf:TE)(t:TA):TE:=λU H Q=>tf U H λx H1=>∃ f k ps sp,x=.ref f/\FV P w K mg base k f ps sp/\k<=kr/\t U H1 λvs H2=>sp vs H2 Q E0
def FY (P:Program)(w:World)(K:Frag)(mg:Str->Option Value)(base:Heap){X:Cx}{x:Str}{e:Expr}{es:List Expr}{t:TA}{p pos:Pos}(hr:Room kr X.A)(hf:PE X (.Name x p) tf)(ha:PA X (e::es) t)
  (h1:X.prog=P:=by rfl) (h2:X.w=w:=by rfl) (h3:X.K=K:=by rfl) (h4:X.mg=mg:=by rfl) (h5:X.base=base:=by rfl)
  (he:starEach (e::es) X.env=(false,eval e X.env)::starEach es X.env:=by rfl) (hpl:(backTo pos (starEach es X.env)).any (·.1)=false:=by rfl):PE X (.Call (.Name x p) (e::es) [] pos) (FX P w K mg base kr tf t):=by
 subst h1 h2 h3 h4 h5;exact ur hr hf ha he hpl
section
variable {X:Cx}{LI:List (Addr×Obj)}{U:St}{H:Hp}{s:Shared}
def uu (I:Inv X LI U H s):Sub X.K X.mg X.base (fH X s H):=#[I.ok.mod,z9 I,az I.env0.bsz (dk (W.hideAll_size _ _).symm)]
def uv (X:Cx)(n kf:Nat)(ps:List Str)(cap:List Nat)(Pt:Addr)(lpos:Pos)(tb:Heap->TE)(U:St)(H1:Hp)(q:Heap->Addr->Hp->Prop):Prop:=cU H1 Pt lpos (X.env.qual ++ "<lambda>")/\∃ vcs:List V,vcs.length=n/\(∀(j i:Nat) (v:V),cap[j]?=some i->vcs[j]?=some v->U[i]?=some (some v))/\
 ∀(base:Heap) (f c':Addr) (H2:Hp),Gro Pt H1 H2->cU H2 Pt lpos (X.env.qual ++ "<lambda>")->i0 H2 c' (X.env.qual ++ "<lambda>")->Sub X.K X.mg X.base base->FV X.prog X.w X.K X.mg base kf f ps (lV ps.length (tb base) vcs c' (X.env.qual ++ "<lambda>"))->q base f H2
def FZ {f c':Addr}{pm ctv:Value}{vcs:List V}{k n:Nat}(I:Inv X LI U H s)(L:lW X params body scope ps caps cap)(hcl:iX scope X.env cl)
  (ho:s.heap.get? f=some (W.kla_obj "<lambda>" (X.env.qual ++ "<lambda>") params body scope cl pm c' ctv)) (hn:H f=none) (hfr:∀ b∈frs X.stack,b<n) (hge:n<=f)
  (hv:vcs.length=caps.length) (hvs:∀(j i:Nat) (v:V),cap[j]?=some i->vcs[j]?=some v->U[i]?=some (some v))
  (hb:∀(f:Addr) (cd:Value) (cl:List (Str×Addr)) (A:Around) (outer:List Env) (s1:Shared) (H1:Hp),Room k (A.deeper (W.envX (X.env.qual ++ "<lambda>") scope s1.heap.objs.size f cd cl))->PE (jU X.prog X.w X.K X.mg (fH X s H) (ps++caps) (X.env.qual ++ "<lambda>") scope f cd cl A outer s1 H1) body tb) :
  FV X.prog X.w X.K X.mg (fH X s H) (k+1) f ps (lV ps.length tb vcs c' (X.env.qual ++ "<lambda>")):=by
 have nf:f∉frs X.stack:=λz=>absurd (aO (hfr f z) hge) (dv _);have hbf:=uq (X:=X) ho hn nf;have cellB:∀ x a v,X.env.cells.lookup x=some a->s.heap.IsCell a v->(fH X s H).IsCell a v:=λx a v e ⟨o,h1,h2⟩=>by
  refine #[o,uq h1 (I.freeC x a e) λz=>?_,h2];rcases aX.mp (I.stkSub a z) with y|y
  .exact I.cne x a e y
  .obtain ⟨_,o2,h3,_⟩:=I.ok.funs.mem y;exact absurd (aO (aJ h3) (I.ok.cab x a (L.own x) e)) (dv _)
 refine #[_,FO L.sc hbf hv (λj x v h1 h2=>?_) (λx a e=>?_) (λx y a h1 h2=>I.ok.inj x y a (hcl.sub x a h1) (hcl.sub y a h2)) (λx e=>?_) (λA outer s H hr=>hb f _ cl A outer s H hr),.all (L.binds cl pm (.ref c') ctv),#[_,_,_,_,hbf]]
 ·obtain ⟨i,e1,e2,e3⟩:=L.capAt j x h1;obtain ⟨m,hm,hl⟩:=I.loc;obtain ⟨u,ru,lk⟩:=hl i x v e2 (hvs j i v e1 h2) (by
   rcases e3 with z|z
   .exact .inr (.inl z)
   .exact .inr (.inr z))
  rcases lk with ⟨z,_⟩|⟨_,a,e4,e5⟩
  .rcases e3 with y|y
   .rw[y]at z;cases z
   .rw[y]at z;cases z
  .obtain ⟨a',e6⟩:=hcl.has x (PySem.mem_of_lookup (L.sc.cap x (cB h1)));have e7:=hcl.sub x a' e6;rw[e4]at e7;cases e7
   exact #[a,u,e6,cellB x a _ e4 e5,ru]
 .obtain ⟨v,z⟩:=I.cell x a (hcl.sub x a e);exact #[v,cellB x a v (hcl.sub x a e) z]
 .exact hcl.has x (PySem.mem_of_lookup e)
def Ab {tb:Heap->TE}{c Pt:Addr}{Qv:List Value->Shared->Prop}(I:Inv X LI U H s)
  (L:lW X params body scope ps caps cap) (hcode:X.env.code=.ref c) (hC:codeHdIn X.K c Pt=true) (hBM:BMAt X.mg X.base)
  (hb:∀(base:Heap) (f:Addr) (cd:Value) (cl:List (Str×Addr)) (A:Around) (outer:List Env) (s:Shared) (H:Hp),Sub X.K X.mg X.base base->Room kf (A.deeper (W.envX (X.env.qual ++ "<lambda>") scope s.heap.objs.size f cd cl))->PE (jU X.prog X.w X.K X.mg base (ps++caps) (X.env.qual ++ "<lambda>") scope f cd cl A outer s H) body (tb base))
  (hg:uv X caps.length (kf+1) ps cap Pt lpos tb U H q) (h:∀ f H2 s2,Inv X LI U H2 s2->q (fH X s2 H2) f H2->Qv [.ref f] s2):wpAny (model X.prog X.w) X.A (spliced [(false,eval (.Lambda params body scope lpos) X.env)]) Qv X.xe s:=by
 obtain ⟨hT,vcs,hv,hvs,q⟩:=hg;refine Calls.spliced_cons (FQ I L.dflt L.frees hcode hC hBM hT λf c' cl pm ctv H2 s2 hcl I2 ho hn hge hgr hT2 hca=>?_);have S:=uu I2;have hF:=FZ (k:=kf) (n:=s.heap.objs.size) (tb:=tb (fH X s2 H2)) I2 L hcl ho hn (λb hb=>by
  obtain ⟨_,o,e,_⟩:=I.stack.mem hb;exact aJ e) hge hv hvs (λf cd cl A outer s H hr=>hb _ f cd cl A outer s H S hr)
 exact Calls.spliced_nil (h f H2 s2 I2 (q _ f c' H2 hgr hT2 hca S hF))
def Ac {x:Str}{k:Nat}{g:Addr}{Q:VK}{us:List Value}{vs:List V}(I:Inv X LI U H s)(m:X.mg x=some (.ref g))(F:FC X.prog X.w X.K X.mg (fH X s H) j x qs sp)(hr:Room k X.A)(hjk:j<=k)(r:Vals vs us)(h:sp vs H Q E0) :
  wpAny (model X.prog X.w) X.A (call (.ref g) us) (EP X LI U Q) X.xe s:=by
 obtain ⟨g2,fd2,ok,bd,_,m2,_⟩:=F.ex;rw[m]at m2;cases m2
 refine wpAny_call (codeAny_mono (ok.run X.A X.stack s H #[us,[]] us vs Q E0 (hr.mono hjk) (FR I) (by simpa using bd s us I.kIn (by rw[bZ,<-r.length];exact ok.len _ _ _ _ h)) r h) λr s' hq=>?_);cases r with
 | error e=>exact False.elim hq
 | ok fl=>
  cases fl with
  | ret u=>exact I.after hq
  | next=>exact False.elim hq
  | brk=>exact False.elim hq
  | cont=>exact False.elim hq
end
section
variable {X:Cx}
def F1 (X:Cx)(n kf:Nat)(ps:List Str)(cap:List Nat)(Pt:Addr)(lpos:Pos)(tb:Heap->TE)(te:TE)(spH:Heap->Sp):TE:=λU H Q=>te U H λx1 H1=>uv X n kf ps cap Pt lpos tb U H1 λbase f H2=>spH base [x1,.ref f] H2 Q E0
def Ga {lpos p pos:Pos}{tb:Heap->TE}{spH:Heap->Sp}{k:Nat}{c Pt:Addr}
  (F:∀ base,Sub X.K X.mg X.base base->FC X.prog X.w X.K X.mg base j x qs (spH base)) (hr:Room k X.A) (h1:PE X e1 te) (L:lW X params body scope ps caps cap) (hcode:X.env.code=.ref c) (hC:codeHdIn X.K c Pt=true) (hBM:BMAt X.mg X.base)
  (hb:∀(base:Heap) (f:Addr) (cd:Value) (cl:List (Str×Addr)) (A:Around) (outer:List Env) (s:Shared) (H:Hp),Sub X.K X.mg X.base base->Room kf (A.deeper (W.envX (X.env.qual ++ "<lambda>") scope s.heap.objs.size f cd cl))->PE (jU X.prog X.w X.K X.mg base (ps++caps) (X.env.qual ++ "<lambda>") scope f cd cl A outer s H) body (tb base))
  (hjk:j<=k:=by decide) (hg:Gl X x:=by rfl) (hdb:(x==("__debug__" : Str))=false:=by decide) (he:starEach [e1,.Lambda params body scope lpos] X.env=(false,eval e1 X.env)::starEach [.Lambda params body scope lpos] X.env:=by rfl)
  (he2:starEach [.Lambda params body scope lpos] X.env=[(false,eval (.Lambda params body scope lpos) X.env)]:=by rfl) (hpl:(backTo pos (starEach [.Lambda params body scope lpos] X.env)).any (·.1)=false:=by rfl) :
  PE X (.Call (.Name x p) [e1,.Lambda params body scope lpos] [] pos) (F1 X caps.length (kf+1) ps cap Pt lpos tb te spH):=by
 intro LI s U H Q I h;obtain ⟨g,fd,_,_,kp,m,oc,od,osl,lk⟩:=(F X.base #[I.ok.mod,λ_ _ e=>e,ai _]).ex;refine wpAny_Call_Name_kw (nH I hg m ?_ hdb);refine W.callWith_K (h₀:=X.base) I.ok.mod.kin kp ?_ he hpl;rw[he];show wpAny _ _ (spliced ((false,eval e1 X.env)::backTo pos (starEach [.Lambda params body scope lpos] X.env))) _ _ s;refine Calls.spliced_cons (thn (h1 LI s U H _ I h) λu s1 zq0=>?_);obtain ⟨x1,H1,I1,r1,q1⟩:=zq0;rw[he2];show wpAny _ _ (spliced [(false,eval (.Lambda params body scope lpos) X.env)]) _ _ s1;exact Ab I1 L hcode hC hBM hb q1 λf H2 s2 I2 hsp=>#[I2.kIn,Ac I2 m (F _ (uu I2)) hr hjk (vs:=[x1,.ref f]) (.cons r1 (.cons rfl .nil)) hsp]
def Gb (X:Cx)(n kf:Nat)(ps:List Str)(cap:List Nat)(Pt:Addr)(lpos:Pos)(tb:Heap->TE)(te te2:TE)(spH:Heap->Sp):TE:=λU H Q=>te U H λx1 H1=>te2 U H1 λx2 H2=>uv X n kf ps cap Pt lpos tb U H2 λbase f H3=>spH base [x1,x2,.ref f] H3 Q E0
def Gc {lpos p pos:Pos}{tb:Heap->TE}{spH:Heap->Sp}{k:Nat}{c Pt:Addr}
  (F:∀ base,Sub X.K X.mg X.base base->FC X.prog X.w X.K X.mg base j x qs (spH base)) (hr:Room k X.A) (h1:PE X e1 te) (h2:PE X e2 te2) (L:lW X params body scope ps caps cap) (hcode:X.env.code=.ref c) (hC:codeHdIn X.K c Pt=true) (hBM:BMAt X.mg X.base)
  (hb:∀(base:Heap) (f:Addr) (cd:Value) (cl:List (Str×Addr)) (A:Around) (outer:List Env) (s:Shared) (H:Hp),Sub X.K X.mg X.base base->Room kf (A.deeper (W.envX (X.env.qual ++ "<lambda>") scope s.heap.objs.size f cd cl))->PE (jU X.prog X.w X.K X.mg base (ps++caps) (X.env.qual ++ "<lambda>") scope f cd cl A outer s H) body (tb base))
  (hjk:j<=k:=by decide) (hg:Gl X x:=by rfl) (hdb:(x==("__debug__" : Str))=false:=by decide) (he:starEach [e1,e2,.Lambda params body scope lpos] X.env=(false,eval e1 X.env)::starEach [e2,.Lambda params body scope lpos] X.env:=by rfl)
  (he2:starEach [e2,.Lambda params body scope lpos] X.env=[(false,eval e2 X.env),(false,eval (.Lambda params body scope lpos) X.env)]:=by rfl) (hpl:(backTo pos (starEach [e2,.Lambda params body scope lpos] X.env)).any (·.1)=false:=by rfl) :
  PE X (.Call (.Name x p) [e1,e2,.Lambda params body scope lpos] [] pos) (Gb X caps.length (kf+1) ps cap Pt lpos tb te te2 spH):=by
 intro LI s U H Q I h;obtain ⟨g,fd,_,_,kp,m,oc,od,osl,lk⟩:=(F X.base #[I.ok.mod,λ_ _ e=>e,ai _]).ex;refine wpAny_Call_Name_kw (nH I hg m ?_ hdb);refine W.callWith_K (h₀:=X.base) I.ok.mod.kin kp ?_ he hpl;rw[he];show wpAny _ _ (spliced ((false,eval e1 X.env)::backTo pos (starEach [e2,.Lambda params body scope lpos] X.env))) _ _ s;refine Calls.spliced_cons (thn (h1 LI s U H _ I h) λu s1 zq0=>?_);obtain ⟨x1,H1,I1,r1,q1⟩:=zq0;rw[he2];show wpAny _ _ (spliced ((false,eval e2 X.env)::[(false,eval (.Lambda params body scope lpos) X.env)])) _ _ s1;refine Calls.spliced_cons (thn (h2 LI s1 U H1 _ I1 q1) λu2 s2 zq0=>?_);obtain ⟨x2,H2,I2,r2,q2⟩:=zq0;exact Ab I2 L hcode hC hBM hb q2 λf H3 s3 I3 hsp=>#[I3.kIn,Ac I3 m (F _ (uu I3)) hr hjk (vs:=[x1,x2,.ref f]) (.cons r1 (.cons r2 (.cons rfl .nil))) hsp]
end
def Gd {K:Frag}{a:Addr}{xs ys:List V}{g:TG}{tb:TS}{D:Ends}{U:St}{H:Hp}(hlen:ys.length<=xs.length)(Pv:Nat->St->Hp->Prop)(h0:Pv 0 U H)(hl:∀ i U H,i<=ys.length->Pv i U H->SqL K H a xs/\SqL K H b ys)
  (hs:∀ i x y U H p,xs[i]?=some x->ys[i]?=some y->Pv i U H->H p=none->g (.ref p) U (upd H p (.tup [x,y])) λU2 H2=>tb { D with nx:=Pv (i+1),ct:=Pv (i+1),bk:=D.nx } U2 H2) (hd:∀ U H,Pv ys.length U H->D.nx U H) :
  ∃ W:Nat->Nat->St->Hp->Prop,(∃ m,W 0 m U H)/\∀ i m U H,W i m U H->((Itz K a b).stop i H/\D.nx U H)\/((Itz K a b).go i H/\∃ N:St->Hp->Prop,(∀ U' H',N U' H'->∃ m',m'<m/\W (i+1) m' U' H')/\∀ x H',(Itz K a b).yld i H x H'->g x U H' λU2 H2=>tb { D with nx:=N,ct:=N,bk:=D.nx } U2 H2):=by
 refine #[λi m U H=>i+m=ys.length/\Pv i U H,#[ys.length,by lia,h0],λi m U H zq0=>?_];obtain ⟨e,pv⟩:=zq0;obtain ⟨hS,hS'⟩:=hl i U H (by lia) pv;by_cases hi:i<ys.length
 .refine .inr #[#[xs,ys,xs[i]'(by lia),ys[i],hS,hS',aw (by lia),aw hi],Pv (i+1),λU' H' q=>#[m-1,by lia,by lia,q],λx H' y=>?_];obtain ⟨p,z,z',rfl,hp,hz,hz',rfl⟩:=y;exact hs i z z' U H p (hz xs hS) (hz' ys hS') pv hp
 .have:i=ys.length:=by lia
  subst this;exact .inl #[#[xs,ys,hS,hS',.inr (ai _)],hd U H pv]
end L2
namespace SetW
open PySem PySem.Spec PyProof.Rows
abbrev Up1 (l:List Nat):Prop:=l.Pairwise (· < ·)
structure Good (t:SetTable):Prop where
 up:Up1 t.place.toList
 no:t.dummies=(List.toArray [])
def uw {xs:Array Nat}(h:Up1 xs.toList){i k:Nat}(hi:i<k)(hk:k<xs.size):xs[i]'(by lia)<xs[k]:=by
 have:=cM.mp h i k (by simpa using (by lia:i<xs.size)) (by simpa using hk) hi;simpa using this
def ux (xs:Array Nat)(j:Nat)(hs:Up1 xs.toList):∀(f lo hi:Nat),hi-lo<=f->lo<=hi->hi<=xs.size->(∀ i (h:i<xs.size),i<lo->xs[i]<j)->(∀ i (h:i<xs.size),hi<=i->j<=xs[i])->
  SetTable.below.go xs j f lo hi<=xs.size/\(∀ i (h:i<xs.size),i<SetTable.below.go xs j f lo hi->xs[i]<j)/\(∀ i (h:i<xs.size),SetTable.below.go xs j f lo hi<=i->j<=xs[i])
 | 0,lo,hi,h1,h2,h3,h4,h5=>by
  unfold SetTable.below.go;exact #[by lia,h4,λi h k=>h5 i h (by lia)]
 | f+1,lo,hi,h1,h2,h3,h4,h5=>by
  unfold SetTable.below.go;by_cases c:lo<hi
  .have hm:(lo+hi)/2<xs.size:=by lia
   have hg:xs.getD ((lo+hi)/2) j=xs[(lo+hi)/2]:=by simp[Array.getD,hm]
   simp only[c,if_true,hg];by_cases d:xs[(lo+hi)/2]<j
   .simp only[d,if_true];refine ux xs j hs f _ _ (by lia) (by lia) h3 (λi h k=>?_) h5;rcases jw i ((lo+hi)/2) with z|z
    .exact jn (uw hs z hm) d
    .have:i=(lo+hi)/2:=by lia
     subst this;exact d
   .simp only[d,if_false];refine ux xs j hs f _ _ (by lia) (by lia) (by lia) h4 (λi h k=>?_);rcases jw ((lo+hi)/2) i with z|z
    .exact az (cf d) (bf (uw hs z h))
    .have:i=(lo+hi)/2:=by lia
     subst this;exact cf d
  .simp only[c,if_false];exact #[by lia,h4,λi h k=>h5 i h (by lia)]
def Ge (xs:Array Nat)(j:Nat)(hs:Up1 xs.toList):SetTable.below xs j<=xs.size/\(∀ i (h:i<xs.size),i<SetTable.below xs j->xs[i]<j)/\(∀ i (h:i<xs.size),SetTable.below xs j<=i->j<=xs[i]):=
 ux xs j hs xs.size 0 xs.size (by lia) (by lia) (ai _) (λi h k=>by lia) (λi h k=>by lia)
def Gf {xs:Array Nat}{j:Nat}(hs:Up1 xs.toList)(hn:xs[SetTable.below xs j]?≠some j):Up1 (SetTable.insertAt xs (SetTable.below xs j) j).toList:=by
 obtain ⟨r1,r2,r3⟩:=Ge xs j hs;generalize SetTable.below xs j=r at r1 r2 r3 hn ⊢;rw[SetTable.toList_insertAt];have hs':=hs;rw[<-eX r xs.toList]at hs';obtain ⟨p1,p2,p3⟩:=cX.mp hs';have gt:∀ i (h:i<xs.size),r<=i->j<xs[i]:=λi h k=>by
  have q:=r3 i h k;rcases Nat.lt_or_eq_of_le q with z|z
  .exact z
  .rcases Nat.lt_or_eq_of_le k with y|y
   .have h1:=r3 r (by lia) (ai _);have:=uw hs y h;lia
   .subst y;exact absurd (by rw[eJ h,<-z]) hn
 have lo:∀ a∈xs.toList.take r,a<j:=λa ha=>by
  obtain ⟨i,hi,e⟩:=ny.mp ha;have:i<xs.size:=by simpa using (by lia:i<xs.toList.length)
  rw[<-e];simpa using r2 i this (by lia)
 have hi:∀ a∈xs.toList.drop r,j<a:=λa ha=>by
  obtain ⟨i,hi,e⟩:=List.mem_drop_iff_getElem.mp ha;have:r+i<xs.size:=by simpa [gE] using hi
  rw[<-e];simpa [gE] using gt (r+i) this (by lia)
 refine cX.mpr #[p1,so.mpr #[hi,p2],λa ha b hb=>?_];rcases aX.mp hb with e|hb
 .rw[e];exact lo a ha
 .exact p3 a ha b hb
def has_none (j:Nat):SetTable.has (List.toArray []) j=false:=by
 simp[SetTable.has]
def Ad {t:SetTable}(g:Good t)(j:Nat):t.slot j≠.dummy/\(t.slot j=.empty->t.place[SetTable.below t.place j]?≠some j):=by
 unfold SetTable.slot;rw[g.no,has_none];by_cases c:(t.place[SetTable.below t.place j]?==some j)=true
 .simp only[c,if_true];refine #[?_,?_]<;>intro z<;>cases z
 .rw[ag c];refine #[by simp,λ_ z=>c ?_];rw[z];simp
def Ae (t:SetTable)(p:SetTable.Probe):(t.advance p).dummy=p.dummy:=by
 unfold SetTable.advance;split<;>rfl
end SetW
namespace SetW
open PySem PySem.Spec PyProof.Rows
set_option maxRecDepth 100000
section
variable {prog:Program}{w:World}{A:Around}{E:Value->Shared->Prop}{s:Shared}{it d:Addr}{es:Array (Int×Value)}{ep:Nat}{t:SetTable}
def wk (es:Array (Int×Value))(vs:List Value):Prop:=vs.Perm (es.toList.map (·.2))
end
end SetW
namespace SetW
open PySem PySem.Spec PyProof.Rows
section
variable {prog:Program}{w:World}{A:Around}{E:Value->Shared->Prop}{s:Shared}
abbrev nu (w:World):Obj:={ cls:=.type "set",dict:=none,data:=.set (List.toArray []) 0 (.fresh 0 0 (!w.params.followText "set-order")) }
set_option maxRecDepth 100000 in
def Gg (a:Value){Q₁:Value->Shared->Prop}(q:Q₁ (.ref s.heap.objs.size) { s with heap:=s.heap.push (nu w) }) :
  codeAny (model prog w) A (.call (.builtin "set.__new__") #[[.type "set",a],[]]) (wants Q₁ E) s:=by
 refine codeAny_of_tree ?_;show wpAny _ A.in1 (do checkBuiltinCall "set.__new__" #[[.type "set",a],[]];again (.builtin "set.__new__" #[[.type "set",a],[]])) _ _ s
 refine ao (wpAny_of_eq (F.newCall_set_1 a) (aC #[plainId_quiet F.plain_set_new _,codeAny_builtin F.entry_set_new ?_]));rw[Around.under_plainId F.plain_set_new _];unfold Builtin.«set.__new__» Builtin.Frozenset.newClass;have hsub:=sub_set_self;obtain ⟨hp,g,d,tk,os⟩:=s;dsimp only
 wp_walk
 refine wpAny_askSetting (aC ?_);dsimp only;simp only[newObj];exact ao (wpAny_alloc (aC (aC q)))
end
end SetW
namespace DictP
open PySem PySem.Spec PyProof.Rows
set_option maxRecDepth 100000
def Gh:typeLookup (.type "list") "keys" = pure none:=by rw[typeLookup_type,builtinLookup_eq_fast];kernel_rfl
section
variable {prog:Program}{w:World}{A:Around}{E:Value->Shared->Prop}{a:Addr}{o:Obj}{h:Heap}{g:Array GenState}{d:Drawn}{t:Nat}{os:OsState}{xs:Array Value}{n:Nat}{sl:Array (Option Value)}
def Gi {tk:Tok}{Q:Fin->Shared->Prop}(hh:A.handled=none)(hx:h.get? a=some { cls:=.type "list",dict:=none,data:=.seq xs n,slots:=sl })
  (q:∀ h' t' e,(∀ b u,h.get? b=some u->h'.get? b=some u)->(#[h',g,d,t',os]:Shared).TypeIs (.ref e) "AttributeError"->E (.ref e) #[h',g,d,t',os]) :
  wpAny (model prog w) A (Builtin.«object.__getattribute__» #[[.ref a,.str "keys" tk],[]]) Q E #[h,g,d,t,os]:=by
 have hT:(#[h,g,d,t,os]:Shared).TypeIs (.ref a) "list":=#[_,hx,rfl];have f4:=Gh
 repeat (any_goals (first|assumption|wp_step))
 have hm:(Str.ofString (toString "'" ++ toString ((Manifest.find? "list").elim "list" λx=>x.tpName)++toString "' object has no attribute '")++Str.ofString "keys" ++ Str.ofString "'").length<=sizeLine:=by decide +kernel
 generalize (Str.ofString (toString "'" ++ toString ((Manifest.find? "list").elim "list" λx=>x.tpName)++toString "' object has no attribute '")++Str.ofString "keys" ++ Str.ofString "'")=msg at hm ⊢;unfold raiseAttrError;refine ao (wpAny_mkStr (ao ?_) hm);unfold newExc newTuple;refine ao (wpAny_newObj_type ?_);refine ao (m:=firstArgMember _ _) (wpAny_of_eq (a:=Value.none) (by rfl) ?_);refine wpAny_newObj_type ?_;refine ao (wpAny_mkText ?_);have hX:=cQ (h.push { cls:=.type "tuple",data:=.seq (List.toArray [Value.str msg t]) }) (o:={ cls:=.type "AttributeError",data:=.fields ((List.toArray [.ref h.objs.size,.none,.none,.none,.bool false,.none])++(List.toArray [unsetMember,unsetMember])) }) rfl;have hk:∀ b u,h.get? b=some u->((h.push { cls:=.type "tuple",data:=.seq (List.toArray [Value.str msg t]) }).push { cls:=.type "AttributeError",data:=.fields ((List.toArray [.ref h.objs.size,.none,.none,.none,.bool false,.none])++(List.toArray [unsetMember,unsetMember])) }).get? b=some u:=λb u e=>aU _ (aU _ e);have hne:h.get? (h.push { cls:=.type "tuple",data:=.seq (List.toArray [Value.str msg t]) }).objs.size=none:=Heap.get?_none_of_le (by simp);show wpAny (model prog w) A (noteAttr (.ref (h.push { cls:=.type "tuple",data:=.seq (List.toArray [Value.str msg t]) }).objs.size) (.ref a) (.str "keys" (t+1)) >>= λ_=>raiseNew (.ref (h.push { cls:=.type "tuple",data:=.seq (List.toArray [Value.str msg t]) }).objs.size)) Q E #[(h.push { cls:=.type "tuple",data:=.seq (List.toArray [Value.str msg t]) }).push { cls:=.type "AttributeError",data:=.fields ((List.toArray [.ref h.objs.size,.none,.none,.none,.bool false,.none])++(List.toArray [unsetMember,unsetMember])) },g,d,t+2,os];generalize (h.push { cls:=.type "tuple",data:=.seq (List.toArray [Value.str msg t]) }).push { cls:=.type "AttributeError",data:=.fields ((List.toArray [.ref h.objs.size,.none,.none,.none,.bool false,.none])++(List.toArray [unsetMember,unsetMember])) }=h2 at hX hk ⊢;generalize (h.push { cls:=.type "tuple",data:=.seq (List.toArray [Value.str msg t]) }).objs.size=e at hX hne ⊢;generalize (Value.ref h.objs.size)=r0 at hX;unfold noteAttr;dsimp only;have hTe:(#[h2,g,d,t+2,os]:Shared).TypeIs (.ref e) "AttributeError":=#[_,hX,rfl];refine ao (ao ?_);unfold lacksNameAndObj;dsimp only;refine ao (wpAny_isInstance (T := "AttributeError") (b:=true) hTe (by rw[isSubtype_type];kernel_rfl) ?_);simp only[hE,cS,if_false];refine ao (wpAny_load hX ?_);dsimp only;have i6:((List.toArray [r0,Value.none,Value.none,Value.none,Value.bool false,Value.none])++(List.toArray [unsetMember,unsetMember]))[6]?=some unsetMember:=by simp
 have i7:((List.toArray [r0,Value.none,Value.none,Value.none,Value.bool false,Value.none])++(List.toArray [unsetMember,unsetMember]))[7]?=some unsetMember:=by simp
 refine wpAny_ite_split (λz=>absurd z (by rw[i6,i7];decide)) (λ_=>?_);refine wpAny_ite_split (λz=>absurd z (by rw[i6,i7];decide)) (λ_=>?_);refine aC ?_;rw[af rfl];refine ao (wpAny_rule (ao (wpAny_typeOf hTe ?_)));dsimp only;unfold layMembers;refine ao (wpAny_load hX ?_);dsimp only;refine wpAny_update (s:=#[h2,g,d,t+2,os]) hX ?_;unfold raiseNew;refine ao (wpAny_handled ?_);rw[hh]
 first
  | refine wpAny_throw ?_
  | refine ao (aC (wpAny_throw ?_))
 refine q _ _ e (λb u eb=>?_) #[_,si _ hX (Obj.isFreed_of_fields (Obj.data_mapFields rfl _)),rfl];have nb:b≠e:=λz=>by
  rw[z,hne]at eb;cases eb
 exact (iG _ _ (aT nb)).trans (hk b u eb)
def Gj {tk:Tok}{R:Result->Shared->Prop}(hh:A.handled=none)(hx:h.get? a=some { cls:=.type "list",dict:=none,data:=.seq xs n,slots:=sl })
  (q:∀ h' t' e,(∀ b u,h.get? b=some u->h'.get? b=some u)->(#[h',g,d,t',os]:Shared).TypeIs (.ref e) "AttributeError"->R (.error (.ref e)) #[h',g,d,t',os]) :
  codeAny (model prog w) A (.call (.builtin "list.__getattribute__") #[[.ref a,.str "keys" tk],[]]) R #[h,g,d,t,os]:=
 codeAny_call_builtin F.slot_list_getattribute.plain F.entry_list_ga (F.slot_list_getattribute.check _ _ _ _ _ _ _ _ (show (#[h,g,d,t,os]:Shared).TypeIs (.ref a) "list" from #[_,hx,rfl]) (F.args_list_getattribute_2 _ _) (Gi (A:=A.in1) hh hx q))
def Gk {Q:Option Value->Shared->Prop}(hh:A.handled=none)(hx:h.get? a=some { cls:=.type "list",dict:=none,data:=.seq xs n,slots:=sl })
  (q:∀ h' t',(∀ b u,h.get? b=some u->h'.get? b=some u)->Q none #[h',g,d,t',os]):wpAny (model prog w) A (getAttr? (.ref a) "keys") Q E #[h,g,d,t,os]:=by
 have hT:(#[h,g,d,t,os]:Shared).TypeIs (.ref a) "list":=#[_,hx,rfl];have f2:=F.slot_list_getattribute.lookup;have f3:=F.slot_list_getattribute.bind (.ref a);have f5:typeLookup (.type "list") "__getattr__" = pure none:=by rw[typeLookup_type,builtinLookup_eq_fast];kernel_rfl
 unfold getAttr? getAttrBy?
 repeat (any_goals (first|assumption|wp_step))
 refine Gj hh hx λh' t' e k ty=>?_;have su:isSubtype (.type "AttributeError") (.type "AttributeError")=pure true:=by rw[isSubtype_type];kernel_rfl
 show wpAny (model prog w) A (getattributeRaised (.ref a) (.str "keys" t) (.type "list") (.ref e) none false false) _ _ _;unfold getattributeRaised;refine ao (wpAny_isInstance ty su ?_);rw[af rfl];refine ao (?_:wpAny _ _ (typeLookup (.type "list") "__getattr__") _ _ _);rw[f5];refine aC ?_;show wpAny _ _ (throw (Value.ref e)) _ _ _;refine wpAny_throw ?_;show wpAny _ _ (do let b <-isInstance (.ref e) (.type "AttributeError");if b=true then pure none else throw (Value.ref e)) _ _ _
 refine ao (wpAny_isInstance ty su ?_);exact aC (q h' t' k)
end
end DictP
namespace DictP
open PySem PySem.Spec PyProof.Rows L2
set_option maxRecDepth 100000
def Af:entryFor table "dict.update.loop" = some Builtin.«dict.update.loop»:=entryFor_of_tree (by kernel_rfl)
def oq:plainId "dict.update.loop" = true:=by decide +kernel
def Gm {K:Type}[DecidableEq K]{kvs:List (K×Value)}{k:K}{v:Value}(h:k∉kvs.map (·.1)):stored kvs k v=kvs++[(k,v)]:=by
 unfold stored;rw[ag λz=>?_];obtain ⟨kv,h1,h2⟩:=List.any_eq_true.mp z;exact h (bC.mpr #[kv,h1,bJ h2])
section
variable {prog:Program}{w:World}{A:Around}{R:Result->Shared->Prop}{I:Addr}{fp wr:List Addr}{G:Array GenState->Array GenState->Prop}{n:Nat}{P:Nat->Value->Prop}{St:Nat->Shared->Prop}
def Gn {h0:Heap}(W:WalksS prog w A.in1 I fp wr G n P St)(d:Addr)(hdf:d∉fp)(res:Value)(kvs:List (Key×Value))(hn:n=kvs.length)(hnd:(kvs.map (·.1)).Nodup)
  (hP:∀ i v,P i v->∃ tp key k val,v=.ref tp/\tp≠d/\tp∉wr/\h0.IsTuple tp (List.toArray [key,val])/\(bz prog w).is k key=true/\kvs[i]?=some (k,val)) (hz:kvs.length<=sizeLine) :
  ∀(j i:Nat) (s:Shared) (tk:Tok),n-i=j->i<=n->St i s->(∀ b o,b≠d->b∉wr->h0.get? b=some o->s.heap.get? b=some o)->s.heap.DictOf (bz prog w) d (kvs.take i)->
   (∀ s',Moved (d::wr) G s s'->s'.heap.DictOf (bz prog w) d kvs->R (.ok (.ret res)) s')->codeAny (model prog w) A (.builtin "dict.update.loop" #[[.ref d,.ref I,.int i tk,res],[]]) R s:=by
 have hdw:d∉wr:=λh=>hdf (W.sub _ h);have up:∀ b∈wr,b∈d::wr:=λb hb=>bE _ hb;intro j
 induction j with
 | zero=>
  intro i s tk hj hi st hk hd q;have e:i=n:=by lia
  subst e;refine codeAny_builtin Af ?_;rw[Around.under_plainId oq _];show wpAny _ A.in1 (pyNext (.ref I) >>= _) _ _ s;refine ao (W.done s _ _ st λs' hm=>?_);refine ao (?_:wpAny _ A.in1 (Builtin.Dict.addKeywords d []) _ _ s');refine aC (aC (q s' (hm.mono up) ?_));obtain ⟨o,es,ep,ho,r⟩:=hd;rw[hn,List.take_length]at r;exact #[o,es,ep,hm.heap d o hdw ho,r]
 | succ j ih=>
  intro i s tk hj hi st hk hd q;have hlt:i<n:=by lia
  refine codeAny_builtin Af ?_;rw[Around.under_plainId oq _];show wpAny _ A.in1 (pyNext (.ref I) >>= _) _ _ s;refine ao (W.item i s _ _ hlt st λv s' hPi st' hm=>?_);obtain ⟨tp,key,k,val,rfl,ntd,ntw,ht,hkey,hkv⟩:=hP i v hPi;obtain ⟨ot,o1,o2,nt,o3⟩:=ht;have g1:=hm.heap tp ot ntw (hk tp ot ntd ntw o1);have hd':s'.heap.DictOf (bz prog w) d (kvs.take i):=by
   obtain ⟨o,es,ep,ho,r⟩:=hd;exact #[o,es,ep,hm.heap d o hdw ho,r]
  obtain ⟨hik,hek⟩:=aN.mp hkv;have hnew:k∉(kvs.take i).map (·.1):=λz=>by
   rw[hZ]at z;obtain ⟨m,hm1,hm2⟩:=ny.mp z;have h2:m<(kvs.map (·.1)).length:=by lia
   have h3:i<(kvs.map (·.1)).length:=by rw[aq];exact hik
   have:=cM.mp hnd m i h2 h3 (by lia);apply this;rw[hm2,List.getElem_map,hek]
  refine ao (wpAny_holding (ao (wpAny_tryCatch ?_)));unfold Builtin.Dict.pairItems;refine ao (wpAny_typeOf (T := "tuple") #[_,g1,o2] ?_);rw[af (by decide)];unfold seqItems?;refine ao (ao (wpAny_load g1 ?_));rw[o3];refine aC (aC ?_);show wpAny _ A.in1 (holding [key,val] (dictSet d key val)) _ _ s';refine wpAny_holding (wpAny_dictSet_pairs hkey hd' (λh' hd2 sb=>?_) (by rw[aW];lia));rw[Gm hnew]at hd2;have tk1:kvs.take (i+1)=kvs.take i++[(k,val)]:=by
   rw[cH hik,hek]
  rw[<-tk1]at hd2;refine aC #[plainId_quiet oq _,ih (i+1) _ 0 (by lia) hlt (W.frame _ s' _ _ st' (dj _) λb hb o e=>?_) (λb o n1 n2 e=>?_) hd2 λs'' hm'' x3=>?_]
  .rw[sb.2 b (λh:b=d=>hdf (by rw[<-h];exact hb))];exact e
  .rw[sb.2 b n1];exact hm.heap b o n2 (hk b o n1 n2 e)
  .refine q s'' (Moved.trans W.gtrans ((hm.mono up).then_heap (dj _) λb o hb e=>?_) hm'') x3;rw[sb.2 b (λh:b=d=>hb (by rw[h];exact bu))];exact e
end
end DictP
namespace DictP
open PySem PySem.Spec PyProof.Rows L2
set_option maxRecDepth 100000
section
variable {prog:Program}{w:World}{A:Around}{E:Value->Shared->Prop}{s:Shared}
def of_pairs {l:Addr}{items:Array Value}{nl:Nat}{sl:Array (Option Value)}{kvs:List (Key×Value)}{Q:Value->Shared->Prop}(hh:A.handled=none)(hl:s.heap.get? l=some { cls:=.type "list",dict:=none,data:=.seq items nl,slots:=sl })
  (hnd:(kvs.map (·.1)).Nodup) (hlen:items.size=kvs.length) (hz:kvs.length<=sizeLine)
  (hit:∀(i:Nat) v,items[i]?=some v->∃ tp key k val,v=.ref tp/\s.heap.IsTuple tp (List.toArray [key,val])/\(bz prog w).is k key=true/\kvs[i]?=some (k,val))
  (q:∀ h' tk,h'.DictOf (bz prog w) s.heap.objs.size kvs->(∀ b o,s.heap.get? b=some o->h'.get? b=some o)->Q (.ref s.heap.objs.size) { s with heap:=h',toks:=tk }) :
  wpAny (model prog w) A (call (.type "dict") [.ref l]) Q E s:=by
 refine callType_codes (Q₁:=λobj s₁=>obj=.ref s.heap.objs.size/\s₁={ s with heap:=s.heap.push { cls:=.type "dict",data:=.dict (List.toArray []) } }) F.kt_called_dict (F.kt_typeCall_dict_1 _) F.entry_dict_init (kt_code_dict_new _ #[rfl,rfl]) ?_;rintro obj s₁ ⟨rfl,rfl⟩;have hnew:(s.heap.push { cls:=.type "dict",data:=.dict (List.toArray []) }).DictOf (bz prog w) s.heap.objs.size []:=Heap.DictOf.new s.heap;have hl1:=aU { cls:=.type "dict",data:=.dict (List.toArray []) } hl;have hkp:∀ b o,s.heap.get? b=some o->(s.heap.push { cls:=.type "dict",data:=.dict (List.toArray []) }).get? b=some o:=λb o e=>aU _ e;have hds:s.heap.objs.size<(s.heap.push { cls:=.type "dict",data:=.dict (List.toArray []) }).objs.size:=by
  rw[jy];exact jz _
 have hlS:l<s.heap.objs.size:=aJ hl;refine #[hnew.typeIs,F.args_dict_init_2 _ _,?_];generalize s.heap.push { cls:=.type "dict",data:=.dict (List.toArray []) }=h1 at hnew hl1 hkp hds ⊢;unfold Builtin.«dict.__init__»;refine ao ?_;unfold Builtin.Dict.selfAndRest;refine ao (wpAny_notOrdered_dict hnew.typeIs ?_);show wpAny _ _ (pure (s.heap.objs.size,[Value.ref l])) _ _ _;refine aC ?_;show wpAny _ _ (Builtin.Dict.updateFrom "dict.__init__" s.heap.objs.size (.ref l) [] .none) _ _ _;unfold Builtin.Dict.updateFrom;refine ao (wpAny_typeOf (T := "list") #[_,hl1,rfl] ?_);rw[af (by decide)];refine ao (Gk (A:=_) hh hl1 λh2 t2 k2=>?_);rw[af (show (none:Option Value).isNone=true from rfl)];refine ao (wpAny_rule (ao ?_));have hl2:=k2 _ _ hl1;have hL2:h2.IsList l items:=#[_,hl2,rfl,nl,rfl];refine wpAny_pyIter_list (s:=#[h2,s.gens,s.drawn,t2,s.os]) hL2 ?_;refine aC #[plainId_quiet oq _,?_];have hd2:h2.DictOf (bz prog w) s.heap.objs.size []:=by
  obtain ⟨o,es,ep,ho,r⟩:=hnew;exact #[o,es,ep,k2 _ _ ho,r]
 have hdlt:s.heap.objs.size<h2.objs.size:=by
  obtain ⟨o,es,ep,ho,r⟩:=hd2;exact aJ ho
 have hne:l≠h2.objs.size:=bh (jn hlS hdlt);have h3:A.in1.in1.handled=none:=by simp[hh]
 refine Gn (h0:=s.heap) ((Walks.list h3 _ l hne items).toS) s.heap.objs.size (λz=>?_) .none kvs hlen hnd (λi v hv=>?_) hz items.size 0 _ 0 (by lia) (bG _) #[#[_,cQ _ rfl,rfl,rfl],hL2.push _] (λb o n1 n2 e=>aU _ (k2 _ _ (hkp _ _ e))) ?_ λs' hm hd'=>?_
 .simp only[aX,ee,or_false]at z;rcases z with z|z
  .exact absurd hdlt (by rw[<-z];exact dv _)
  .exact absurd hlS (by rw[<-z];exact dv _)
 .obtain ⟨tp,key,k,val,e1,e2,e3,e4⟩:=hit i v hv;have htp:tp<s.heap.objs.size:=by
   obtain ⟨ot,o1,_⟩:=e2;exact aJ o1
  refine #[tp,key,k,val,e1,bh htp,λz=>?_,e2,e3,e4];rw[aM.mp z]at htp;exact absurd (jn htp hdlt) (dv _)
 .rw[f6];exact hd2.push _
 .refine #[rfl,?_];rw[Moved.eq_with hm];refine q s'.heap s'.toks hd' λb o e=>hm.heap b o (λz=>?_) (aU _ (k2 _ _ (hkp _ _ e)));have hb:=aJ e;simp only[aX,ee,or_false]at z;rcases z with z|z
  .rw[z]at hb;exact absurd hb (dv _)
  .rw[z]at hb;exact absurd (jn hb hdlt) (dv _)
end
end DictP
namespace L2
open PySem PySem.Spec PyProof.Rows
inductive Ag (K:Frag)(xs:List V)(H:Hp)(Q:VK):Prop
 | c:∀(p:Addr) (zs:List V) (kvs:List (Key×V)),xs=[.ref p]->SqL K H p zs->Paired (λ(z:V) (kv:Key×V)=>∃ b,z=.ref b/\H b=some (.tup [kV kv.1,kv.2])) zs kvs->(kvs.map (·.1)).Nodup->(∀ d,H d=none->Q (.ref d) (upd H d (.dK kvs)))->Ag K xs H Q
section
variable {X:Cx}
def Ah (I:Inv X LI U H s):∀{zs:List V} {kvs:List (Key×V)} {us:List Value},Paired (λ(z:V) (kv:Key×V)=>∃ b,z=.ref b/\H b=some (.tup [kV kv.1,kv.2])) zs kvs->Vals zs us->
  ∃ ks:List (Key×Value),KV kvs ks/\∀(i:Nat) v,us[i]?=some v->∃ tp key k val,v=.ref tp/\s.heap.IsTuple tp (List.toArray [key,val])/\(bz X.prog X.w).is k key=true/\ks[i]?=some (k,val)
 | _,_,_,.nil,.nil=>#[[],.nil,λi v h=>by simp at h]
 | _::_,kv::_,_::_,.cons ⟨b,e1,e2⟩ t,.cons r q=>by
  subst e1;obtain ⟨ks,h1,h2⟩:=Ah I t q;cases r
  obtain ⟨its,rv,p,_⟩:=I.tuple (SqT.of e2);cases rv with
  | cons r1 rv=>
   cases rv with
   | cons r2 rv=>
    cases rv
    refine #[(kv.1,_)::ks,.cons #[rfl,r2] h1,λi v hv=>?_];cases i with
    | zero=>
     simp only[List.getElem?_cons_zero,Option.some.injEq]at hv;subst hv;exact #[b,_,kv.1,_,rfl,p,jJ r1,rfl]
    | succ i=>
     rw[kR]at hv ⊢;exact h2 i v hv
def Ai:∀{kvs:List (Key×V)} {ks:List (Key×Value)},KV kvs ks->ks.map (·.1)=kvs.map (·.1)
 | _,_,.nil=>rfl
 | _,_,.cons r t=>by
  rw[bS,bS,Ai t,r.1]
def Aj (hc:X.calm=true):cT X (.type "dict") (Ag X.K):=by
 intro LI s U H xs us Q I r h;obtain ⟨p,zs,kvs,rfl,hq,hp,hn,q⟩:=h;obtain ⟨u,rfl,rx⟩:=fE r;cases rx
 obtain ⟨its,rv,pl,hz⟩:=I.list hq;obtain ⟨ks,hk,hit⟩:=Ah I hp rv;have l1:=Paired.length hp;have l2:=rv.length;have l3:=Paired.length hk;obtain ⟨⟨oc,od,oda,osl⟩,n,e,e1,e2,e3⟩:=pl;simp only at e1 e2 e3;subst e1 e2 e3;refine DictP.of_pairs (kvs:=ks) (I.ok.hd hc) e (by rw[Ai hk];exact hn) (by rw[bM];lia) (by lia) (λi v hv=>hit i v (by simpa using hv)) λh' tk hd k=>?_;exact #[.ref s.heap.objs.size,_,I.laid (a:=s.heap.objs.size) (o:=.dK kvs) (t':=tk) k (ai _) #[by lia,beq_eq_false_iff_ne.mpr (aT (bh I.big)),ks,hk,hd],rfl,q _ (I.hok.fresh (ai _))]
end
end L2
namespace SetV
open PySem PySem.Spec PyProof.Rows SetW
def cV (m:Nat):Nat->Nat×Nat->Nat×Nat
 | 0,x=>x
 | k+1,x=>cV m k (SetTable.leap m x.1 x.2)
def i4 (m:Nat):∀(a b:Nat) (x:Nat×Nat),cV m (a+b) x=cV m b (cV m a x)
 | 0,b,x=>by rw[fw];rfl
 | a+1,b,x=>by
  rw[sG];exact i4 m a b _
def uy (m:Nat):∀(k:Nat) (x:Nat×Nat),(cV m k x).2=x.2/32^k
 | 0,x=>by simp[cV]
 | k+1,x=>by
  have:=uy m k (SetTable.leap m x.1 x.2);show (cV m k (SetTable.leap m x.1 x.2)).2=_;rw[this];show x.2/32/32^k=_;rw[Nat.div_div_eq_div_mul,ie,Nat.mul_comm]
def Ak (m:Nat):∀(k:Nat) (x:Nat×Nat),x.1<=m->(cV m k x).1<=m
 | 0,x,h=>h
 | k+1,x,h=>Ak m k _ (by
  show (x.1*5+1+x.2/32)%(m+1)<=m;exact dy (eZ _ (dO m)))
def Gp:∀ i,i<8->∀ y,y<8->∃ k,k<8/\(cV 7 k (i,0)).1=y:=by decide +kernel
def Gq:∀ i,i<32->∀ y,y<32->∃ k,k<32/\(cV 31 k (i,0)).1=y:=by decide +kernel
def orb (m:Nat):Nat->Nat->List Nat
 | 0,_=>[]
 | k+1,i=>i::orb m k ((i*5+1)%(m+1))
def Al (m:Nat):∀(k i y:Nat),y∈orb m k i->∃ j,j<k/\(cV m j (i,0)).1=y
 | 0,_,_,h=>nomatch h
 | k+1,i,y,h=>by
  rcases aX.mp h with rfl|h
  .exact #[0,dO _,rfl]
  .obtain ⟨j,hj,e⟩:=Al m k _ y h;refine #[j+1,Nat.succ_lt_succ hj,?_];show (cV m j (SetTable.leap m i 0)).1=y;rw[show SetTable.leap m i 0=((i*5+1)%(m+1),0) from by unfold SetTable.leap;simp];exact e
def orb0:∀ y,y<128->y∈orb 127 128 0:=by decide +kernel
def Gr:cV 127 128 (0,0)=(0,0):=by decide +kernel
def Am {i:Nat}(hi:i<128):∃ a,a<128/\cV 127 a (0,0)=(i,0):=by
 obtain ⟨a,ha,e⟩:=Al 127 128 0 i (orb0 i hi);refine #[a,ha,Prod.ext e ?_];rw[uy];exact Nat.zero_div _
def Gs:∀ i,i<128->∀ y,y<128->∃ k,k<128/\(cV 127 k (i,0)).1=y:=λi hi y hy=>by
 obtain ⟨a,ha,ea⟩:=Am hi;obtain ⟨b,hb,eb⟩:=Am hy;by_cases c:a<=b
 .refine #[b-a,by lia,?_];rw[<-ea,<-i4,show a+(b-a)=b by lia,eb]
 .refine #[128-a+b,by lia,?_];rw[<-ea,<-i4,show a+(128-a+b)=128+b by lia,i4,Gr,eb]
abbrev Mask (m:Nat):Prop:=m=7\/m=31\/m=127
def An (hm:Mask m){x:Nat×Nat}(hi:x.1<=m)(hp:x.2<2^64){y:Nat}(hy:y<=m):∃ k,k<=13+m/\(cV m k x).1=y:=by
 have h2:(cV m 13 x).2=0:=by
  rw[uy];exact Nat.div_eq_of_lt (aO hp (by decide))
 have h1:=Ak m 13 x hi;have e:cV m 13 x=((cV m 13 x).1,0):=by rw[<-h2]
 rcases hm with rfl|rfl|rfl
 .obtain ⟨k,hk,z⟩:=Gp _ (jt h1) y (by lia);exact #[13+k,by lia,by rw[i4,e];exact z]
 .obtain ⟨k,hk,z⟩:=Gq _ (jt h1) y (by lia);exact #[13+k,by lia,by rw[i4,e];exact z]
 .obtain ⟨k,hk,z⟩:=Gs _ (jt h1) y (by lia);exact #[13+k,by lia,by rw[i4,e];exact z]
def advN (t:SetTable):Nat->SetTable.Probe->SetTable.Probe
 | 0,p=>p
 | n+1,p=>advN t n (t.advance p)
def uA (t:SetTable):∀(a b:Nat) (p:SetTable.Probe),advN t (a+b) p=advN t b (advN t a p)
 | 0,b,p=>by rw[fw];rfl
 | a+1,b,p=>by
  rw[sG];exact uA t a b _
def jV (t:SetTable)(x:Nat×Nat)(d:Option Nat):SetTable.Probe:={ j:=x.1,more:=SetTable.runEnd t.mask x.1-x.1,i:=x.1,perturb:=x.2,dummy:=d }
def Ao (t:SetTable):∀(q:Nat) (p:SetTable.Probe),p.more=q->advN t (q+1) p=jV t (SetTable.leap t.mask p.i p.perturb) p.dummy
 | 0,p,h=>by
  show t.advance p=_;unfold SetTable.advance;rw[ag (by lia)];rfl
 | q+1,p,h=>by
  show advN t (q+1) (t.advance p)=_;have e:t.advance p={ p with j:=p.j+1,more:=p.more-1 }:=by
   unfold SetTable.advance;rw[af (by lia)]
  rw[Ao t q _ (by rw[e];show p.more-1=q;lia),e]
def run9 (m i:Nat):SetTable.runEnd m i-i<=9:=by
 unfold SetTable.runEnd;split<;>lia
def Ap (t:SetTable):∀(k:Nat) (x:Nat×Nat) (d:Option Nat),∃ n,n<=10*k/\advN t n (jV t x d)=jV t (cV t.mask k x) d
 | 0,x,d=>#[0,ai _,rfl]
 | k+1,x,d=>by
  obtain ⟨n,hn,e⟩:=Ap t k (SetTable.leap t.mask x.1 x.2) d;have h9:=run9 t.mask x.1;refine #[(SetTable.runEnd t.mask x.1-x.1+1)+n,by lia,?_];have r:=Ao t (SetTable.runEnd t.mask x.1-x.1) (jV t x d) rfl;rw[uA,r];exact e
def dist {t:SetTable}(hm:Mask t.mask){x:Nat×Nat}(hi:x.1<=t.mask)(hp:x.2<2^64){y:Nat}(hy:y<=t.mask):∃ n,n<=10*(13+t.mask)/\(advN t n (jV t x d)).j=y:=by
 obtain ⟨k,hk,e⟩:=An hm hi hp hy;obtain ⟨n,hn,e2⟩:=Ap t k x d;exact #[n,by lia,by rw[e2];exact e]
def Aq:∀(s l:List Nat),s.Nodup->(∀ x∈s,x∈l)->s.length<=l.length
 | [],l,_,_=>bG _
 | x::s,l,hn,h=>by
  rw[dN]at hn;have hx:=h x bu;have:=Aq s (l.erase x) hn.2 λy hy=>(List.mem_erase_of_ne (λz=>hn.1 (by rw[<-z];exact hy))).mpr (h y (bE _ hy));rw[List.length_erase_of_mem hx]at this;have:=List.length_pos_of_mem hx;rw[cR];lia
def Gu {l:List Nat}{m:Nat}(h:l.length<m):∃ y,y<m/\y∉l:=by
 refine Classical.byContradiction λz=>?_;have:=Aq (List.range m) l List.nodup_range λx hx=>Classical.byContradiction λy=>z #[x,dw.mp hx,y];rw[cv]at this;lia
def Gv {t:SetTable}(g:Good t){y:Nat}(h:y∉t.place.toList):t.slot y=.empty:=by
 unfold SetTable.slot;rw[g.no];dsimp only;rw[SetW.has_none,ag λz=>h ?_]
 .rfl
 .have:=beq_iff_eq.mp z;rw[<-eO]at this;exact cB this
def Ar {t:SetTable}(g:Good t){f:Nat->Int}{h:Int}:∀(n F:Nat) (p:SetTable.Probe),n<F->p.dummy=none->t.slot (advN t n p).j=.empty->
  ∃ met,SetTable.probe.go t f h F p=some met/\((∃ m,m<=n/\met=.empty (advN t m p).j none/\t.slot (advN t m p).j=.empty)\/∃ i m,m<n/\met=.candidate (advN t m p).j i (advN t (m+1) p)/\t.slot (advN t m p).j=.live i)
 | n,0,p,hn,_,_=>by lia
 | n,F+1,p,hn,hd,he=>by
  unfold SetTable.probe.go;cases z:t.slot p.j with
  | dummy=>exact absurd z (Ad g _).1
  | empty=>exact #[_,rfl,.inl #[0,bG _,by rw[hd];rfl,z]]
  | live i=>
   dsimp only;by_cases c:(f i==h)=true
   .rw[af c];cases n with
    | zero=>
     have he:t.slot p.j=.empty:=he;rw[z]at he;cases he
    | succ n=>exact #[_,rfl,.inr #[i,0,dO _,rfl,z]]
   .rw[ag c];cases n with
    | zero=>
     have he:t.slot p.j=.empty:=he;rw[z]at he;cases he
    | succ n=>
     obtain ⟨met,e,r⟩:=Ar g n F (t.advance p) (by lia) (by rw[Ae];exact hd) he;refine #[met,e,?_];rcases r with ⟨m,h1,h2,h3⟩|⟨i',m,h1,h2,h3⟩
     .exact .inl #[m+1,by lia,h2,h3]
     .exact .inr #[i',m+1,by lia,h2,h3]
def InR (t:SetTable)(p:SetTable.Probe):Prop:=p.j+p.more<=t.mask/\p.i<=t.mask
def As {m i:Nat}(h:i<=m):i+(SetTable.runEnd m i-i)<=m:=by
 unfold SetTable.runEnd;split<;>lia
def InR.adv {t:SetTable}(h:InR t p):InR t (t.advance p):=by
 unfold SetTable.advance;split
 .exact #[by have:=h.1;show p.j+1+(p.more-1)<=t.mask;lia,h.2]
 .have hi:(p.i*5+1+p.perturb/32)%(t.mask+1)<=t.mask:=dy (eZ _ (dO t.mask));exact #[As hi,hi]
def InR.advN {t:SetTable}:∀(n:Nat) {p:SetTable.Probe},InR t p->InR t (SetV.advN t n p)
 | 0,_,h=>h
 | n+1,_,h=>InR.advN n h.adv
end SetV
namespace SetV
open PySem PySem.Spec PyProof.Rows SetW
def uB:∀(l:List (Option Nat)) (j k:Nat),l[j]?=some none->((l.set j (some k)).filterMap id).Perm (k::l.filterMap id)
 | [],j,k,h=>by simp at h
 | x::l,0,k,h=>by
  simp only[List.getElem?_cons_zero,Option.some.injEq]at h;subst h;exact List.Perm.refl _
 | x::l,j+1,k,h=>by
  rw[kR]at h;rw[List.set_cons_succ];cases x with
  | none=>exact uB l j k h
  | some a=>exact ((uB l j k h).cons a).trans (List.Perm.swap _ _ _)
def Au:∀(l:List (Option Nat)),(∀ x∈l,x≠none)->(l.filterMap id).length=l.length
 | [],_=>rfl
 | none::l,h=>absurd rfl (h _ bu)
 | some a::l,h=>by
  show (a::l.filterMap id).length=_;rw[cR,cR,Au l λx hx=>h x (bE _ hx)]
def Aw {o:Array (Option Nat)}:∀(k F i p y:Nat),k<F->i<=m->(cV m k (i,p)).1=y->(o.getD y (some 0)).isNone=true->∃ j,SetTable.layClean.free m o F i p=some j/\(o.getD j (some 0)).isNone=true
 | k,0,i,p,y,hk,_,_,_=>by lia
 | k,F+1,i,p,y,hk,hi,hy,hn=>by
  unfold SetTable.layClean.free;cases z:(List.range (SetTable.runEnd m i+1-i)).find? λk=>(o.getD (i+k) (some 0)).isNone with
  | some q=>exact #[i+q,rfl,List.find?_some (p:=λk=>(o.getD (i+k) (some 0)).isNone) z]
  | none=>
   have h0:¬ (o.getD (i+0) (some 0)).isNone=true:=by
    refine List.find?_eq_none.mp z 0 (dw.mpr ?_);unfold SetTable.runEnd;split<;>lia
   cases k with
   | zero=>exact absurd (by rw[show i=y from hy];exact hn) h0
   | succ k=>
    refine Aw k F _ _ y (by lia) ?_ hy hn;show (i*5+1+p/32)%(m+1)<=m;exact dy (eZ _ (dO m))
def Ax (h:Int):SetTable.bits h<2^64:=by
 unfold SetTable.bits;have h1:=kT h (show (0:Int)<2^64 by decide);have h2:=kS h (show (2^64:Int)≠0 by decide);lia
def uC (M:Nat)(acc:Option (Array (Option Nat)×Nat))(h:Int):Option (Array (Option Nat)×Nat):=do
 let (owner,k) <-acc
 let j <-SetTable.layClean.free M owner (SetTable.turns M) (SetTable.bits h%(M+1)) (SetTable.bits h)
 pure (owner.setIfInBounds j (some k),k+1)
def Ay (hM:Mask M):∀(hs:List Int) (o:Array (Option Nat)) (k:Nat),o.size=M+1->(o.toList.filterMap id).Perm (List.range k)->k+hs.length<M+1->
  ∃ o',hs.foldl (uC M) (some (o,k))=some (o',k+hs.length)/\o'.size=M+1/\(o'.toList.filterMap id).Perm (List.range (k+hs.length))
 | [],o,k,h1,h2,_=>#[o,rfl,h1,h2]
 | h::hs,o,k,h1,h2,h3=>by
  rw[cR]at h3;obtain ⟨y,hy,hy2⟩:∃ y,y<M+1/\(o.getD y (some 0)).isNone=true:=by
   refine Classical.byContradiction λz=>?_;have:=Au o.toList λx hx e=>z (by
    obtain ⟨y,hy,e2⟩:=dQ hx;have hy':y<o.size:=by simpa using hy
    refine #[y,by lia,?_];have:o[y]=none:=by
     rw[<-e,<-e2];simp
    simp[Array.getD,hy',this])
   rw[h2.length_eq,cv,bF]at this;lia
  obtain ⟨kk,hk,e⟩:=An hM (x:=(SetTable.bits h%(M+1),SetTable.bits h)) (dy (eZ _ (dO _))) (Ax h) (y:=y) (by lia);obtain ⟨j,hj,hj2⟩:=Aw (o:=o) kk (SetTable.turns M) (SetTable.bits h%(M+1)) (SetTable.bits h) y (by show kk<M+15;lia) (dy (eZ _ (dO _))) e hy2;have hjs:j<o.size:=by
   refine eW λz=>?_;simp[Array.getD,hW.mpr z]at hj2
  have hoj:o.toList[j]?=some none:=by
   simp only[Array.getD,hjs,dif_pos]at hj2;rw[eO,eJ hjs];exact congrArg some (Option.isNone_iff_eq_none.mp hj2)
  have st:uC M (some (o,k)) h=some (o.setIfInBounds j (some k),k+1):=by
   unfold uC;simp only[Option.bind_eq_bind,Option.bind_some];rw[hj];rfl
  rw[List.foldl_cons,st];obtain ⟨o',r1,r2,r3⟩:=Ay hM hs (o.setIfInBounds j (some k)) (k+1) (by simp[h1]) (by
   rw[Array.toList_setIfInBounds];refine (uB _ _ _ hoj).trans ((h2.cons k).trans ?_);rw[fP];exact (List.perm_append_singleton k (List.range k)).symm) (by lia)
  have e2:k+1+hs.length=k+(h::hs).length:=by
   rw[cR];lia
  rw[e2]at r1 r3;exact #[o',r1,r2,r3]
def Az:∀ n:Nat,(List.replicate n (none:Option Nat)).filterMap id=List.range 0
 | 0=>rfl
 | n+1=>Az n
def Gw (hM:Mask M)(hs:Array Int)(h:hs.size<M+1):∃ owner,SetTable.layClean M hs=some owner/\owner.size=M+1/\(owner.toList.filterMap id).Perm (List.range hs.size):=by
 obtain ⟨o',r1,r2,r3⟩:=Ay hM hs.toList (Array.replicate (M+1) none) 0 (by simp) (by rw[Array.toList_replicate];exact .of_eq (Az _)) (by simpa using h);rw[fw,bF]at r1 r3;refine #[o',?_,r2,r3];unfold SetTable.layClean;rw[<-Array.foldl_toList];have e:hs.toList.foldl (λacc h=>do
  let (owner,k) <-acc
  let j <-SetTable.layClean.free M owner (SetTable.turns M) (SetTable.bits h%(M+1)) (SetTable.bits h)
  pure (owner.setIfInBounds j (some k),k+1)) (some (Array.replicate (M+1) none,0))=some (o',hs.size):=r1
 rw[e];rfl
end SetV
namespace SetV
open PySem PySem.Spec PyProof.Rows SetW L2
set_option maxRecDepth 100000
section
variable {prog:Program}{w:World}{A:Around}{E:Value->Shared->Prop}{s:Shared}
def Pr (h:Heap)(a:Addr)(x:Int×Int):Prop:=∃ o n t1 t2,h.get? a=some o/\o.cls=.type "tuple"/\o.data=.seq (List.toArray [.int x.1 t1,.int x.2 t2]) n
def Pr.key {a:Addr}(p:Pr h a x):IsTupleKey (bz prog w) h [.inl x.1,.inl x.2] a:=by
 obtain ⟨o,n,t1,t2,h1,h2,h3⟩:=p;exact #[o,_,n,h1,h2,h3,.cons (sQ _ _ _ _) (.cons (sQ _ _ _ _) .nil)]
def Pr.keep {h':Heap}{a:Addr}(p:Pr h a x)(k:∀ o,h.get? a=some o->h'.get? a=some o):Pr h' a x:=by
 obtain ⟨o,n,t1,t2,h1,r⟩:=p;exact #[o,n,t1,t2,k o h1,r]
def Pr.ty {a:Addr}(p:Pr s.heap a x):s.TypeIs (.ref a) "tuple":=by
 obtain ⟨o,n,t1,t2,h1,h2,h3⟩:=p;exact #[o,h1,h2]
def AA {a:Addr}{Q:Bool->Shared->Prop}(p:Pr s.heap a x)(q:Q false s):wpAny (model prog w) A (ofAClassStatement 8 (.ref a)) Q E s:=by
 have ty:=p.ty;obtain ⟨o,n,t1,t2,h1,h2,h3⟩:=p;unfold ofAClassStatement;refine ao (wpAny_typeOf ty ?_);dsimp only;rw[af (show ("tuple" == "tuple")=true from rfl)];refine ao (aC ?_);simp only[hE,cS,if_false];refine ao (wpAny_seqItems h1 h3 ?_);dsimp only;refine ao ?_;show wpAny _ _ (forIn ((List.toArray [Value.int x.1 t1,Value.int x.2 t2]):Array Value) _ _) _ _ s;rw[<-Array.forIn_toList];refine wpAny_forIn_list _ (λrest r s'=>r.1=none/\s'=s/\∀ v∈rest,∃ i t,v=Value.int i t) _ ?_ ?_ _ _ #[rfl,rfl,λv hv=>by
  simp only[aX,ee,or_false]at hv;rcases hv with z|z
  .exact #[_,_,z]
  .exact #[_,_,z]]
 .rintro v rest r s' ⟨hr,rfl,hall⟩;obtain ⟨i,t,rfl⟩:=hall v bu;rw[show ofAClassStatement 7 (Value.int i t)=pure false by unfold ofAClassStatement;rfl];refine ao (aC ?_);simp only[cS,if_false];exact aC #[rfl,rfl,λu hu'=>hall u (bE _ hu')]
 .rintro ⟨r1,r2⟩ s' ⟨hr,rfl,_⟩;simp only at hr;subst hr;exact aC q
def hbv {a:Addr}{Q:Bool->Shared->Prop}(p:Pr s.heap a x)(q:Q true s):wpAny (model prog w) A (hashByValue 8 (.ref a)) Q E s:=by
 have ty:=p.ty;obtain ⟨o,n,t1,t2,h1,h2,h3⟩:=p;unfold hashByValue;refine ao (wpAny_specialOf ty F.slot_tuple_hash.lookup ?_);dsimp only;refine ao (wpAny_seqItems h1 h3 ?_);refine ao ?_;show wpAny _ _ (forIn ((List.toArray [Value.int x.1 t1,Value.int x.2 t2]):Array Value) _ _) _ _ s;rw[<-Array.forIn_toList];refine wpAny_forIn_list _ (λrest r s'=>r.1=none/\s'=s/\∀ v∈rest,∃ i t,v=Value.int i t) _ ?_ ?_ _ _ #[rfl,rfl,λv hv=>by
  simp only[aX,ee,or_false]at hv;rcases hv with z|z
  .exact #[_,_,z]
  .exact #[_,_,z]]
 .rintro v rest r s' ⟨hr,rfl,hall⟩;obtain ⟨i,t,rfl⟩:=hall v bu;rw[show hashByValue 7 (Value.int i t)=pure true by unfold hashByValue;rfl];refine ao (aC ?_);simp only[hE,cS,if_false];exact aC #[rfl,rfl,λu hu'=>hall u (bE _ hu')]
 .rintro ⟨r1,r2⟩ s' ⟨hr,rfl,_⟩;simp only at hr;subst hr;exact aC q
def Gx {a:Addr}{l:List Value}{Q:Bool->Shared->Prop}(p:Pr s.heap a x)(hl:∀ v∈l,∃ b y,v=.ref b/\Pr s.heap b y)(q:Q false s):wpAny (model prog w) A (searchCouldBeSeen (.ref a) l) Q E s:=by
 unfold searchCouldBeSeen;refine ao ?_;refine wpAny_forIn_list _ (λrest r s'=>r.1=none/\s'=s/\∀ v∈rest,∃ b y,v=Value.ref b/\Pr s.heap b y) _ ?_ ?_ _ _ #[rfl,rfl,hl]
 .rintro v rest r s' ⟨hr,rfl,hall⟩;obtain ⟨b,y,rfl,pb⟩:=hall v bu;dsimp only;have go:∀ u∈rest,∃ b y,u=Value.ref b/\Pr s'.heap b y:=λu hu'=>hall u (bE _ hu');refine wpAny_ite_split (λ_=>aC #[rfl,rfl,go]) (λ_=>?_);refine ao ((tupleKind (bz prog w)).quiet p.key ?_);simp only[hE,cS,if_false];refine ao ((tupleKind (bz prog w)).quiet pb.key ?_);simp only[hE,cS,if_false];refine ao (AA p ?_);simp only[cS,if_false];refine ao (AA pb ?_);simp only[cS,if_false];exact aC #[rfl,rfl,go]
 .rintro ⟨r1,r2⟩ s' ⟨hr,rfl,_⟩;simp only at hr;subst hr;exact aC q
end
end SetV
namespace SetV
open PySem PySem.Spec PyProof.Rows SetW L2
set_option maxRecDepth 100000
structure GT (t:SetTable):Prop where
 g:Good t
 m:(t.mask=7/\t.place.size<5)\/(t.mask=31/\t.place.size<19)\/(t.mask=127/\t.place.size<77)
 b:∀ j∈t.place.toList,j<=t.mask
def GT.mask {t:SetTable}(x:GT t):Mask t.mask:=x.m.elim (λz=>.inl z.1) λz=>.inr (z.elim (λz=>.inl z.1) λz=>.inr z.1)
def GT.free {t:SetTable}(x:GT t):∃ y,y<=t.mask/\t.slot y=.empty:=by
 obtain ⟨y,h1,h2⟩:=Gu (l:=t.place.toList) (m:=t.mask+1) (by
  rw[bF];rcases x.m with ⟨a,b⟩|⟨a,b⟩|⟨a,b⟩<;>lia)
 exact #[y,by lia,Gv x.g h2]
def Gy {t:SetTable}(g:Good t){f:Nat->Int}{h:Int}{p:SetTable.Probe}{M:Option SetTable.Met}(e:t.probe f h p=M){n:Nat}(hn:n<10*SetTable.turns t.mask)(hd:p.dummy=none)(he:t.slot (advN t n p).j=.empty) :
  ∃ met,M=some met/\((∃ m,m<=n/\met=.empty (advN t m p).j none/\t.slot (advN t m p).j=.empty)\/∃ i m,m<n/\met=.candidate (advN t m p).j i (advN t (m+1) p)/\t.slot (advN t m p).j=.live i):=by
 obtain ⟨met,z,r⟩:=Ar g (f:=f) (h:=h) n _ p hn hd he;exact #[met,e.symm.trans z,r]
def AB (t:SetTable):∀(n:Nat) (p:SetTable.Probe),(advN t n p).dummy=p.dummy
 | 0,p=>rfl
 | n+1,p=>by
  show (advN t n (t.advance p)).dummy=_;rw[AB t n,Ae]
section
variable {prog:Program}{w:World}{A:Around}{E:Value->Shared->Prop}{s:Shared}
structure TB (h:Heap)(es:Array (Int×Value))(τ:List Addr)(t:SetTable)(L:Bool):Prop where
 perm:(es.toList.map (·.2)).Perm (τ.map Value.ref)
 pr:∀ b∈τ,∃ y,Pr h b y
 fits:t.fits es.size=true
 gt:GT t
 led:t.led=L
def TB.at {h:Heap}{es:Array (Int×Value)}{τ:List Addr}{t:SetTable}{L:Bool}(B:TB h es τ t L){e:Int×Value}(he:e∈es.toList):∃ b y,e.2=.ref b/\Pr h b y/\b∈τ:=by
 have:=B.perm.mem_iff.mp (bC.mpr #[e,he,rfl]);obtain ⟨b,hb,z⟩:=bC.mp this;obtain ⟨y,hy⟩:=B.pr b hb;exact #[b,y,z.symm,hy,hb]
def AC {y v:Int×Int}(e:([.inl y.1,.inl y.2]:List Key)=[.inl v.1,.inl v.2])(p:Pr h b y):Pr h b v:=by
 have h1:=List.cons.inj e;have h2:=List.cons.inj h1.2;have e1:y.1=v.1:=Sum.inl.inj h1.1;have e2:y.2=v.2:=Sum.inl.inj h2.1;rwa[show y=v from Prod.ext e1 e2]at p
def AE {d:Addr}{o:Obj}{es:Array (Int×Value)}{ep:Nat}{t:SetTable}{τ:List Addr}{L:Bool}(ho:s.heap.get? d=some o)(hd:o.data=.set es ep t)(B:TB s.heap es τ t L)(px:Pr s.heap x v)(hu:A.units<cLine){h:Int}
  {Q:SetFound->Shared->Prop} (q1:(∃ b∈τ,Pr s.heap b v)->Q (.there none) s) (q2:∀ j,t.slot j=.empty->j<=t.mask->Q (.free j false) s) :
  ∀(F n:Nat) (p:SetTable.Probe) (st:Option SetTable.Probe),st.getD (t.probeStart h)=p->n<F->n<=10*(13+t.mask)->p.dummy=none->InR t p->t.slot (advN t n p).j=.empty->wpAny (model prog w) A (setSearchFrom d (.ref x) h true F st) Q E s
 | 0,n,p,_,_,hn,_,_,_,_=>by lia
 | F+1,n,p,st,hst,hn,hb,hpd,hin,he=>by
  unfold setSearchFrom;refine ao (wpAny_setState_of ho hd B.fits ?_);dsimp only;refine wpAny_ite_split (λz=>absurd z ?_) (λ_=>?_)
  .unfold SetTable.gaveWay;rcases B.gt.mask with e|e|e<;>rw[e]<;>decide
  rw[hst];generalize hM:t.probe _ h p=M;obtain ⟨met,rfl,r⟩:=Gy B.gt.g hM (n:=n) (by show n<10*(t.mask+15);lia) hpd he;dsimp only;rcases r with ⟨m,h1,rfl,h3⟩|⟨i,m,h1,rfl,h3⟩
  .exact aC (q2 _ h3 (by have:=(hin.advN m).1;lia))
  .dsimp only;have hi:t.place[i]?=some (advN t m p).j/\i<es.size:=by
    unfold SetTable.slot at h3;dsimp only at h3;split at h3
    .rename_i z;cases h3
     have z:=beq_iff_eq.mp z;have z2:=(Array.getElem?_eq_some_iff.mp z).1;have:=B.fits;simp only[SetTable.fits,d6,beq_iff_eq]at this;exact #[z,by lia]
    .split at h3<;>cases h3
   have hes:es[i]?=some es[i]:=eJ hi.2;obtain ⟨b,y,hy,py,hbt⟩:=B.at (e:=es[i]'hi.2) (Array.getElem_mem_toList hi.2);have sm:t.sameMemory t.moves t.mask=some true:=by
    unfold SetTable.sameMemory;rw[af (by simp)]
   have ne:t.slot (advN t (n-(m+1)) (advN t (m+1) p)).j=.empty:=by
    rw[<-uA,show m+1+(n-(m+1))=n by lia];exact he
   have again:=AE ho hd B px hu (h:=h) q1 q2 F (n-(m+1)) (advN t (m+1) p) (some _) rfl (by lia) (by lia) (by rw[AB];exact hpd) (hin.advN (m+1)) ne;refine wpAny_ite_split (λ_=>ao (Gx px (λu hu'=>?_) ?_)) (λ_=>?_)
   .obtain ⟨e,he',rfl⟩:=bC.mp hu';rw[Array.toList_filter]at he';obtain ⟨b',y',z1,z2,_⟩:=B.at (eD.mp he').1;exact #[b',y',z1,z2]
   .rw[ag bY];rw[hes];generalize es[i]=e0 at hes hy;obtain ⟨hh,vv⟩:=e0;have hy:vv=.ref b:=hy;subst hy;dsimp only;refine ao (wpAny_holding ((tupleKind (bz prog w)).eqBool hu py.key px.key ?_));refine ao (wpAny_setState_of ho hd B.fits ?_);dsimp only;cases hq:decide (([.inl y.1,.inl y.2]:List Key)=[.inl v.1,.inl v.2]) with
    | true=>exact aC (q1 #[b,hbt,AC (bJ hq) py])
    | false=>
     rw[ag (by decide),sm];dsimp only;rw[af rfl,h3];dsimp only;rw[hes];dsimp only;refine ao (wpAny_isSame_ref_self ?_);exact ao (aC again)
   .rw[hes];generalize es[i]=e0 at hes hy;obtain ⟨hh,vv⟩:=e0;have hy:vv=.ref b:=hy;subst hy;dsimp only;refine ao (wpAny_holding ((tupleKind (bz prog w)).eqBool hu py.key px.key ?_));refine ao (wpAny_setState_of ho hd B.fits ?_);dsimp only;cases hq:decide (([.inl y.1,.inl y.2]:List Key)=[.inl v.1,.inl v.2]) with
    | true=>exact aC (q1 #[b,hbt,AC (bJ hq) py])
    | false=>
     rw[ag (by decide),sm];dsimp only;rw[af rfl,h3];dsimp only;rw[hes];dsimp only;refine ao (wpAny_isSame_ref_self ?_);exact ao (aC again)
end
end SetV
namespace SetV
open PySem PySem.Spec PyProof.Rows SetW L2
set_option maxRecDepth 100000
def AG {α:Type}(xs:Array α)(p:Nat)(x:α):(SetTable.insertAt xs p x).size=xs.size+1:=by
 have:=(SetTable.insertAt_perm xs p x).length_eq;simpa using this
def Gz {xs:Array Nat}{p x j:Nat}(h:j∈(SetTable.insertAt xs p x).toList):j∈xs.toList\/j=x:=by
 have:=(SetTable.insertAt_perm xs p x).mem_iff.mp h;simpa using this
def GA {t:SetTable}(x:GT t){j:Nat}(hj:t.slot j=.empty)(hm:j<=t.mask):Good (t.put j).1/\(t.put j).1.mask=t.mask/\(t.put j).1.place.size=t.place.size+1/\(t.put j).1.led=t.led/\(∀ i∈(t.put j).1.place.toList,i<=t.mask)/\(t.put j).1.fits (t.place.size+1)=true:=by
 have hn:=(Ad x.g j).2 hj;have hdm:(t.put j).1.dummies=(List.toArray []):=by
  show (if SetTable.has t.dummies j then _ else t.dummies)=(List.toArray [])
  rw[x.g.no,SetW.has_none];rfl
 have hsz:(t.put j).1.place.size=t.place.size+1:=AG ..;refine #[#[Gf x.g.up hn,hdm],rfl,hsz,rfl,λi hi=>?_,?_]
 .rcases Gz hi with z|z
  .exact x.b i z
  .omega
 .have hf:(t.put j).1.fill=t.place.size+1:=by
   unfold SetTable.fill;rw[hdm,hsz];rfl
  simp only[SetTable.fits,d6,beq_iff_eq,decide_eq_true_eq];refine #[hsz,?_];rw[hf];show t.place.size+1<=t.mask;rcases x.m with ⟨a,b⟩|⟨a,b⟩|⟨a,b⟩<;>lia
def live (M:Nat)(o:Array (Option Nat)):List (Nat×Nat):=(List.range (M+1)).filterMap λj=>(o.getD j none).map (j,·)
def AH {M:Nat}{o:Array (Option Nat)}(h:o.size=M+1):(live M o).map (·.2)=o.toList.filterMap id:=by
 have e:o.toList=(List.range (M+1)).map λj=>o.getD j none:=by
  apply List.ext_getElem
  .simp[h]
  .intro i h1 h2;have:i<o.size:=by simpa using h1
   simp[this]
 rw[e,List.filterMap_map];unfold live;rw[List.map_filterMap];congr 1
 funext j
 show Option.map _ (Option.map _ (o.getD j none))=o.getD j none;cases o.getD j none<;>rfl
def GB (M:Nat)(o:Array (Option Nat)):Up1 ((live M o).map (·.1))/\∀ j∈(live M o).map (·.1),j<=M:=by
 constructor
 .refine iM.mpr (List.pairwise_filterMap.mpr (List.pairwise_lt_range.imp λ{a b} hab x hx y hy=>?_));obtain ⟨_,_,rfl⟩:=eV.mp hx;obtain ⟨_,_,rfl⟩:=eV.mp hy;exact hab
 .intro j hj;obtain ⟨x,hx,rfl⟩:=bC.mp hj;obtain ⟨i,hi,e⟩:=sf.mp hx;obtain ⟨_,_,rfl⟩:=eV.mp e;have:=dw.mp hi;show i<=M;lia
def GC {g:Nat}(hM:Mask M){t:SetTable}{es:Array (Int×Value)}(hg:SetTable.sizeAbove g-1=M)(h:(M=7/\es.size<5)\/(M=31/\es.size<19)\/(M=127/\es.size<77)):∃ t' order,t.relaid (es.map (·.1)) g=some (t',order)/\GT t'/\t'.led=t.led/\t'.fits es.size=true/\(order.filterMap (es[·]?)).toList.Perm es.toList:=by
 have hlt:es.size<M+1:=by rcases h with ⟨a,b⟩|⟨a,b⟩|⟨a,b⟩<;>lia
 obtain ⟨owner,h1,h2,h3⟩:=Gw hM (es.map (·.1)) (by rw[Array.size_map];exact hlt);rw[Array.size_map]at h3;have hl:(live M owner).length=es.size:=by
  rw[<-aq (f:=(·.2)),AH h2,h3.length_eq,cv]
 obtain ⟨u1,u2⟩:=GB M owner;have hsz:((live M owner).map (·.1)).toArray.size=es.size:=by simp[hl]
 refine #[{ mask:=M,place:=((live M owner).map (·.1)).toArray,dummies:=(List.toArray []),finger:=t.finger,led:=t.led,moves:=t.movedTo M,plain:=t.plain },((live M owner).map (·.2)).toArray,?_,#[#[u1,rfl],?_,u2],rfl,?_,?_]
 .unfold SetTable.relaid SetTable.laid;rw[hg,h1];rfl
 .show (M=7/\((live M owner).map (·.1)).toArray.size<5)\/(M=31/\((live M owner).map (·.1)).toArray.size<19)\/(M=127/\((live M owner).map (·.1)).toArray.size<77);rw[hsz];exact h
 .simp only[SetTable.fits,SetTable.fill,d6,beq_iff_eq,decide_eq_true_eq];simp[hl];lia
 .rw[Array.toList_filterMap];show (((live M owner).map (·.2)).filterMap λi=>es[i]?).Perm es.toList;rw[AH h2];refine (h3.filterMap _).trans ?_;rw[filterMap_getElem?_range]
end SetV
namespace SetV
open PySem PySem.Spec PyProof.Rows SetW L2
set_option maxRecDepth 100000
section
variable {prog:Program}{w:World}{A:Around}{E:Value->Shared->Prop}{s:Shared}{a:Addr}{L:Bool}
def gr (h:Heap)(a:Addr)(τ:List Addr)(L:Bool):Prop:=∃ o es ep t,h.get? a=some o/\o.ExactSet/\o.data=.set es ep t/\TB h es τ t L
def uD {h:Heap}{a:Addr}{o:Obj}(ho:h.get? a=some o)(hx:o.ExactSet)(p:Pr h b y):b≠a:=λz=>by
 obtain ⟨ob,n,t1,t2,h1,h2,_⟩:=p;rw[z,ho]at h1;cases h1
 rw[hx.1]at h2;exact absurd h2 (by decide)
def gr.keep {h':Heap}{τ:List Addr}(x:gr h a τ L)(k:∀ b o,b=a\/b∈τ->h.get? b=some o->h'.get? b=some o):gr h' a τ L:=by
 obtain ⟨o,es,ep,t,ho,hx,hd,B⟩:=x;exact #[o,es,ep,t,k a o (.inl rfl) ho,hx,hd,B.perm,λb hb=>by
  obtain ⟨y,hy⟩:=B.pr b hb;exact #[y,hy.keep λo e=>k b o (.inr hb) e],B.fits,B.gt,B.led]
def AI {h:Heap}{o:Obj}{es es':Array (Int×Value)}{ep:Nat}{t t':SetTable}(ho:h.get? a=some o)(hd:o.data=.set es ep t) :
  (h.update a (Obj.putSet es' t')).get? a=some { o with data:=.set es' (ep+1) t' }:=by
 have g:=si (Obj.putSet es' t') ho (by rw[putSet_of es' t' hd];rfl);rw[putSet_of es' t' hd]at g;exact g
def addT {τ:List Addr}{h:Int}{Q:Bool->Shared->Prop}(hS:gr s.heap a τ L)(px:Pr s.heap x v)(hu:A.units<cLine)(hlen:τ.length<76)
  (q:∀ h' b τ',Heap.SameBut a s.heap h'->gr h' a τ' L->((τ'=τ/\∃ b∈τ,Pr s.heap b v)\/τ'=τ++[x])->Q b { s with heap:=h' }) :
  wpAny (model prog w) A (setAddHashed a (.ref x) h) Q E s:=by
 obtain ⟨o,es,ep,t,ho,hx,hd,B⟩:=hS;have hsz:es.size=τ.length:=by
  have:=B.perm.length_eq;simpa using this
 have hpl:t.place.size=es.size:=by
  have:=B.fits;simp only[SetTable.fits,d6,beq_iff_eq]at this;exact this.1
 unfold setAddHashed setAddHashedIn;refine wpAny_holding (ao (wpAny_setState_of ho hd B.fits ?_));dsimp only;rw[ag (show ¬ byScan (.ref x) es=true by simp[byScan,Value.scannable])];obtain ⟨y,hy1,hy2⟩:=B.gt.free;obtain ⟨n,hn1,hn2⟩:=dist B.gt.mask (x:=(SetTable.bits h%(t.mask+1),SetTable.bits h)) (d:=none) (dy (eZ _ (dO _))) (Ax h) hy1;have hin:InR t (t.probeStart h):=#[As (dy (eZ _ (dO _))),dy (eZ _ (dO _))];have hmk:t.mask<=127:=by
  rcases B.gt.mask with e|e|e<;>lia
 refine ao ?_;unfold setSearch;refine AE ho hd B px hu (λh0=>?_) (λj hj1 hj2=>?_) 100000 n (t.probeStart h) none rfl (by lia) hn1 rfl hin (by
  show t.slot (advN t n (jV t (SetTable.bits h%(t.mask+1),SetTable.bits h) none)).j=.empty;rw[hn2];exact hy2)
 .exact aC (q s.heap false τ (Heap.SameBut.refl a s.heap) #[o,es,ep,t,ho,hx,hd,B] (.inl #[rfl,h0]))
 .dsimp only;refine ao (wpAny_setState_of ho hd B.fits ?_);dsimp only;obtain ⟨p1,p2,p3,p4,p5,p6⟩:=GA B.gt hj1 hj2;have pp:(SetTable.insertAt es (t.put j).2 (h,Value.ref x)).toList.Perm (es.push (h,Value.ref x)).toList:=SetTable.insertAt_perm ..;have ps:(SetTable.insertAt es (t.put j).2 (h,Value.ref x)).size=es.size+1:=AG ..;have pv:((SetTable.insertAt es (t.put j).2 (h,Value.ref x)).toList.map (·.2)).Perm ((τ++[x]).map Value.ref):=by
   refine (pp.map _).trans ?_;rw[ju,bo,bo];exact B.perm.append (List.Perm.refl _)
  rw[hpl]at p3 p6;generalize hT1:(t.put j).1=t1 at p1 p2 p3 p4 p5 p6;generalize hE1:SetTable.insertAt es (t.put j).2 (h,Value.ref x)=es1 at pp ps pv;have hf1:t1.fill=es.size+1:=by
   unfold SetTable.fill;rw[p1.no,p3];rfl
  have step:wpAny (model prog w) A (storeSet a es1 t1 >>= λ_=>if (!false&&t1.tooFull)=true then (setRelay a (SetTable.grown (es.size+1)) >>= λ_=>pure true) else pure true) Q E s:=by
   refine ao (wpAny_storeSet_of ho hd ?_ (fits_of_scanBound (by unfold scanBound;lia)));have g1:=AI (es':=es1) (t':=t1) ho hd;have sb:=Heap.SameBut.update s.heap a (Obj.putSet es1 t1);have pr1:∀ b∈τ++[x],∃ y,Pr (s.heap.update a (Obj.putSet es1 t1)) b y:=λb hb=>by
    rcases bj.mp hb with z|z
    .obtain ⟨y,hy⟩:=B.pr b z;exact #[y,hy.keep λob e=>by rw[sb.2 b (uD ho hx hy)];exact e]
    .rw[aM.mp z];exact #[v,px.keep λob e=>by rw[sb.2 x (uD ho hx px)];exact e]
   have hx1:({ o with data:=.set es1 (ep+1) t1 }:Obj).ExactSet:=hx;generalize s.heap.update a (Obj.putSet es1 t1)=h1 at g1 sb pr1 ⊢;rw[<-ps]at p6;refine wpAny_ite_split (λz=>?_) (λz=>?_)
   .have z:t1.tooFull=true:=z;unfold SetTable.tooFull at z;have z:=bJ z;rw[hf1,p2]at z;have e5:∃ g M,SetTable.grown (es.size+1)=g/\Mask M/\SetTable.sizeAbove g-1=M/\¬ SetTable.sizeAbove g>sizeLine/\((M=7/\es1.size<5)\/(M=31/\es1.size<19)\/(M=127/\es1.size<77)):=by
     rcases B.gt.m with ⟨m1,m2⟩|⟨m1,m2⟩|⟨m1,m2⟩
     .rw[m1]at z;refine #[20,31,by rw[show es.size+1=5 by lia];decide,.inr (.inl rfl),by decide,by rw[sizeLine_eq];decide,.inr (.inl #[rfl,by lia])]
     .rw[m1]at z;refine #[76,127,by rw[show es.size+1=19 by lia];decide,.inr (.inr rfl),by decide,by rw[sizeLine_eq];decide,.inr (.inr #[rfl,by lia])]
     .rw[m1]at z;lia
    obtain ⟨g,M,eg,hM,hg,hgl,hc⟩:=e5;obtain ⟨t2,order,r1,r2,r3,r4,r5⟩:=GC (t:=t1) (es:=es1) hM hg hc;rw[eg];refine ao ?_;unfold setRelay;refine ao (wpAny_setState_of (s:={ s with heap:=h1 }) g1 rfl p6 ?_);dsimp only;rw[ag hgl,r1];have sz2:(order.filterMap (es1[·]?)).size=es1.size:=by
     rw[<-bF,r5.length_eq,bF]
    refine ao (?_:wpAny _ _ (if ((order.filterMap (es1[·]?)).size != es1.size)=true then _ else pure (order.filterMap (es1[·]?),t2)) _ _ _)
    rw[ag (by rw[sz2];simp)];refine aC ?_;dsimp only;refine wpAny_storeSet_of (s:={ s with heap:=h1 }) g1 rfl ?_ (fits_of_scanBound (by unfold scanBound;lia));have g2:=AI (h:=h1) (es':=order.filterMap (es1[·]?)) (t':=t2) g1 rfl;have sb2:=Heap.SameBut.update h1 a (Obj.putSet (order.filterMap (es1[·]?)) t2);refine aC (q _ true (τ++[x]) (sb.trans sb2) #[_,_,_,_,g2,hx,rfl,(r5.map _).trans pv,λb hb=>?_,by rw[sz2];exact r4,r2,r3.trans (p4.trans B.led)] (.inr rfl));obtain ⟨y,hy⟩:=pr1 b hb;exact #[y,hy.keep λob e=>by rw[sb2.2 b (uD g1 hx1 hy)];exact e]
   .have z:¬ t1.tooFull=true:=z;unfold SetTable.tooFull at z;have z:¬ t1.fill*5 >= t1.mask*3:=λy=>z (bg y);rw[hf1,p2]at z;refine aC (q h1 true (τ++[x]) sb #[_,es1,_,t1,g1,hx,rfl,pv,pr1,p6,#[p1,?_,λi hi=>by rw[p2];exact p5 i hi],p4.trans B.led] (.inr rfl));rw[p2,p3];rcases B.gt.m with ⟨m1,m2⟩|⟨m1,m2⟩|⟨m1,m2⟩
    .rw[m1]at z;exact .inl #[m1,by lia]
    .rw[m1]at z;exact .inr (.inl #[m1,by lia])
    .exact .inr (.inr #[m1,by lia])
  refine wpAny_ite_split (λ_=>ao (hbv px ?_)) (λ_=>ao (aC ?_))
  .exact step
  .exact step
end
end SetV
namespace SetV
open PySem PySem.Spec PyProof.Rows SetW L2
set_option maxRecDepth 100000
section
variable {prog:Program}{w:World}{A:Around}{R:Result->Shared->Prop}{I:Addr}{fp wr:List Addr}{G:Array GenState->Array GenState->Prop}{n:Nat}{P:Nat->Value->Prop}{St:Nat->Shared->Prop}{L:Bool}
def GD (p:Pr h b x)(q:Pr h b y):x=y:=by
 obtain ⟨o,n,t1,t2,h1,_,h3⟩:=p;obtain ⟨o',n',t1',t2',h1',_,h3'⟩:=q;rw[h1]at h1';cases h1'
 rw[h3]at h3';obtain ⟨x1,x2⟩:=x;obtain ⟨y1,y2⟩:=y;injection h3' with h4 _;have h5:=congrArg Array.toList h4;injection h5 with a1 a2;injection a2 with a3 _;injection a1 with a4 _;injection a3 with a5 _;exact Prod.ext a4 a5
def GE (W:WalksS prog w A.in1 I fp wr G n P St)(S:Addr)(hSf:S∉fp)(hu:A.in1.units<cLine){f:Nat->Int×Int}(hP:∀ i v,P i v->∃ tp,v=.ref tp/\tp≠S/\tp∉wr/\Pr h0 tp (f i))(hf:∀ i j,i<n->j<n->f i=f j->i=j)(hb:n<=76) :
  ∀(k i:Nat) (s:Shared) (τ:List Addr),n-i=k->i<=n->St i s->(∀ b o,b≠S->b∉wr->h0.get? b=some o->s.heap.get? b=some o)->gr s.heap S τ L->τ.length=i->(∀ b∈τ,b∉wr/\b≠S/\∃ j,j<i/\P j (.ref b))->
   (∀ s' τ',Moved (S::wr) G s s'->gr s'.heap S τ' L->τ'.length=n->R (.ok (.ret .none)) s')->codeAny (model prog w) A (.builtin "set.update.loop" #[[.ref S,.ref I],[]]) R s:=by
 have hSw:S∉wr:=λh=>hSf (W.sub _ h);have up:∀ b∈wr,b∈S::wr:=λb hb=>bE _ hb;intro k
 induction k with
 | zero=>
  intro i s τ hk hi st kp x hl hm q;have e:i=n:=by lia
  subst e;refine codeAny_builtin F.entry_set_update_loop ?_;rw[Around.under_plainId F.plain_set_update_loop _];show wpAny _ A.in1 (pyNext (.ref I) >>= _) _ _ s;refine ao (W.done s _ _ st λs' mv=>?_);show wpAny _ A.in1 (ret Value.none) _ _ s';refine aC (q s' τ (mv.mono up) (x.keep λb o hb e=>mv.heap b o ?_ e) hl);rcases hb with rfl|hb
  .exact hSw
  .exact (hm b hb).1
 | succ k ih=>
  intro i s τ hk hi st kp x hl hm q;have hlt:i<n:=by lia
  refine codeAny_builtin F.entry_set_update_loop ?_;rw[Around.under_plainId F.plain_set_update_loop _];show wpAny _ A.in1 (pyNext (.ref I) >>= _) _ _ s;refine ao (W.item i s _ _ hlt st λv s' hPi st' mv=>?_);obtain ⟨tp,rfl,n1,n2,py⟩:=hP i v hPi;have py':Pr s'.heap tp (f i):=py.keep λo e=>mv.heap tp o n2 (kp tp o n1 n2 e);have x':gr s'.heap S τ L:=x.keep λb o hb e=>mv.heap b o (by
   rcases hb with rfl|hb
   .exact hSw
   .exact (hm b hb).1) e
  show wpAny _ A.in1 (holding [Value.ref tp] (setAdd S (.ref tp)) >>= _) _ _ s';refine ao (wpAny_holding ?_);unfold setAdd;refine wpAny_holding (ao ((tupleKind (bz prog w)).pyHash hu py'.key ?_));generalize hk9:s'.toks+(tupleKind (bz prog w)).draws [Sum.inl (f i).1,Sum.inl (f i).2]=tk9;have htk:s'.toks<=tk9:=by
   rw[<-hk9];exact cq _ _
  refine addT (s:={ s' with toks:=tk9 }) x' py' hu (by lia) λh' _ τ2 sb x2 c=>?_;have c:τ2=τ++[tp]:=by
   rcases c with ⟨_,b,hb1,hb2⟩|c
   .exfalso;obtain ⟨m1,m2,j,hj,hPj⟩:=hm b hb1;obtain ⟨tp',e,_,_,pj⟩:=hP j _ hPj;cases e
    have pj':Pr s'.heap b (f j):=pj.keep λo e=>mv.heap b o m1 (kp b o m2 m1 e);have:=hf j i (by lia) hlt (GD pj' hb2);lia
   .exact c
  subst c;refine aC #[plainId_quiet F.plain_set_update_loop _,ih (i+1) _ (τ++[tp]) (by lia) hlt (W.frame _ s' _ _ st' htk λb hb o e=>?_) (λb o m1 m2 e=>?_) x2 (by rw[aV,hl];rfl) (λb hb=>?_) λs'' τ3 mv'' x3=>?_]
  .rw[sb.2 b (λh:b=S=>hSf (by rw[<-h];exact hb))];exact e
  .rw[sb.2 b m1];exact mv.heap b o m2 (kp b o m1 m2 e)
  .rcases bj.mp hb with z|z
   .obtain ⟨a1,a2,j,a3,a4⟩:=hm b z;exact #[a1,a2,j,by lia,a4]
   .rw[aM.mp z];exact #[n2,n1,i,jz _,hPi]
  .refine q s'' τ3 (Moved.trans W.gtrans ((mv.mono up).then_heap htk λb o hb e=>?_) mv'') x3;rw[sb.2 b (λh:b=S=>hb (by rw[h];exact bu))];exact e
end
end SetV
namespace SetV
open PySem PySem.Spec PyProof.Rows SetW L2
section
variable {prog:Program}{w:World}{A:Around}{E:Value->Shared->Prop}{s:Shared}
set_option maxRecDepth 100000 in
set_option maxHeartbeats 3200000 in
def of_listT {l:Addr}{items:Array Value}{Q:Value->Shared->Prop}(hh:A.handled=none)(hu:A.units+8<cLine)(hl:s.heap.IsList l items){f:Nat->Int×Int}(hi:∀(i:Nat) v,items[i]?=some v->∃ tp,v=.ref tp/\Pr s.heap tp (f i))(hf:∀ i j,i<items.size->j<items.size->f i=f j->i=j)(hb:items.size<=76)
  (h:∀(h':Heap) (tk:Nat) (τ:List Addr),gr h' s.heap.objs.size τ (!w.params.followText "set-order")->τ.length=items.size->
   (∀ b o,b<s.heap.objs.size->s.heap.get? b=some o->h'.get? b=some o)->Q (.ref s.heap.objs.size) { s with heap:=h',toks:=tk }) :
  wpAny (model prog w) A (call (.type "set") [.ref l]) Q E s:=by
 obtain ⟨c,tl,hmro⟩:=F.called_set.mro;have hmade:=F.called_set.made;have hsub:=F.called_set.sub;refine wpAny_call (codeAny_of_tree ?_);show wpAny _ _ (callAny (.type "set") _) _ _ _;refine aC #[Code.quiet_builtin _ (by decide +kernel),codeAny_builtin F.entry_type_call ?_];rw[Around.under_plain (weight_type_call_type "set" [.ref l] []) rfl];have h1:=F.called_set.notType;have h2:=F.called_set.canCreate;have hct:=F.typeCall_set_1 (.ref l)
 repeat (any_goals (first|assumption|wp_step))
 refine codeAny_mono (Gg (.ref l) (E:=E) (Q₁:=λobj s₁=>obj=.ref s.heap.objs.size/\s₁={ s with heap:=s.heap.push (nu w) }) #[rfl,rfl]) λr s₁ hr=>?_;cases r with
 | error e=>exact hr
 | ok fl=>
  cases fl with
  | ret obj=>
   obtain ⟨rfl,rfl⟩:=hr;have hS:(s.heap.push (nu w)).get? s.heap.objs.size=some (nu w):=cQ _ rfl;have hT:Shared.TypeIs { s with heap:=s.heap.push (nu w) } (.ref s.heap.objs.size) "set":=#[_,hS,rfl];have hli:=F.called_set.init.lookup;have hbi:=F.called_set.init.bind (.ref s.heap.objs.size)
   repeat (any_goals (first|assumption|wp_step))
   refine codeAny_mono (codeAny_call_builtin (R:=wants (λr s₂=>r=.none/\∃ h' tk τ,s₂={ s with heap:=h',toks:=tk }/\
     gr h' s.heap.objs.size τ (!w.params.followText "set-order")/\τ.length=items.size/\
     (∀ b o,b<s.heap.objs.size->s.heap.get? b=some o->h'.get? b=some o)) E) F.called_set.init.plain F.entry_set_init (check_set_init_1 hT ?_)) λr₂ s₂ hr₂=>?_
   .obtain ⟨ol,hol,hcl,nl,hdl⟩:=hl;obtain ⟨ocls,odict,odata,oslots⟩:=ol;simp only at hcl hdl;subst hcl;subst hdl;have there:(s.heap.push (nu w)).get? l=some { cls:=.type "list",dict:=odict,data:=.seq items nl,slots:=oslots }:=aU _ hol;have hsls:=F.sub_list_set;have hslf:=F.sub_list_frozenset;have hne:(Value.type "list" == Value.type "dict")=false:=by decide
    have hl1:(s.heap.push (nu w)).IsList l items:=#[_,there,rfl,nl,rfl];unfold Builtin.«set.__init__» noKeywords Builtin.Frozenset.updateFrom;generalize hPI:pyIter=PI
    wp_walk
    subst hPI;refine wpAny_pyIter_list hl1 ?_;refine ao (wpAny_runValue ?_);have hlS:l<s.heap.objs.size:=aJ hol;have h3:A.in1.in1.in1.handled=none:=by simp[hh]
    have hsz:(s.heap.push (nu w)).objs.size=s.heap.objs.size+1:=jy ..;have hneI:l≠(s.heap.push (nu w)).objs.size:=by
     rw[hsz];exact bh (nq hlS)
    have hSf:s.heap.objs.size∉[(s.heap.push (nu w)).objs.size,l]:=by
     rw[hsz];simp only[aX,ee,or_false,not_or];exact #[bh (jz _),iE hlS]
    have hPt:∀(i:Nat) (v:Value),items[i]?=some v->∃ tp,v=.ref tp/\tp≠s.heap.objs.size/\tp∉[(s.heap.push (nu w)).objs.size]/\Pr s.heap tp (f i):=λi v hv=>by
     obtain ⟨tp,e1,e2⟩:=hi i v hv;have htp:tp<s.heap.objs.size:=by
      obtain ⟨o,n,t1,t2,h1,_⟩:=e2;exact aJ h1
     refine #[tp,e1,bh htp,λz=>?_,e2];rw[aM.mp z,hsz]at htp;exact absurd htp (hW.mpr (dj _))
    refine GE (L:=!w.params.followText "set-order") (h0:=s.heap) ((Walks.list h3 _ l hneI items).toS) s.heap.objs.size
     hSf (by show A.units+1+1+1<cLine;lia) hPt hf hb (items.size-0) 0 _ [] (by lia) (bG _)
     #[#[_,cQ _ rfl,rfl,rfl],(hl1.push _)] (λb o _ _ e=>aU _ (aU _ e)) ?hS0 rfl (λb hb=>by cases hb) ?hR
    case hS0=>
     exact #[_,(List.toArray []),0,_,aU _ hS,#[rfl,rfl,rfl],rfl,#[List.Perm.refl _,(λb hb=>by cases hb),by rfl,#[#[List.Pairwise.nil,rfl],.inl #[rfl,by show 0<5;decide],(λj hj=>by cases hj)],rfl]]
    case hR=>
     intro s' τ hm hS' hle;obtain ⟨h',g',d',tk',os'⟩:=s';have eg:g'=s.gens:=hm.gens;have ed:d'=s.drawn:=hm.drawn;have eo:os'=s.os:=hm.os;subst eg;subst ed;subst eo;show wpAny _ _ _ _ _ _;refine aC ?_;show wpAny _ _ (ret Value.none) _ _ _;refine aC #[rfl,h',tk',τ,rfl,hS',hle,λb o hb e=>?_];refine hm.heap b o ?_ (aU _ (aU _ e));rw[hsz];simp only[aX,ee,or_false,not_or];exact #[bh hb,bh (nq hb)]
   .cases r₂ with
    | error e=>exact hr₂
    | ok fl₂=>
     cases fl₂ with
     | ret r=>
      obtain ⟨rfl,h',tk,τ,rfl,hS',hle,hk'⟩:=hr₂
      repeat (any_goals (first|assumption|wp_step))
      exact h _ _ τ hS' hle hk'
     | _=>exact hr₂.elim
  | _=>exact hr.elim
end
end SetV
namespace L2
open PySem PySem.Spec PyProof.Rows
def AJ (o:Obj)(n:Nat):Prop:=o.ExactSet/\∃ es ep t,o.data=.set es ep t/\es.size=n/\t.fits es.size=true
inductive AK (K:Frag)(xs:List V)(H:Hp)(Q:VK):Prop
 | c:∀(p:Addr) (ps:List (Int×Int)) (vs:List V),xs=[.ref p]->SqL K H p vs->aB K H ps vs->ps.length<=76->ps.Nodup->(∀ l o,H l=none->AJ o ps.length->Q (.ref l) (upd H l (.ext λh=>h.get? l=some o)))->AK K xs H Q
section
variable {X:Cx}
def GF (I:Inv X LI U H s){e:Int×Int}{u:Value}(h:hasP X.K H e v)(r:RelV v u):∃ tp,u=.ref tp/\SetV.Pr s.heap tp e:=by
 obtain ⟨b,x1,x2,rfl,q,e1,e2⟩:=h;have e1:x1=.int e.1:=e1;have e2:x2=.int e.2:=e2;subst e1 e2;cases r
 obtain ⟨its,rv,p,_⟩:=I.tuple (SqT.of q);obtain ⟨u1,u2,rfl,⟨t1,rfl⟩,⟨t2,rfl⟩⟩:=gM rv;obtain ⟨o,h1,h2,n,h3⟩:=(show s.heap.IsTuple b _ from p);exact #[b,rfl,o,n,t1,t2,h1,h2,h3]
def AL:∀{vs:List V} {us:List Value} {i:Nat} {u:Value},Vals vs us->us[i]?=some u->∃ v,vs[i]?=some v/\RelV v u
 | _,_,_,_,.nil,h=>by simp at h
 | _,_,0,_,.cons r _,h=>#[_,rfl,by rw[<-aK h];exact r]
 | _,_,i+1,_,.cons _ t,h=>AL (i:=i) t h
def GG (hc:X.calm=true)(hu:X.A.units+8<cLine):cT X (.type "set") (AK X.K):=by
 intro LI s U H xs us Q I r h;obtain ⟨p,ps,vs,rfl,hq,ha,hz,hn,q⟩:=h;obtain ⟨u,rfl,rx⟩:=fE r;cases rx
 obtain ⟨its,rv,pl,_⟩:=I.list hq;have hl1:=rv.length;have hl2:=ha.length;have hsz:its.toArray.size=ps.length:=by rw[bM];lia
 refine SetV.of_listT (f:=λi=>ps.getD i (0,0)) (I.ok.hd hc) hu pl.isList (λi v hv=>?_) (λi j hi hj e=>?_) (by lia) λh' tk τ hS hle hk=>?_
 .have hv:its[i]?=some v:=by simpa using hv
  obtain ⟨x,hx,rr⟩:=AL rv hv;obtain ⟨e,he,hh⟩:=ha.get hx;obtain ⟨tp,e1,e2⟩:=GF I hh rr;refine #[tp,e1,?_];rw[aA,he];exact e2
 .rw[hsz]at hi hj;have e:ps.getD i (0,0)=ps.getD j (0,0):=e;rw[aA,aA,aw hi,aw hj]at e;have e:ps[i]=ps[j]:=e;rcases Nat.lt_trichotomy i j with c|c|c
  .exact absurd e (cM.mp hn i j hi hj c)
  .exact c
  .exact absurd e.symm (cM.mp hn j i hj hi c)
 obtain ⟨o,es,ep,t,ho,hx,hd,B⟩:=hS;have hes:es.size=ps.length:=by
  have:=B.perm.length_eq;simp only[aq,bF]at this;lia
 exact #[.ref s.heap.objs.size,_,I.laid (a:=s.heap.objs.size) (o:=.ext λh=>h.get? s.heap.objs.size=some o) (t':=tk) (λb o eb=>hk b o (aJ eb) eb) (ai _) #[ho,#[o,ho],λh1 h2 z k=>k o z],rfl,
  q _ o (I.hok.fresh (ai _)) #[hx,es,ep,t,hd,hes,B.fits]]
def GH:cT X (.builtin "len") (λxs H Q=>∃(p:Addr) (o:Obj) (n:Nat),xs=[.ref p]/\H p=some (.ext λh=>h.get? p=some o)/\AJ o n/\n<=1000/\Q (.int n) H):=by
 intro LI s U H xs us Q I r h;obtain ⟨p,o,n,rfl,hp,⟨hx,es,ep,t,hd,rfl,hf⟩,hn,q⟩:=h;obtain ⟨u,rfl,rx⟩:=fE r;cases rx
 have ho:s.heap.get? p=some o:=(show bB X.prog X.w H s.heap p (.ext λh=>h.get? p=some o) from I.hok p _ hp).1;exact call_len_set ho hx hd hf (by lia) #[.int _,H,I.tok _,#[_,rfl],q]
end
end L2
set_option maxHeartbeats 4000000
namespace My
open PySem PySem.Spec PyProof.Rows L2
local macro_rules|`(tactic| walk_at "sc") => `(tactic| exact ⟨rfl,rfl,rfl,by decide +kernel,rfl,by decide +kernel,by decide +kernel⟩)
local macro_rules|`(tactic| walk_at "side")=>`(tactic| first|lia|(dsimp only;lia)|(simp only[CDiv,ES,CPow,CMul];lia)|decide)
local macro_rules|`(tactic| walk_at "rd")=>`(tactic| repeat (first|(refine ⟨_,_,rfl,rfl,(by walk_at "side"),?_⟩)|(refine ⟨_,rfl,?_⟩)|(refine ⟨_,_,rfl,rfl,?_⟩)|(refine ⟨rfl,?_⟩)|(refine ⟨(by walk_at "side"),?_⟩)))
def top (i:Nat):Stmt:=PySem.Challenge.pw_bridgefind_k28_searches_down_a_way.main.body.getD i (.Pass #[0,0,0,0])
abbrev ou:Stmt:=top 2
abbrev ow:Stmt:=top 3
abbrev ox:Stmt:=top 4
abbrev oy:Stmt:=top 7
abbrev oA:Stmt:=top 8
abbrev oB:Stmt:=top 9
abbrev oC:Stmt:=top 11
abbrev oD:Stmt:=top 12
abbrev oE:Stmt:=top 13
abbrev oF:Stmt:=top 14
abbrev oG:Stmt:=top 15
abbrev oH:Stmt:=top 17
abbrev oI:Stmt:=top 18
abbrev oJ:Stmt:=top 20
abbrev oK:Stmt:=top 21
abbrev oM:Stmt:=top 22
abbrev oN:Stmt:=top 24
abbrev oO:Stmt:=top 25
abbrev oP:Stmt:=top 26
abbrev oQ:Stmt:=top 27
abbrev jW:Stmt:=top 30
abbrev oR:Stmt:=top 31
abbrev oS:Stmt:=top 32
abbrev oT:Stmt:=top 33
abbrev oU:Stmt:=top 35
abbrev oV:Stmt:=top 36
abbrev oW:Stmt:=top 37
abbrev oX:Stmt:=top 38
abbrev oY:Stmt:=top 39
abbrev oZ:Stmt:=top 40
abbrev o4:Stmt:=top 41
abbrev o5:Stmt:=top 42
abbrev o6:Stmt:=top 43
abbrev o7:Stmt:=top 44
abbrev o8:Stmt:=top 45
abbrev o9:Stmt:=top 46
abbrev pe:Stmt:=top 47
abbrev ph:Stmt:=top 48
abbrev pk:Stmt:=top 49
abbrev pq:Stmt:=top 50
abbrev pw:Stmt:=top 51
abbrev pz:Stmt:=top 52
abbrev pA:Stmt:=top 53
abbrev pB:Stmt:=top 54
abbrev pC:Stmt:=top 55
abbrev pD:Stmt:=top 56
abbrev pE:Stmt:=top 57
abbrev jX:Stmt:=top 58
def uE:aP ["entry","key","z"] ["entry"] (aH ou):=by walk_at "sc"
def jY:aP ["length","is_below","low","high","middle"] ["length","is_below"] (aH ow):=by walk_at "sc"
def uF:aP ["lists","together","entries"] ["lists"] (aH ox):=by walk_at "sc"
def AM:aP ["one","other","unlike"] ["one","other"] (aH oy):=by walk_at "sc"
def lX:aP ["numbers","told","at","number","figure"] ["numbers"] (aH oA):=by walk_at "sc"
def pF:aP ["entries","numbers","turn"] ["entries"] (aH oB):=by walk_at "sc"
def GI:aP ["things","at"] ["things","at"] (aH oC):=by walk_at "sc"
def GJ:aP ["taken"] ["taken"] (aH oD):=by walk_at "sc"
def pG:aP ["numbers","told","label","at"] ["numbers"] (aH oE):=by walk_at "sc"
def lY:aP ["entries","tints","told","colour","at"] ["entries"] (aH oF):=by walk_at "sc"
def GK:aP ["entries"] ["entries"] (aH oG):=by walk_at "sc"
def GL:aP ["tree","knot"] ["tree","knot"] (aH oH):=by walk_at "sc"
def uG:aP ["tree","knot","told","other"] ["tree","knot"] (aH oI):=by walk_at "sc"
def GM:aP ["stand","knot"] ["stand","knot"] (aH oJ):=by walk_at "sc"
def lZ:aP ["stand","knot","tree","told","at","parts"] ["stand","knot"] (aH oK):=by walk_at "sc"
def AN:aP ["stand","told"] ["stand"] (aH oM):=by walk_at "sc"
def uH:aP ["full","knot","told","entry"] ["full","knot"] (aH oN):=by walk_at "sc"
def jZ:aP ["full","child_full","behind","at","entry","told"] ["full","child_full"] (aH oO):=by walk_at "sc"
def l4:aP ["tree","fulls","told","knot","full","jumps"] ["tree","fulls"] (aH oP):=by walk_at "sc"
def GN:aP ["stand"] ["stand"] (aH oQ):=by walk_at "sc"
def GO:aP ["bridges","knot","is_below"] ["bridges","knot","is_below"] (aH jW):=by walk_at "sc"
def GP:aP ["bridges","knot","at","child"] ["bridges","knot","at","child"] (aH oR):=by walk_at "sc"
def pH:aP ["bridges","knot","start","is_below","beyond","at"] ["bridges","knot","start","is_below"] (aH oS):=by walk_at "sc"
def j4:aP ["bridges","way","is_below","at","told","parent","knot"] ["bridges","way","is_below"] (aH oT):=by walk_at "sc"
def GQ:aP ["_law_script"] ["_law_script"] (aH oU):=by walk_at "sc"
def uI:aP ["_law_cell","_law_k","_law_one","_law_two"] ["_law_cell","_law_k"] (aH oV):=by walk_at "sc"
def j5:aP ["_law_state","_law_most","_law_k","_law_script","_law_cell","_law_found"] ["_law_state","_law_most"] (aH oW):=by walk_at "sc"
def AO:aP ["_law_state","_law_way_here"] ["_law_state"] (aH oX):=by walk_at "sc"
def pI:aP ["_law_state","_law_most","_law_way_here","_law_parents","_law_k"] ["_law_state","_law_most"] (aH oY):=by walk_at "sc"
def uJ:aP ["_law_state","_law_most","_law_found","_law_k"] ["_law_state","_law_most"] (aH oZ):=by walk_at "sc"
def j6:aP ["_law_state","_law_many","_law_most","_law_rows_here","_law_k","_law_row_here"] ["_law_state","_law_many","_law_most"] (aH o4):=by walk_at "sc"
def GR:aP ["_law_tree_here","_law_knot"] ["_law_tree_here","_law_knot"] (aH o5):=by walk_at "sc"
def pJ:aP ["_law_state","_law_tree_here","_law_way_here","_law_some"] ["_law_state","_law_tree_here"] (aH o6):=by walk_at "sc"
def uK:aP ["_law_entry","_law_key_here","_law_knot"] ["_law_entry"] (aH o7):=by walk_at "sc"
def gQ:aP ["_law_numbers","_law_found","_law_k","_law_one","_law_other","_law_b"] ["_law_numbers"] (aH o8):=by walk_at "sc"
def j7:aP ["_law_numbers","_law_found","_law_high","_law_at","_law_k","_law_beside"] ["_law_numbers"] (aH o9):=by walk_at "sc"
def ip:aP ["_law_entries","_law_numbers","_law_k","_law_shades","_law_found","_law_shade"] ["_law_entries"] (aH pe):=by walk_at "sc"
def j8:aP ["_law_tree_here","_law_rows_here","_law_found","_law_k","_law_up","_law_entry","_law_is_on"] ["_law_tree_here","_law_rows_here"] (aH ph):=by walk_at "sc"
def AQ:aP ["_law_state","_law_most","_law_keys","_law_tree_here"] ["_law_state","_law_most","_law_keys"] (aH pk):=by walk_at "sc"
def j9:aP ["_law_state","_law_tree_here","_law_rows_here","_law_at","_law_first","_law_step","_law_wide_here"] ["_law_state","_law_tree_here","_law_rows_here"] (aH pq):=by walk_at "sc"
def GS:aP ["_law_bridged"] ["_law_bridged"] (aH pw):=by walk_at "sc"
def GU:aP ["_law_asked_here","_law_fulls_here","_law_key_here","_law_knot","_law_number"] ["_law_asked_here","_law_fulls_here","_law_key_here","_law_knot","_law_number"] (aH pz):=by walk_at "sc"
def pK:aP ["_law_number","_law_found"] ["_law_number"] (aH pA):=by walk_at "sc"
def AR:aP ["_law_fulls_here","_law_rows_here","_law_knot","_law_key_here","_law_wide_here"] ["_law_fulls_here","_law_rows_here","_law_knot","_law_key_here"] (aH pB):=by walk_at "sc"
def GV:aP ["_law_found","_law_due"] ["_law_found","_law_due"] (aH pC):=by walk_at "sc"
def GW:aP ["_law_bridged","_law_parent","_law_child","_law_spot"] ["_law_bridged","_law_parent","_law_child","_law_spot"] (aH pD):=by walk_at "sc"
def l5:aP ["_law_bridged","_law_fulls_here","_law_way_here","_law_found","_law_asked_here","_law_knot","_law_number","_law_at","_law_start_here"] ["_law_bridged","_law_fulls_here","_law_way_here","_law_found","_law_asked_here"] (aH pE):=by walk_at "sc"
def dr:aP ["_law_script","_law_state","_law_tree_here","_law_rows_here","_law_fulls_here","_law_bridged","_law_kept","_law_turn","_law_way_here","_law_key_here","_law_asked_here","_law_given","_law_found","_law_knot","_law_one"] ["_law_script"] (aH jX):=by walk_at "sc"
abbrev pL:List Str:=["entry"]
abbrev pM:List Str:=["length","is_below"]
abbrev pN:List Str:=["lists"]
abbrev pO:List Str:=["one","other"]
abbrev pP:List Str:=["numbers"]
abbrev pQ:List Str:=["entries"]
abbrev l7:List Str:=["things","at"]
abbrev pR:List Str:=["taken"]
abbrev pS:List Str:=["numbers"]
abbrev pT:List Str:=["entries"]
abbrev pU:List Str:=["entries"]
abbrev l9:List Str:=["tree","knot"]
abbrev pV:List Str:=["tree","knot"]
abbrev pW:List Str:=["stand","knot"]
abbrev pX:List Str:=["stand","knot"]
abbrev pY:List Str:=["stand"]
abbrev pZ:List Str:=["full","knot"]
abbrev p7:List Str:=["full","child_full"]
abbrev p8:List Str:=["tree","fulls"]
abbrev p9:List Str:=["stand"]
abbrev qa:List Str:=["bridges","knot","is_below"]
abbrev qb:List Str:=["bridges","knot","at","child"]
abbrev qd:List Str:=["bridges","knot","start","is_below"]
abbrev qe:List Str:=["bridges","way","is_below"]
abbrev qf:List Str:=["_law_script"]
abbrev qg:List Str:=["_law_cell","_law_k"]
abbrev gw:List Str:=["_law_state","_law_most"]
abbrev ma:List Str:=["_law_state"]
abbrev qh:List Str:=["_law_state","_law_most"]
abbrev qi:List Str:=["_law_state","_law_most"]
abbrev qj:List Str:=["_law_state","_law_many","_law_most"]
abbrev ql:List Str:=["_law_tree_here","_law_knot"]
abbrev qm:List Str:=["_law_state","_law_tree_here"]
abbrev qo:List Str:=["_law_entry"]
abbrev qp:List Str:=["_law_numbers"]
abbrev qr:List Str:=["_law_numbers"]
abbrev qt:List Str:=["_law_entries"]
abbrev qv:List Str:=["_law_tree_here","_law_rows_here"]
abbrev qw:List Str:=["_law_state","_law_most","_law_keys"]
abbrev qx:List Str:=["_law_state","_law_tree_here","_law_rows_here"]
abbrev qy:List Str:=["_law_bridged"]
abbrev qz:List Str:=["_law_asked_here","_law_fulls_here","_law_key_here","_law_knot","_law_number"]
abbrev qA:List Str:=["_law_number"]
abbrev qB:List Str:=["_law_fulls_here","_law_rows_here","_law_knot","_law_key_here"]
abbrev qC:List Str:=["_law_found","_law_due"]
abbrev qD:List Str:=["_law_bridged","_law_parent","_law_child","_law_spot"]
abbrev qE:List Str:=["_law_bridged","_law_fulls_here","_law_way_here","_law_found","_law_asked_here"]
abbrev qF:List Str:=["_law_script"]
structure Txt (K:Frag)(mg:Str->Option Value):Prop where
 CJ:mg "abs" = none
 Kq:mg "all" = none
 Kr:mg "bool" = none
 CK:mg "dict" = none
 we:mg "enumerate" = none
 Ks:mg "int" = none
 rJ:mg "isinstance" = none
 bQ:mg "len" = none
 jh:mg "list" = none
 wg:mg "max" = none
 CL:mg "min" = none
 c8:mg "range" = none
 CM:mg "repr" = none
 Kt:mg "reversed" = none
 Ku:mg "set" = none
 rK:mg "sorted" = none
 mO:mg "tuple" = none
 rL:mg "zip" = none
 Kv:∃ t,mg "KNOT_NUMBERS" = some (.int 64 t)
 Kw:∃ t,mg "TURNS" = some (.int 5 t)
 Kx:∃ t,mg "MOST_BEHIND_START" = some (.int 2 t)
def uL (m n i j:Nat)(hi:i<2)(hj:j<2):(2*m+i) &&& (2*n+j)=2*(m &&& n)+(i &&& j):=by
 apply Nat.eq_of_testBit_eq;intro k;cases k with
 | zero=>
  have h1:i=0\/i=1:=by lia
  have h2:j=0\/j=1:=by lia
  rcases h1 with rfl|rfl<;>rcases h2 with rfl|rfl<;>simp[Nat.testBit_zero]<;>lia
 | succ k=>
  have h1:i=0\/i=1:=by lia
  have h2:j=0\/j=1:=by lia
  have e1:(2*m+i)/2=m:=by lia
  have e2:(2*n+j)/2=n:=by lia
  have e3:(2*(m &&& n)+(i &&& j))/2=m &&& n:=by
   rcases h1 with rfl|rfl<;>rcases h2 with rfl|rfl<;>simp<;>lia
  rw[Nat.testBit_and,jA,jA,jA,e1,e2,e3,Nat.testBit_and]
def GX (m n i j:Nat)(hi:i<2)(hj:j<2):(2*m+i) ||| (2*n+j)=2*(m ||| n)+(i ||| j):=by
 apply Nat.eq_of_testBit_eq;intro k;cases k with
 | zero=>
  have h1:i=0\/i=1:=by lia
  have h2:j=0\/j=1:=by lia
  rcases h1 with rfl|rfl<;>rcases h2 with rfl|rfl<;>simp[Nat.testBit_zero]<;>lia
 | succ k=>
  have h1:i=0\/i=1:=by lia
  have h2:j=0\/j=1:=by lia
  have e1:(2*m+i)/2=m:=by lia
  have e2:(2*n+j)/2=n:=by lia
  have e3:(2*(m ||| n)+(i ||| j))/2=m ||| n:=by
   rcases h1 with rfl|rfl<;>rcases h2 with rfl|rfl<;>simp<;>lia
  rw[Nat.testBit_or,jA,jA,jA,e1,e2,e3,Nat.testBit_or]
def lu (a b:Nat):Nat:=if a=b then 0 else if a%2=b%2 then lu (a/2) (b/2)+1 else 0
termination_by a+b
decreasing_by lia
def qG {a b:Nat}(hab:a≠b)(h:a%2=b%2):lu a b=lu (a/2) (b/2)+1:=by
 rw[lu,ag hab,af h]
def qH {a b:Nat}(h:a%2≠b%2):lu a b=0:=by
 rw[lu];split
 .rfl
 .rfl
def xr (a b:Nat):Nat:=(a ||| b)-(a &&& b)
def iq (n:Nat):Nat:=n-(n &&& (n-1))
def AS (a b:Nat):a &&& b<=a ||| b:=az Nat.and_le_left Nat.left_le_or
def GY (m n i j:Nat)(hi:i<2)(hj:j<2):xr (2*m+i) (2*n+j)=2*xr m n+(if i=j then 0 else 1):=by
 unfold xr;rw[GX m n i j hi hj,uL m n i j hi hj];have q:=AS m n;have h1:i=0\/i=1:=by lia
 have h2:j=0\/j=1:=by lia
 rcases h1 with rfl|rfl<;>rcases h2 with rfl|rfl<;>simp<;>lia
def AU (a b:Nat):xr a b=2*xr (a/2) (b/2)+(if a%2=b%2 then 0 else 1):=by
 have e1:2*(a/2)+a%2=a:=by lia
 have e2:2*(b/2)+b%2=b:=by lia
 have q:=GY (a/2) (b/2) (a%2) (b%2) (by lia) (by lia);rw[e1,e2]at q;exact q
def AV:∀(n a b:Nat),a+b<=n->a≠b->0<xr a b:=by
 intro n
 induction n with
 | zero=>intro a b h1 h2;lia
 | succ n ih=>
  intro a b h1 h2;rw[AU];by_cases h:a%2=b%2
  .have:=ih (a/2) (b/2) (by lia) (by lia);lia
  .rw[ag h];lia
def GZ (m:Nat):iq (2*m+1)=1:=by
 unfold iq;have q:=uL m m 1 0 (by lia) (by lia);have e:2*m+1-1=2*m+0:=by lia
 rw[e,q];simp
def G0 (m:Nat)(h:0<m):iq (2*m)=2*iq m:=by
 unfold iq;have q:=uL m (m-1) 0 1 (by lia) (by lia);have e:2*m-1=2*(m-1)+1:=by lia
 have e':2*m=2*m+0:=by lia
 rw[e];have:(2*m &&& 2*(m-1)+1)=2*(m &&& m-1)+(0 &&& 1):=q;rw[this];have z:m &&& (m-1)<=m:=Nat.and_le_left;simp;lia
def G1:∀(n a b:Nat),a+b<=n->a≠b->iq (xr a b)=2^lu a b:=by
 intro n
 induction n with
 | zero=>intro a b h1 h2;lia
 | succ n ih=>
  intro a b h1 h2;rw[AU];by_cases h:a%2=b%2
  .rw[af h,qG h2 h,gG,G0 _ (AV n _ _ (by lia) (by lia)),ih _ _ (by lia) (by lia),ie];lia
  .rw[ag h,qH h,GZ,Nat.pow_zero]
def G2:∀(n a b:Nat),a+b<=n->a≠b->a%2^lu a b=b%2^lu a b/\a%2^(lu a b+1)≠b%2^(lu a b+1):=by
 intro n
 induction n with
 | zero=>intro a b h1 h2;lia
 | succ n ih=>
  intro a b h1 h2;by_cases h:a%2=b%2
  .rw[qG h2 h];obtain ⟨q1,q2⟩:=ih (a/2) (b/2) (by lia) (by lia);have s:∀ x k:Nat,x%2^(k+1)=2*(x/2%2^k)+x%2:=by
    intro x k;rw[ie,Nat.mul_comm,Nat.mod_mul];lia
   rw[s a,s b,s a,s b];constructor
   .omega
   .omega
  .rw[qH h];simp[Nat.mod_one];lia
def G3:∀(k a b:Nat),a≠b->a<2^k->b<2^k->lu a b<k:=by
 intro k
 induction k with
 | zero=>intro a b h1 h2 h3;simp at h2 h3;lia
 | succ k ih=>
  intro a b h1 h2 h3;by_cases h:a%2=b%2
  .rw[qG h1 h];have:=ih (a/2) (b/2) (by lia) (by rw[ie]at h2;lia) (by rw[ie]at h3;lia);lia
  .rw[qH h];lia
def fig (a b:Nat):Nat:=2*lu a b+b/2^lu a b%2
def uM (a b:Nat):fig a b/2=lu a b:=by
 unfold fig;have:=eZ (b/2^lu a b) (by decide:0<2);lia
def uN (a b:Nat):fig a b%2=b/2^lu a b%2:=by
 unfold fig;have:=eZ (b/2^lu a b) (by decide:0<2);lia
def AW (x k:Nat):x%2^(k+1)=x%2^k+2^k*(x/2^k%2):=by
 rw[ie,Nat.mod_mul]
def AX {a b:Nat}(h:a≠b):a/2^lu a b%2≠b/2^lu a b%2:=by
 obtain ⟨h1,h2⟩:=G2 _ a b (ai _) h;intro e;apply h2;rw[AW,AW,h1,e]
def G4 {a b c:Nat}(h2:b≠c):fig a b≠fig b c:=by
 intro e;have e1:lu a b=lu b c:=by rw[<-uM,e,uM]
 have e2:b/2^lu a b%2=c/2^lu b c%2:=by rw[<-uN,e,uN]
 rw[e1]at e2;exact AX h2 e2
def G5 {a b:Nat}(h:a≠b):a%2≠fig a b:=by
 intro e;have l:a%2<2:=eZ _ (by decide);have e1:lu a b=0:=by
  have:=uM a b;lia
 have e2:=uN a b;have e3:=AX h;rw[e1]at e2 e3;simp at e2 e3;lia
def G6 {a b k:Nat}(h:a≠b)(ha:a<2^k)(hb:b<2^k):fig a b<2*k:=by
 have:=G3 k a b h ha hb;have:=eZ (b/2^lu a b) (by decide:0<2);unfold fig;lia
def fh (xs:List Nat)(i:Nat):Nat:=if i=0 then xs.getD 0 0%2 else fig (xs.getD (i-1) 0) (xs.getD i 0)
def cJ (xs:List Nat):List Nat:=(List.range xs.length).map (fh xs)
def ir (xs:List Nat):(cJ xs).length=xs.length:=by unfold cJ;rw[aq,cv]
def AY {xs:List Nat}{i:Nat}(h:i<xs.length):(cJ xs)[i]?=some (fh xs i):=by
 unfold cJ;rw[aY,gH h];rfl
def uO {xs:List Nat}{i:Nat}(h:i<xs.length):(cJ xs).getD i 0=fh xs i:=by
 rw[aA,AY h];rfl
def AZ {xs:List Nat}{i:Nat}(h:i<xs.length):(cJ xs).take (i+1)=(cJ xs).take i++[fh xs i]:=by
 have h':i<(cJ xs).length:=by rw[ir];exact h
 rw[cH h'];have:=AY h;rw[aw h']at this;rw[aK this]
def Unl (xs:List Nat):Prop:=∀ i,i+1<xs.length->xs.getD i 0≠xs.getD (i+1) 0
def G7 (h:Unl xs):Unl (cJ xs):=by
 intro i hi;rw[ir]at hi;rw[uO (by lia),uO hi];unfold fh;rw[ag (by lia:¬ i+1=0),iL];by_cases h0:i=0
 .subst h0;rw[af rfl];exact G5 (h 0 hi)
 .rw[ag h0];exact G4 (h i hi)
def du (m:Nat)(xs:List Nat):Prop:=∀ i,i<xs.length->xs.getD i 0<m
def md {k:Nat}(hk:1<=k)(h:Unl xs)(hb:du (2^k) xs):du (2*k) (cJ xs):=by
 intro i hi;rw[ir]at hi;rw[uO hi];unfold fh;split
 .have:xs.getD 0 0%2<2:=eZ _ (by decide);lia
 .have:=h (i-1) (by lia);rw[show i-1+1=i by lia]at this;exact G6 this (hb _ (by lia)) (hb _ hi)
def G8 (a b:Nat):Builtin.bitXor (a:Int) (b:Int)=((xr a b:Nat):Int):=by
 have h1:Builtin.bitAnd (a:Int) (b:Int)=((a &&& b:Nat):Int):=by
  unfold Builtin.bitAnd;rw[bg (iF a),bg (iF b)];rfl
 have n1:¬ (0:Int)<=Builtin.bitNot (a:Int):=by unfold Builtin.bitNot;lia
 have n2:¬ (0:Int)<=Builtin.bitNot (b:Int):=by unfold Builtin.bitNot;lia
 have h2:Builtin.bitOr (a:Int) (b:Int)=((a ||| b:Nat):Int):=by
  unfold Builtin.bitOr Builtin.bitAnd;rw[bD n1,bD n2];have e:∀ x:Int,Builtin.bitNot (Builtin.bitNot x)=x:=λx=>by unfold Builtin.bitNot;lia
  show Builtin.bitNot (Builtin.bitNot _)=_;rw[e,e,e];rfl
 unfold Builtin.bitXor xr;rw[h1,h2];have:=AS a b;lia
def G9 (n:Nat)(h:0<n):Builtin.bitAnd (n:Int) (-(n:Int))=((iq n:Nat):Int):=by
 have n2:¬ (0:Int)<=-(n:Int):=by lia
 have e:(Builtin.bitNot (-(n:Int))).toNat=n-1:=by unfold Builtin.bitNot;lia
 unfold Builtin.bitAnd iq;rw[bg (iF n),bD n2];show (n:Int)-(((n:Int).toNat &&& (Builtin.bitNot (-(n:Int))).toNat:Nat):Int)=_;rw[e,fm];have:n &&& (n-1)<=n:=Nat.and_le_left;lia
def Hc (a b:Nat)(h:a≠b):((Builtin.Int.intBits (Builtin.bitAnd (Builtin.bitXor (a:Int) (b:Int)) (-(Builtin.bitXor (a:Int) (b:Int)))):Nat):Int)-1=((lu a b:Nat):Int):=by
 rw[G8,G9 _ (AV _ a b (ai _) h),G1 _ a b (ai _) h];unfold Builtin.Int.intBits;have p:0 < 2 ^ lu a b:=Nat.two_pow_pos _;rw[ag (by
  intro z;have z':=eq_of_beq z;lia),Int.natAbs_natCast,Nat.log2_two_pow]
 lia
def atZ {α:Type}(l:List α)(i:Int):Option α:=if 0<=i then l[i.toNat]? else none
def gR {α:Type}(l:List α)(i:Nat):atZ l (i:Int)=l[i]?:=by
 unfold atZ;rw[af (iF i),fm]
def qI {α:Type}{l:List α}{i:Int}(h:i<0):atZ l i=none:=by
 unfold atZ;rw[ag (by lia)]
def uP {α:Type}{l:List α}{x:α}(h:atZ l i=some x):0<=i/\i<l.length:=by
 unfold atZ at h;split at h
 .have:=(aN.mp h).1;lia
 .cases h
def A0 {α:Type}{l:List α}{i:Int}(h0:0<=i)(h:i<l.length):∃ x,atZ l i=some x:=by
 unfold atZ;rw[af h0];exact #[_,aw (by lia)]
def ke {α β:Type}(f:Option α->α->Option α->β):Option α->List α->List β
 | _,[]=>[]
 | p,x::l=>f p x l.head? :: ke f (some x) l
def mapW {α β:Type}(f:Option α->α->Option α->β)(l:List α):List β:=ke f none l
def me {α β:Type}(f:Option α->α->Option α->β):∀(l:List α) (p:Option α) (k:Nat),(ke f p l)[k]?=l[k]?.map λx=>f (if k=0 then p else l[k-1]?) x l[k+1]?
 | [],_,_=>rfl
 | x::l,p,0=>by
  show some (f p x l.head?)=some (f p x l[0]?);rw[List.head?_eq_getElem?]
 | x::l,p,k+1=>by
  show (ke f (some x) l)[k]?=l[k]?.map λy=>f (x::l)[k]? y l[k+1]?;rw[me f l (some x) k];cases k with
  | zero=>rfl
  | succ k=>rfl
def A1 {α β:Type}(f:Option α->α->Option α->β):∀(l:List α) (p:Option α),(ke f p l).length=l.length
 | [],_=>rfl
 | x::l,p=>by
  show (ke f (some x) l).length+1=l.length+1;rw[A1 f l]
def mf {α β:Type}(f:Option α->α->Option α->β)(l:List α):(mapW f l).length=l.length:=A1 f l none
def qJ {α β:Type}(f:Option α->α->Option α->β)(l:List α)(i:Int):atZ (mapW f l) i=(atZ l i).map λx=>f (atZ l (i-1)) x (atZ l (i+1)):=by
 by_cases h:0<=i
 .obtain ⟨k,rfl⟩:∃ k:Nat,i=(k:Int):=#[i.toNat,by lia];rw[gR,gR,mapW,me,show ((k:Int)+1)=((k+1:Nat):Int) by lia,gR];have e:atZ l ((k:Int)-1)=if k=0 then none else l[k-1]?:=by
   split
   .rw[qI (by lia)]
   .rw[show ((k:Int)-1)=((k-1:Nat):Int) by lia,gR]
  rw[e]
 .rw[qI (l:=mapW f l) (by lia),qI (l:=l) (i:=i) (by lia)];rfl
def UnlZ (xs:List Nat):Prop:=∀(i:Int) (x y:Nat),atZ xs i=some x->atZ xs (i+1)=some y->x≠y
def unlZ (h:Unl xs):UnlZ xs:=by
 intro i x y hx hy;obtain ⟨a,b⟩:=uP hx;obtain ⟨_,c⟩:=uP hy;obtain ⟨k,rfl⟩:∃ k:Nat,i=(k:Int):=#[i.toNat,by lia];rw[gR]at hx;rw[show ((k:Int)+1)=((k+1:Nat):Int) by lia,gR]at hy;have:=h k (by lia);rw[aA,aA,hx,hy]at this;exact this
def uQ (h:UnlZ xs):Unl xs:=by
 intro k hk;have:=h k xs[k] xs[k+1] (by rw[gR];exact aw (by lia)) (by rw[show ((k:Int)+1)=((k+1:Nat):Int) by lia,gR];exact aw hk);rw[aA,aA,aw (show k<xs.length by lia),aw hk];exact this
def fI (p n:Option Nat):Nat:=if p≠some 0/\n≠some 0 then 0 else if p≠some 1/\n≠some 1 then 1 else 2
def A2 (p n:Option Nat):fI p n<=2:=by
 unfold fI;split
 .omega
 .split<;>lia
def uR {p:Option Nat}{x:Nat}(h:p=some x):fI p n≠x:=by
 subst h;unfold fI;split
 .rename_i c;intro z;exact c.1 (by rw[<-z])
 .split
  .rename_i c;intro z;exact c.1 (by rw[<-z])
  .rename_i c d;intro z;subst z;have c1:n=some 0:=jk λq=>c #[by decide,q];have d1:n=some 1:=jk λq=>d #[by decide,q];rw[c1]at d1;cases d1
def Hd (p n:Option Nat):fI p n=fI n p:=by
 unfold fI;simp only[And.comm]
def A3 {n:Option Nat}{x:Nat}(h:n=some x):fI p n≠x:=by
 rw[Hd];exact uR h
def recF (v:Nat)(p:Option Nat)(x:Nat)(n:Option Nat):Nat:=if x=v then fI p n else x
def recL (v:Nat)(xs:List Nat):List Nat:=mapW (recF v) xs
def gS (v:Nat)(xs:List Nat):(recL v xs).length=xs.length:=mf _ _
def qK (h:UnlZ xs):UnlZ (recL v xs):=by
 intro i x y hx hy;unfold recL at hx hy;rw[qJ]at hx hy;cases ex:atZ xs i with
 | none=>rw[ex]at hx;cases hx
 | some x0=>
  cases ey:atZ xs (i+1) with
  | none=>rw[ey]at hy;cases hy
  | some y0=>
   rw[ex]at hx;rw[ey]at hy;have hx:x=recF v (atZ xs (i-1)) x0 (atZ xs (i+1)):=(aK hx).symm;have hy:y=recF v (atZ xs (i+1-1)) y0 (atZ xs (i+1+1)):=(aK hy).symm;have n0:=h i x0 y0 ex ey;have e1:i+1-1=i:=by lia
   unfold recF at hx hy;rw[e1,ex]at hy;rw[ey]at hx;split at hx
   .rename_i c;split at hy
    .rename_i c';lia
    .rw[hx,hy];exact A3 rfl
   .split at hy
    .rw[hx,hy];exact (uR rfl).symm
    .omega
def uS {v:Nat}{P:Nat->Prop}{xs:List Nat}(hP:∀ x,x<=2->P x)(h:∀ i x,atZ xs i=some x->x=v\/P x):∀ i x,atZ (recL v xs) i=some x->P x:=by
 intro i x hx;unfold recL at hx;rw[qJ]at hx;cases ex:atZ xs i with
 | none=>rw[ex]at hx;cases hx
 | some x0=>
  rw[ex]at hx;have hx:x=recF v (atZ xs (i-1)) x0 (atZ xs (i+1)):=(aK hx).symm;unfold recF at hx;split at hx
  .rw[hx];exact hP _ (A2 _ _)
  .rw[hx];rcases h i x0 ex with q|q
   .exact absurd q (by assumption)
   .exact q
def colL (xs:List Nat):List Nat:=recL 5 (recL 4 (recL 3 xs))
def uT (xs:List Nat):(colL xs).length=xs.length:=by
 unfold colL;rw[gS,gS,gS]
def uU (h:UnlZ xs):UnlZ (colL xs):=qK (qK (qK h))
def He {xs:List Nat}(h:∀ i x,atZ xs i=some x->x<=5):∀ i x,atZ (colL xs) i=some x->x<=2:=by
 refine uS (P:=λx=>x<=2) (λx h=>h) ?_;refine uS (P:=λx=>x=5\/x<=2) (λx h=>.inr h) ?_;refine uS (P:=λx=>x=4\/x=5\/x<=2) (λx h=>.inr (.inr h)) ?_;intro i x e;have:=h i x e;lia
def uV (sh:Nat)(p:Option (Nat×Bool))(x:Nat×Bool)(n:Option (Nat×Bool)):Nat×Bool:=
 (x.1,x.2||(decide (x.1=sh)&&p.isSome && !(p.map (·.2)).getD false && !(n.map (·.2)).getD false))
def c6 (sh:Nat)(l:List (Nat×Bool)):List (Nat×Bool):=mapW (uV sh) l
def da (c:List Nat):List (Nat×Bool):=c.map λx=>(x,false)
def marked (c:List Nat):List (Nat×Bool):=c6 0 (c6 1 (c6 2 (da c)))
def gT (c:List Nat):List Bool:=(marked c).map (·.2)
def Hf (c:List Nat):(marked c).length=c.length:=by
 unfold marked c6 da;rw[mf,mf,mf,aq]
def A4 (c:List Nat):(gT c).length=c.length:=by
 unfold gT;rw[aq,Hf]
def A5 (c:List Nat)(i:Int):atZ (da c) i=(atZ c i).map λx=>(x,false):=by
 unfold da atZ;split
 .rw[aY]
 .rfl
def mkZ (l:List (Nat×Bool))(i:Int):Bool:=((atZ l i).map (·.2)).getD false
def clZ (l:List (Nat×Bool))(i:Int):Option Nat:=(atZ l i).map (·.1)
def Hg (sh:Nat)(l:List (Nat×Bool))(i:Int):clZ (c6 sh l) i=clZ l i:=by
 unfold clZ c6;rw[qJ];cases atZ l i<;>rfl
def qL (sh:Nat)(l:List (Nat×Bool))(i:Int):mkZ (c6 sh l) i=(mkZ l i||(decide (clZ l i=some sh)&&(clZ l (i-1)).isSome && !mkZ l (i-1) && !mkZ l (i+1))):=by
 unfold mkZ clZ c6;rw[qJ];cases atZ l i with
 | none=>simp
 | some x=>
  unfold uV;cases atZ l (i-1)<;>cases atZ l (i+1)<;>simp
structure MkOk (c:List Nat)(l:List (Nat×Bool)):Prop where
 cl:∀ i,clZ l i=atZ c i
 ind:∀ i,mkZ l i=true->mkZ l (i+1)=true->False
 fst:∀ i,mkZ l i=true->(atZ c (i-1)).isSome=true/\(atZ c i).isSome=true
def qM (c:List Nat):MkOk c (da c):=by
 have e:∀ i,mkZ (da c) i=false:=λi=>by
  unfold mkZ;rw[A5];cases atZ c i<;>rfl
 refine #[λi=>?_,λi h=>?_,λi h=>?_]
 .unfold clZ;rw[A5];cases atZ c i<;>rfl
 .rw[e]at h;cases h
 .rw[e]at h;cases h
def kg (hu:UnlZ c)(h:MkOk c l):MkOk c (c6 sh l):=by
 refine #[λi=>by rw[Hg,h.cl],λi h1 h2=>?_,λi h1=>?_]
 .rw[qL]at h1 h2;simp only[kU,d6,decide_eq_true_eq,g9]at h1 h2;rw[show i+1-1=i by lia]at h2;rcases h1 with h1|h1<;>rcases h2 with h2|h2
  .exact h.ind i h1 h2
  .rw[h1]at h2;exact absurd h2.1.2 (by decide)
  .rw[h2]at h1;exact absurd h1.2 (by decide)
  .have a:=h1.1.1.1;have b:=h2.1.1.1;rw[h.cl]at a b;exact hu i sh sh a b rfl
 .rw[qL]at h1;simp only[kU,d6,decide_eq_true_eq,g9]at h1;rcases h1 with h1|h1
  .exact h.fst i h1
  .refine #[?_,?_]
   .rw[<-h.cl];exact h1.1.1.2
   .rw[<-h.cl,h1.1.1.1];rfl
def fU (h:mkZ l i=true):mkZ (c6 sh l) i=true:=by
 rw[qL,h];rfl
def uW {sh:Nat}(h:MkOk c l)(hc:atZ c i=some sh)(hp:(atZ c (i-1)).isSome=true):mkZ (c6 sh l) (i-1)=true\/mkZ (c6 sh l) i=true\/mkZ (c6 sh l) (i+1)=true:=by
 by_cases a:mkZ l (i-1)=true
 .exact .inl (fU a)
 .by_cases b:mkZ l (i+1)=true
  .exact .inr (.inr (fU b))
  .refine .inr (.inl ?_);rw[qL,h.cl,h.cl,hc,hp,iN.mpr a,iN.mpr b];simp
def A6 (hu:UnlZ c):MkOk c (marked c):=kg hu (kg hu (kg hu (qM c)))
def Hh (hu:UnlZ c)(hc:∀ i x,atZ c i=some x->x<=2){i:Int}(h1:(atZ c (i-1)).isSome=true)(h2:(atZ c i).isSome=true):mkZ (marked c) (i-1)=true\/mkZ (marked c) i=true\/mkZ (marked c) (i+1)=true:=by
 obtain ⟨x,hx⟩:=Option.isSome_iff_exists.mp h2;have hle:=hc i x hx;have z:x=2\/x=1\/x=0:=by lia
 rcases z with rfl|rfl|rfl
 .rcases uW (qM c) hx h1 with q|q|q
  .exact .inl (fU (fU q))
  .exact .inr (.inl (fU (fU q)))
  .exact .inr (.inr (fU (fU q)))
 .rcases uW (kg (sh:=2) hu (qM c)) hx h1 with q|q|q
  .exact .inl (fU q)
  .exact .inr (.inl (fU q))
  .exact .inr (.inr (fU q))
 .exact uW (kg (sh:=1) hu (kg (sh:=2) hu (qM c))) hx h1
structure iu (ms:List Bool):Prop where
 fst:ms.getD 0 false=false
 ind:∀ i,ms.getD i false=true->ms.getD (i+1) false=true->False
 dom:∀ i,1<=i->i<ms.length->ms.getD (i-1) false=true\/ms.getD i false=true\/ms.getD (i+1) false=true
def mh (c:List Nat)(i:Nat):(gT c).getD i false=mkZ (marked c) (i:Int):=by
 unfold mkZ gT;rw[gR,aA,aY]
def Hi (hu:UnlZ c)(hc:∀ i x,atZ c i=some x->x<=2):iu (gT c):=by
 refine #[?_,λi h1 h2=>?_,λi h1 h2=>?_]
 .rw[mh];cases e:mkZ (marked c) ((0:Nat):Int) with
  | false=>rfl
  | true=>
   have:=((A6 hu).fst _ e).1;rw[qI (by lia)]at this;cases this
 .rw[mh]at h1 h2;exact (A6 hu).ind i h1 h2
 .rw[A4]at h2;have a:(atZ c ((i:Int)-1)).isSome=true:=by
   obtain ⟨x,hx⟩:=A0 (l:=c) (i:=(i:Int)-1) (by lia) (by lia);rw[hx];rfl
  have b:(atZ c (i:Int)).isSome=true:=by
   obtain ⟨x,hx⟩:=A0 (l:=c) (i:=(i:Int)) (by lia) (by lia);rw[hx];rfl
  rcases Hh hu hc a b with q|q|q
  .refine .inl ?_;rw[mh,show ((i-1:Nat):Int)=(i:Int)-1 by lia];exact q
  .refine .inr (.inl ?_);rw[mh];exact q
  .refine .inr (.inr ?_);rw[mh];exact q
def Hj {y:Nat}(h:y<fI p n):p=some y\/n=some y:=by
 unfold fI at h;split at h
 .omega
 .rename_i c;have c0:p=some 0\/n=some 0:=jk λq=>c #[λz=>q (.inl z),λz=>q (.inr z)];split at h
  .have:y=0:=by lia
   subst this;exact c0
  .rename_i d;have d0:p=some 1\/n=some 1:=jk λq=>d #[λz=>q (.inl z),λz=>q (.inr z)];have:y=0\/y=1:=by lia
   rcases this with rfl|rfl
   .exact c0
   .exact d0
def bN (xs:List Nat)(k:Nat):List Nat:=(if k=0 then none else xs[k-1]?).toList++xs[k+1]?.toList
def A7 {k y:Nat}:y∈bN xs k↔(if k=0 then none else xs[k-1]?)=some y\/xs[k+1]?=some y:=by
 unfold bN;rw[bj,Option.mem_toList,Option.mem_toList]
def eA (xs:List Nat)(k:Nat):Nat:=fI (if k=0 then none else xs[k-1]?) xs[k+1]?
def A8 {k:Nat}:eA xs k∉bN xs k:=λh=>by
 rcases A7.mp h with q|q
 .exact uR q rfl
 .exact A3 q rfl
def A9 {k y:Nat}(h:y<eA xs k):y∈bN xs k:=A7.mpr (Hj h)
def Ba (xs:List Nat)(k:Nat):eA xs k<=2:=A2 _ _
def Hk {k:Nat}:((List.range 3).filter λc=>!decide (c∈bN xs k)).head?=some (eA xs k):=by
 have h1:=A8 (xs:=xs) (k:=k);have h2:=λy=>A9 (xs:=xs) (k:=k) (y:=y);have h3:=Ba xs k;rw[show List.range 3=[0,1,2] from rfl];generalize eA xs k=f at h1 h2 h3 ⊢;have z:f=0\/f=1\/f=2:=by lia
 rcases z with rfl|rfl|rfl
 .simp[List.filter,h1]
 .simp[List.filter,h1,h2 0 (by lia)]
 .simp[List.filter,h1,h2 0 (by lia),h2 1 (by lia)]
def uX {xs:List Nat}{k:Nat}(h:k<xs.length):(recL v xs)[k]?=some (if xs.getD k 0=v then eA xs k else xs.getD k 0):=by
 unfold recL mapW;rw[me,aA,aw h];rfl
def mixL (v:Nat)(xs:List Nat)(k:Nat):List Nat:=(recL v xs).take k++xs.drop k
def Bb {xs:List Nat}{k:Nat}(h:xs.length<=k):mixL v xs k=recL v xs:=by
 unfold mixL;rw[bx (by rw[gS];exact h),eL h,bZ]
def uY (v:Nat)(xs:List Nat)(k:Nat):(mixL v xs k).length=xs.length:=by
 unfold mixL;rw[aV,aW,eG,gS];lia
def kh (v:Nat)(xs:List Nat)(k j:Nat):(mixL v xs k)[j]?=if j<k then (recL v xs)[j]? else xs[j]?:=by
 unfold mixL;by_cases hk:k<=xs.length
 .rw[List.getElem?_append,aW,gS,d8 hk];split
  .rw[jx];rw[af (by assumption)]
  .rw[kQ];congr 1;lia
 .rw[eL (by lia),bZ,bx (by rw[gS];lia)];split
  .rfl
  .rw[d9 (by rw[gS];lia),d9 (by lia)]
def Bc {k j:Nat}(h:k<=j):(mixL v xs k)[j]?=xs[j]?:=by
 rw[kh,ag (by lia)]
def Bd {v:Nat}{xs:List Nat}{k:Nat}(h:k<xs.length)(hv:xs.getD k 0≠v):mixL v xs (k+1)=mixL v xs k:=by
 apply f7;intro j;rw[kh,kh];by_cases c:j<k
 .rw[af c,af (by lia)]
 .rw[ag c];split
  .have:j=k:=by lia
   subst this;rw[uX h,ag hv,aA,aw h];rfl
  .rfl
def Be {v:Nat}{xs:List Nat}{k m:Nat}(hkm:k<=m)(hm:m<=xs.length)(hv:∀ j,k<=j->j<m->xs.getD j 0≠v):mixL v xs m=mixL v xs k:=by
 induction m with
 | zero=>
  have:k=0:=by lia
  rw[this]
 | succ m ih=>
  by_cases c:k=m+1
  .rw[c]
  .rw[Bd (by lia) (hv m (by lia) (by lia)),ih (by lia) (by lia) (λj a b=>hv j a (by lia))]
def Hl {v:Nat}{k:Nat}(hu:Unl xs)(h:k<xs.length)(hv:xs.getD k 0=v):(if k=0 then none else (mixL v xs k)[k-1]?)=if k=0 then none else xs[k-1]?:=by
 cases k with
 | zero=>rfl
 | succ k=>
  show (mixL v xs (k+1))[k]?=xs[k]?;rw[kh,af (by lia),uX (by lia)];have:=hu k h;rw[hv]at this;rw[ag this,aA,aw (show k<xs.length by lia)];rfl
def Bf {v:Nat}{k:Nat}(hu:Unl xs)(h:k<xs.length)(hv:xs.getD k 0=v):bN (mixL v xs k) k=bN xs k:=by
 unfold bN;rw[Hl hu h hv,Bc (j:=k+1) (by lia)]
def Bg {v:Nat}{xs:List Nat}{k:Nat}(h:k<xs.length)(hv:xs.getD k 0=v):mixL v xs (k+1)=(mixL v xs k).set k (eA xs k):=by
 apply f7;intro j;rw[kZ,uY,kh,kh];by_cases c:k=j
 .subst c;rw[af rfl,af h,af (by lia),uX h,af hv]
 .rw[ag c];by_cases c2:j<k
  .rw[af c2,af (by lia)]
  .rw[ag c2,ag (by lia)]
def d3 (sh:Nat)(cs:List Nat)(ms:List Bool):List Bool:=(c6 sh (cs.zip ms)).map (·.2)
def iw {cs:List Nat}{ms:List Bool}(h:cs.length=ms.length):(d3 sh cs ms).length=ms.length:=by
 unfold d3 c6;rw[aq,mf,nz];lia
def Hm {cs:List Nat}:∀{ms:List Bool},cs.length=ms.length->(cs.zip ms).map (·.1)=cs:=by
 induction cs with
 | nil=>intro ms _;rfl
 | cons c cs ih=>
  intro ms h;cases ms with
  | nil=>cases h
  | cons m ms=>
   show c::(cs.zip ms).map (·.1)=c::cs;rw[ih (Nat.succ.inj h)]
def Bh:∀(l:List (Nat×Bool)),(l.map (·.1)).zip (l.map (·.2))=l
 | []=>rfl
 | x::l=>by
  show x::(l.map (·.1)).zip (l.map (·.2))=x::l;rw[Bh l]
def Hn (sh:Nat)(l:List (Nat×Bool)):(c6 sh l).map (·.1)=l.map (·.1):=by
 apply f7;intro k;unfold c6 mapW;rw[aY,aY,me];cases l[k]?<;>rfl
def Bi {cs:List Nat}{ms:List Bool}(h:cs.length=ms.length):c6 sh (cs.zip ms)=cs.zip (d3 sh cs ms):=by
 have e:=Bh (c6 sh (cs.zip ms));rw[Hn,Hm h]at e;exact e.symm
def Ho (cs:List Nat):da cs=cs.zip (cs.map λ_=>false):=by
 unfold da
 induction cs with
 | nil=>rfl
 | cons c cs ih=>
  show (c,false)::cs.map (λx=>(x,false))=(c,false)::cs.zip (cs.map λ_=>false);rw[ih]
def Hq (cs:List Nat):gT cs=d3 0 cs (d3 1 cs (d3 2 cs (cs.map λ_=>false))):=by
 have l1:cs.length=(cs.map λ_=>false).length:=by rw[aq]
 have l2:cs.length=(d3 2 cs (cs.map λ_=>false)).length:=by rw[iw l1,<-l1]
 unfold gT marked;rw[Ho,Bi l1,Bi l2];rfl
def kj {cs:List Nat}{ms:List Bool}(hl:cs.length=ms.length){k:Nat}(h:k<cs.length):(d3 sh cs ms)[k]?=some (ms.getD k false||(decide (cs.getD k 0=sh)&&decide (1<=k) && !ms.getD (k-1) false && !ms.getD (k+1) false)):=by
 unfold d3 c6 mapW;have gz:∀ j,(cs.zip ms)[j]?=if h:j<cs.length then some (cs[j],ms[j]'(by lia)) else none:=λj=>by
  split
  .rename_i q;rw[aw (by rw[nz];lia),List.getElem_zip]
  .exact d9 (by rw[nz];lia)
 have gm:∀ j,ms.getD j false=(((cs.zip ms)[j]?).map (·.2)).getD false:=λj=>by
  rw[gz];split
  .rw[aA,aw (by lia)];rfl
  .rw[aA,d9 (by lia)];rfl
 rw[aY,me,gm k,gm (k+1),gm (k-1),aA,aw h];have e:=gz k;rw[dif_pos h]at e;rw[e];show some _=some _;unfold uV;cases k with
 | zero=>simp
 | succ k=>
  have e2:=gz k;rw[dif_pos (by lia)]at e2;simp[e2]
def mixM (sh:Nat)(cs:List Nat)(ms:List Bool)(k:Nat):List Bool:=(d3 sh cs ms).take k++ms.drop k
def Bj {cs:List Nat}{ms:List Bool}(hl:cs.length=ms.length){k:Nat}(h:cs.length<=k):mixM sh cs ms k=d3 sh cs ms:=by
 unfold mixM;rw[bx (by rw[iw hl];lia),eL (by lia),bZ]
def qN {cs:List Nat}{ms:List Bool}(hl:cs.length=ms.length)(k:Nat):(mixM sh cs ms k).length=cs.length:=by
 unfold mixM;rw[aV,aW,eG,iw hl];lia
def fJ {cs:List Nat}{ms:List Bool}(hl:cs.length=ms.length)(k j:Nat):(mixM sh cs ms k)[j]?=if j<k then (d3 sh cs ms)[j]? else ms[j]?:=by
 unfold mixM;by_cases hk:k<=ms.length
 .rw[List.getElem?_append,aW,iw hl,d8 hk];split
  .rw[jx];rw[af (by assumption)]
  .rw[kQ];congr 1;lia
 .rw[eL (by lia),bZ,bx (by rw[iw hl];lia)];split
  .rfl
  .rw[d9 (by rw[iw hl];lia),d9 (by lia)]
def fV (ms:List Bool)(k:Nat):Bool:=!ms.getD (k-1) false && !ms.getD k false && !ms.getD (k+1) false
def Hr {sh:Nat}{ms:List Bool}(hu:Unl cs)(hl:cs.length=ms.length){k:Nat}(h:k<cs.length)(h1:1<=k)(hs:cs.getD k 0=sh):fV (mixM sh cs ms k) k=fV ms k:=by
 unfold fV;have e:∀ j,k<=j->(mixM sh cs ms k).getD j false=ms.getD j false:=λj hj=>by
  rw[aA,aA,fJ hl,ag (by lia)]
 rw[e k (by lia),e (k+1) (by lia)];have e2:(mixM sh cs ms k).getD (k-1) false=ms.getD (k-1) false:=by
  rw[aA,fJ hl,af (by lia),kj hl (by lia)];have:=hu (k-1) (by lia);rw[show k-1+1=k by lia,hs]at this;rw[bD this];simp
 rw[e2]
def uZ {sh:Nat}{cs:List Nat}{ms:List Bool}(hl:cs.length=ms.length){k:Nat}(h:k<cs.length)(hn:¬ (1<=k/\cs.getD k 0=sh/\fV ms k=true)):mixM sh cs ms (k+1)=mixM sh cs ms k:=by
 apply f7;intro j;rw[fJ hl,fJ hl];by_cases c:j<k
 .rw[af c,af (by lia)]
 .rw[ag c];split
  .have:j=k:=by lia
   subst this;rw[kj hl h];unfold fV at hn;rw[aw (by lia)];have e:ms.getD j false=ms[j]'(by lia):=by
    rw[aA,aw (by lia)];rfl
   rw[e]at hn ⊢;congr 1;generalize ms[j]=a at hn ⊢;generalize ms.getD (j-1) false=b at hn ⊢;generalize ms.getD (j+1) false=d at hn ⊢;cases a<;>cases b<;>cases d<;>simp at hn ⊢
   intro q;lia
  .rfl
def Ht {sh:Nat}{cs:List Nat}{ms:List Bool}(hl:cs.length=ms.length){k:Nat}(h:k<cs.length)(hp:1<=k/\cs.getD k 0=sh/\fV ms k=true):mixM sh cs ms (k+1)=(mixM sh cs ms k).set k true:=by
 apply f7;intro j;rw[kZ,qN hl,fJ hl,fJ hl];by_cases c:k=j
 .subst c;rw[af rfl,af h,af (by lia),kj hl h];obtain ⟨p1,p2,p3⟩:=hp;unfold fV at p3;simp only[d6,g9]at p3;rw[p2,p3.1.1,p3.1.2,p3.2,bg p1];simp
 .rw[ag c];by_cases c2:j<k
  .rw[af c2,af (by lia)]
  .rw[ag c2,ag (by lia)]
structure dF (ms:List Bool)(sp:List Nat):Prop where
 up:sp.Pairwise (· < ·)
 iff:∀ j,j∈sp↔ms.getD j false=true
def Hu (ms:List Bool):dF ms ((List.range ms.length).filter λk=>ms.getD k false):=by
 refine #[List.Pairwise.filter _ k9,λj=>?_];rw[eD,dw];constructor
 .exact λh=>h.2
 .intro h;refine #[?_,h];rw[aA]at h;cases e:ms[j]? with
  | none=>rw[e]at h;cases h
  | some x=>exact (aN.mp e).1
def dF.lt (S:dF ms sp){j:Nat}(h:j∈sp):j<ms.length:=by
 have h:=(S.iff j).mp h;rw[aA]at h;cases e:ms[j]? with
 | none=>rw[e]at h;cases h
 | some x=>exact (aN.mp e).1
def dF.step (S:dF ms sp)(M:iu ms){t:Nat}(h:t+1<sp.length):sp[t]+2<=sp[t+1]/\sp[t+1]<=sp[t]+3:=by
 have up:=cM.mp S.up;have lt:=up t (t+1) (by lia) h (by lia);have m0:=(S.iff _).mp (cG (show t<sp.length by lia));have m1:=(S.iff _).mp (cG h);have l1:=S.lt (cG h);have no:∀ j,sp[t]<j->j<sp[t+1]->ms.getD j false=false:=λj a b=>by
  cases e:ms.getD j false with
  | false=>rfl
  | true=>
   obtain ⟨u,hu,q⟩:=dQ ((S.iff j).mpr e);have c1:¬ u<=t:=λz=>by
    by_cases z':u=t
    .subst z';lia
    .have:=up u t hu (by lia) (by lia);lia
   have c2:¬ t+1<=u:=λz=>by
    by_cases z':u=t+1
    .subst z';lia
    .have:=up (t+1) u h hu (by lia);lia
   lia
 refine #[?_,?_]
 .by_cases c:sp[t+1]=sp[t]+1
  .rw[c]at m1;exact (M.ind _ m0 m1).elim
  .omega
 .refine cf λc=>?_;rcases M.dom (sp[t]+2) (by lia) (by lia) with q|q|q
  .rw[no (sp[t]+2-1) (by lia) (by lia)]at q;cases q
  .rw[no (sp[t]+2) (by lia) (by lia)]at q;cases q
  .rw[no (sp[t]+2+1) (by lia) (by lia)]at q;cases q
def dF.first (S:dF ms sp)(M:iu ms)(h:2<=ms.length):∃ hp:0<sp.length,1<=sp[0]/\sp[0]<=2:=by
 have ex:∃ j,j<=2/\ms.getD j false=true:=by
  rcases M.dom 1 (by lia) (by lia) with q|q|q
  .exact #[0,by lia,q]
  .exact #[1,by lia,q]
  .exact #[2,by lia,q]
 obtain ⟨j,hj,e⟩:=ex;obtain ⟨u,hu,q⟩:=dQ ((S.iff j).mpr e);refine #[by lia,?_,?_]
 .have m0:=(S.iff _).mp (cG (show 0<sp.length by lia));refine eN λz=>?_;rw[z,M.fst]at m0;cases m0
 .by_cases c:u=0
  .subst c;lia
  .have:=cM.mp S.up 0 u (by lia) hu (by lia);lia
def dF.last (S:dF ms sp)(M:iu ms)(h:2<=ms.length)(hp:0<sp.length):ms.length<=sp[sp.length-1]+2:=by
 have ex:∃ j,ms.length-2<=j/\ms.getD j false=true:=by
  rcases M.dom (ms.length-1) (by lia) (by lia) with q|q|q
  .exact #[_,by lia,q]
  .exact #[_,by lia,q]
  .exact #[_,by lia,q]
 obtain ⟨j,hj,e⟩:=ex;obtain ⟨u,hu,q⟩:=dQ ((S.iff j).mpr e);by_cases c:u=sp.length-1
 .subst c;lia
 .have:=cM.mp S.up u (sp.length-1) hu (by lia) (by lia);lia
def dF.low (S:dF ms sp)(M:iu ms):∀(t:Nat) (h:t<sp.length),2*t+1<=sp[t]
 | 0,h=>by
  have m0:=(S.iff _).mp (cG h);refine eN λz=>?_;rw[z,M.fst]at m0;cases m0
 | t+1,h=>by
  have a:=dF.low S M t (by lia);have b:=(S.step M h).1;lia
def dF.half (S:dF ms sp)(M:iu ms):2*sp.length<=ms.length:=by
 by_cases c:sp.length=0
 .omega
 .have a:=S.low M (sp.length-1) (by lia);have b:=S.lt (cG (show sp.length-1<sp.length by lia));lia
def dF.none (S:dF ms sp)(M:iu ms)(h:ms.length<2):sp=[]:=by
 have:=S.half M;exact nr (by lia)
def cE {α:Type}(es:List α)(ms:List Bool):List α:=((es.zip ms).filter (·.2)).map (·.1)
structure Ats (P:Nat->Bool)(n:Nat)(l:List Nat):Prop where
 up:l.Pairwise (· < ·)
 iff:∀ j,j∈l↔j<n/\P j=true
def Hv (P:Nat->Bool)(n:Nat):Ats P n ((List.range n).filter P):=#[List.Pairwise.filter _ k9,λj=>by rw[eD,dw]]
def Ats.get {n:Nat}{l:List Nat}(A:Ats P n l){j:Nat}(h:j<l.length):l[j]<n/\P l[j]=true:=(A.iff _).mp (cG h)
def Ats.first {n:Nat}{l:List Nat}(A:Ats P n l){i:Nat}(h:i<l.getD 0 n)(hn:i<n):P i=false:=by
 cases e:P i with
 | false=>rfl
 | true=>
  obtain ⟨u,hu,q⟩:=dQ ((A.iff i).mpr #[hn,e]);have h0:l.getD 0 n=l[0]'(by lia):=by
   rw[aA,aw (by lia)];rfl
  rw[h0]at h;by_cases c:u=0
  .subst c;lia
  .have:=cM.mp A.up 0 u (by lia) hu (by lia);lia
def Ats.next {n:Nat}{l:List Nat}(A:Ats P n l){j:Nat}(hj:j<l.length){i:Nat}(h1:l[j]<i)(h:i<l.getD (j+1) n)(hn:i<n):P i=false:=by
 cases e:P i with
 | false=>rfl
 | true=>
  obtain ⟨u,hu,q⟩:=dQ ((A.iff i).mpr #[hn,e]);have up:=cM.mp A.up;have c1:j<u:=by
   refine eW λz=>?_;by_cases c:u=j
   .subst c;lia
   .have:=up u j hu hj (by lia);lia
  have h0:l.getD (j+1) n=l[j+1]'(by lia):=by
   rw[aA,aw (by lia)];rfl
  rw[h0]at h;by_cases c:u=j+1
  .subst c;lia
  .have:=up (j+1) u (by lia) hu (by lia);lia
def Ats.le {n:Nat}{l:List Nat}(A:Ats P n l)(j:Nat):l.getD j n<=n:=by
 rw[aA];by_cases h:j<l.length
 .rw[aw h];exact bf (A.get h).1
 .rw[d9 (by lia)];exact ai _
def Ats.step_le {n:Nat}{l:List Nat}(A:Ats P n l){j:Nat}(hj:j<l.length):l[j]+1<=l.getD (j+1) n:=by
 rw[aA];by_cases h:j+1<l.length
 .rw[aw h];exact cM.mp A.up j (j+1) hj h (by lia)
 .rw[d9 (by lia)];exact (A.get hj).1
def atsL (v:Nat)(xs:List Nat):List Nat:=(List.range xs.length).filter λk=>decide (xs.getD k 0=v)
def mi (v:Nat)(xs:List Nat):Ats (λk=>decide (xs.getD k 0=v)) xs.length (atsL v xs):=Hv _ _
def Hw :mixL v xs ((atsL v xs).getD 0 xs.length)=xs:=by
 rw[Be (k:=0) (bG _) ((mi v xs).le 0) (λj _ h=>iO ((mi v xs).first h (aO h ((mi v xs).le 0))))];rfl
def Hx {j:Nat}(hj:j<(atsL v xs).length):mixL v xs ((atsL v xs).getD (j+1) xs.length)=(mixL v xs (atsL v xs)[j]).set (atsL v xs)[j] (eA xs (atsL v xs)[j]):=by
 have A:=mi v xs;have g:=A.get hj;rw[Be (k:=(atsL v xs)[j]+1) (A.step_le hj) (A.le _) (λi a b=>iO (A.next hj (by lia) b (aO b (A.le _)))),Bg g.1 (bJ g.2)]
def Hy :mixL v xs ((atsL v xs).getD (atsL v xs).length xs.length)=recL v xs:=by
 rw[aA,d9 (ai _)];exact Bb (ai _)
def colN (xs:List Nat):Nat->List Nat
 | 0=>xs
 | i+1=>recL (3+i) (colN xs i)
def Bk (xs:List Nat)(i:Nat):(colN xs i).length=xs.length:=by
 induction i with
 | zero=>rfl
 | succ i ih=>rw[colN,gS,ih]
def Bl (h:Unl xs)(i:Nat):Unl (colN xs i):=by
 induction i with
 | zero=>exact h
 | succ i ih=>exact uQ (qK (unlZ ih))
def mkN (cs:List Nat):Nat->List Bool
 | 0=>cs.map λ_=>false
 | i+1=>d3 (2-i) cs (mkN cs i)
def Bm (cs:List Nat):mkN cs 3=gT cs:=(Hq cs).symm
def Bn (cs:List Nat)(i:Nat):cs.length=(mkN cs i).length:=by
 induction i with
 | zero=>rw[mkN,aq]
 | succ i ih=>rw[mkN,iw ih,ih]
def Bo {cs:List Nat}{ms:List Bool}(hl:cs.length=ms.length):mixM sh cs ms 1=ms:=by
 by_cases h:0<cs.length
 .rw[uZ hl h (λz=>by lia)];rfl
 .have:ms=[]:=nr (by lia);subst this;unfold mixM;rw[nr (show (d3 sh cs []).length=0 by rw[iw hl];rfl)];rfl
def aR (ps:List Nat):Prop:=∀ i (h:i<ps.length),ps[i]<=i
def par (ps:List Nat):Nat->Option Nat
 | 0=>none
 | k+1=>ps[k]?
def bA (T:aR ps){k p:Nat}(h:par ps k=some p):p<k/\k<ps.length+1:=by
 cases k with
 | zero=>cases h
 | succ k=>
  obtain ⟨h1,rfl⟩:=aN.mp (show ps[k]?=some p from h);have:=T k h1;lia
def u7 {ps:List Nat}{k:Nat}(h1:1<=k)(h2:k<ps.length+1):∃ p,par ps k=some p:=by
 cases k with
 | zero=>lia
 | succ k=>exact #[_,aw (show k<ps.length by lia)]
def Hz {ps:List Nat}{k:Nat}(h2:k<ps.length+1)(h:par ps k=none):k=0:=by
 cases k with
 | zero=>rfl
 | succ k=>
  have:=List.getElem?_eq_none_iff.mp (show ps[k]?=none from h);lia
def wayF (ps:List Nat)(one:Nat):Nat->Nat->Option (List Nat)
 | 0,_=>none
 | f+1,o=>if o=one then some [o] else match par ps o with
  | none=>none
  | some p=>(wayF ps one f p).map (· ++ [o])
def Bp (T:aR ps){one:Nat}:∀ f g o,o<f->o<g->wayF ps one f o=wayF ps one g o
 | 0,_,_,h,_=>absurd h (kL _)
 | _,0,_,_,h=>absurd h (kL _)
 | f+1,g+1,o,hf,hg=>by
  unfold wayF;split
  .rfl
  .cases e:par ps o with
   | none=>rfl
   | some p=>
    have:=(bA T e).1;show (wayF ps one f p).map _=(wayF ps one g p).map _;rw[Bp T f g p (by lia) (by lia)]
def wayL (ps:List Nat)(one o:Nat):Option (List Nat):=wayF ps one (o+1) o
def HI :wayL ps o o=some [o]:=by
 unfold wayL wayF;rw[af rfl]
def qO (T:aR ps){one o:Nat}(h:o≠one):wayL ps one o=match par ps o with
  | none=>none
  | some p=>(wayL ps one p).map (· ++ [o]):=by
 unfold wayL;rw[wayF,ag h];cases e:par ps o with
 | none=>rfl
 | some p=>
  show (wayF ps one o p).map _=(wayF ps one (p+1) p).map _;rw[Bp T o (p+1) p (bA T e).1 (by lia)]
def Bq (T:aR ps){one:Nat}:∀ n o,o<=n->o<one->wayL ps one o=none
 | n,o,hn,h=>by
  rw[qO T (by lia)];cases e:par ps o with
  | none=>rfl
  | some p=>
   have hp:=(bA T e).1;show (wayL ps one p).map _=none;cases n with
   | zero=>lia
   | succ n=>rw[Bq T n p (by lia) (by lia)];rfl
def ix (ps:List Nat)(w:List Nat):Prop:=∀ t,t+1<w.length->par ps (w.getD (t+1) 0)=some (w.getD t 0)
def HJ {x:Nat}(h:ix ps w)(hx:w≠[]->par ps x=some (w.getD (w.length-1) 0)):ix ps (w++[x]):=by
 intro t ht;rw[aV,di]at ht;have e0:(w++[x]).getD t 0=w.getD t 0:=by
  rw[aA,aA,fZ (by lia)]
 rw[e0];by_cases c:t+1<w.length
 .have e1:(w++[x]).getD (t+1) 0=w.getD (t+1) 0:=by
   rw[aA,aA,fZ c]
  rw[e1];exact h t c
 .have et:t+1=w.length:=by lia
  have e1:(w++[x]).getD (t+1) 0=x:=by
   rw[aA,et,eF (ai _),iK];rfl
  rw[e1];have:=hx (λz=>by rw[z]at et;simp at et);rw[<-et,iL]at this;exact this
def isB (ps:List Nat)(k j:Nat):Bool:=(wayL ps k j).isSome
def benL (ps:List Nat)(k n:Nat):List Nat:=(List.range n).filter (isB ps k)
def i5 {k:Nat}:isB ps k k=true:=by
 unfold isB;rw[HI];rfl
def gU (T:aR ps){k j:Nat}(h:j<k):isB ps k j=false:=by
 unfold isB;rw[Bq T j j (ai _) h];rfl
def gx (T:aR ps){k j p:Nat}(h:j≠k)(e:par ps j=some p):isB ps k j=isB ps k p:=by
 unfold isB;rw[qO T h,e];show ((wayL ps k p).map _).isSome=_;cases wayL ps k p<;>rfl
def HK (T:aR ps)(k:Nat):benL ps k (k+1)=[k]:=by
 unfold benL;rw[fP,cZ];have e1:(List.range k).filter (isB ps k)=[]:=by
  rw[lg];intro j hj z;rw[gU T (dw.mp hj)]at z;cases z
 rw[e1,kO,ef i5];rfl
def gV {k:Nat}:j∈benL ps k n↔j<n/\isB ps k j=true:=by
 unfold benL;rw[eD,dw]
def Br {k:Nat}:benL ps k (n+1)=benL ps k n++(if isB ps k n=true then [n] else []):=by
 unfold benL;rw[fP,cZ];congr 1;by_cases h:isB ps k n=true
 .rw[af h,ef h];rfl
 .rw[ag h,fz h];rfl
def Bs (ps:List Nat)(k n:Nat):(benL ps k n).length<=n:=by
 have:=eP (isB ps k) (List.range n);rw[cv]at this;exact this
def u9 (ps:List Nat)(k n:Nat):(benL ps k n).Pairwise (· < ·):=List.Pairwise.filter _ k9
def Bt (T:aR ps):∀ n j,j<=n->j<ps.length+1->isB ps 0 j=true
 | n,j,hn,h=>by
  by_cases c:j=0
  .rw[c];exact i5
  .obtain ⟨p,e⟩:=u7 (by lia) h;have:=(bA T e).1;rw[gx T c e];cases n with
   | zero=>lia
   | succ n=>exact Bt T n p (by lia) (by lia)
def HL (T:aR ps):benL ps 0 (ps.length+1)=List.range (ps.length+1):=by
 unfold benL;rw[sN];exact λj hj=>Bt T j j (ai _) (dw.mp hj)
def bw (ps:List Nat)(k n:Nat):List Nat:=(List.range n).filter λj=>decide (par ps j=some k)
def cW {k j:Nat}:j∈bw ps k n↔j<n/\par ps j=some k:=by
 unfold bw;rw[eD,dw,decide_eq_true_eq]
def qP {k:Nat}:bw ps k (n+1)=bw ps k n++(if par ps n=some k then [n] else []):=by
 unfold bw;rw[fP,cZ];congr 1;by_cases h:par ps n=some k
 .rw[af h,ef (by exact bg h)];rfl
 .rw[ag h,fz (by rw[bD h];decide)];rfl
def mj (ps:List Nat)(k n:Nat):(bw ps k n).length<=n:=by
 have:=eP (λj=>decide (par ps j=some k)) (List.range n);rw[cv]at this;exact this
def Bu (ps:List Nat)(k n:Nat):(bw ps k n).Pairwise (· < ·):=List.Pairwise.filter _ k9
def qQ (T:aR ps){k:Nat}:∀ n j,j<=n->j<ps.length+1->(isB ps k j=true↔j=k\/∃ c,par ps c=some k/\isB ps c j=true)
 | n,j,hn,h=>by
  by_cases c:j=k
  .constructor
   .exact λ_=>.inl c
   .intro _;rw[c];exact i5
  .cases e:par ps j with
   | none=>
    have j0:=Hz h e;have no:∀ m,j≠m->isB ps m j=false:=λm hm=>by
     unfold isB;rw[qO T hm,e];rfl
    constructor
    .intro z;rw[no k c]at z;cases z
    .rintro (z|⟨d,hd,z⟩)
     .exact absurd z c
     .by_cases y:j=d
      .rw[<-y,e]at hd;cases hd
      .rw[no d y]at z;cases z
   | some p=>
    have hp:=(bA T e).1;cases n with
    | zero=>lia
    | succ n=>
     have ih:=qQ T (k:=k) n p (by lia) (by lia);rw[gx T c e,ih];constructor
     .rintro (z|⟨d,hd,z⟩)
      .refine .inr #[j,?_,i5];rw[e,z]
      .by_cases y:j=d
       .rw[<-y]at z;rw[gU T hp]at z;cases z
       .exact .inr #[d,hd,by rw[gx T y e];exact z]
     .rintro (z|⟨d,hd,z⟩)
      .exact absurd z c
      .by_cases y:j=d
       .subst y;rw[e]at hd;exact .inl (aK hd)
       .rw[gx T y e]at z;exact .inr #[d,hd,z]
def mn (T:aR ps){k c d:Nat}(hc:par ps c=some k)(hd:par ps d=some k)(hcd:c≠d):∀ n j,j<=n->isB ps c j=true->isB ps d j=true->False
 | n,j,hn,h1,h2=>by
  by_cases e1:j=c
  .subst e1;rw[gx T hcd hc,gU T (bA T hd).1]at h2;cases h2
  .by_cases e2:j=d
   .subst e2;rw[gx T e1 hd,gU T (bA T hc).1]at h1;cases h1
   .cases e:par ps j with
    | none=>
     unfold isB at h1;rw[qO T e1,e]at h1;cases h1
    | some p=>
     have hp:=(bA T e).1;rw[gx T e1 e]at h1;rw[gx T e2 e]at h2;cases n with
     | zero=>lia
     | succ n=>exact mn T hc hd hcd n p (by lia) h1 h2
def HM (T:aR ps){k:Nat}(hk:k<ps.length+1):(k::((bw ps k (ps.length+1)).map λc=>benL ps c (ps.length+1)).flatten).Perm (benL ps k (ps.length+1)):=by
 have lt:∀{l:List Nat},l.Pairwise (· < ·)->l.Nodup:=λh=>List.Pairwise.imp (λ{a b} (q:a<b)=>bh q) h;refine (List.perm_ext_iff_of_nodup ?_ (lt (u9 ps k _))).mpr λj=>?_
 .rw[dN];refine #[λh=>?_,?_]
  .obtain ⟨l,hl,hj⟩:=nA.mp h;obtain ⟨c,hc,rfl⟩:=bC.mp hl;have h1:=(cW.mp hc).2;have h2:=(gV.mp hj).2;rw[gU T (bA T h1).1]at h2;cases h2
  .show List.Pairwise _ _;rw[List.pairwise_flatten];refine #[λl hl=>?_,?_]
   .obtain ⟨c,hc,rfl⟩:=bC.mp hl;exact lt (u9 ps c _)
   .rw[iM];refine List.Pairwise.imp_of_mem (λ{c d} hc hd hcd=>?_) (Bu ps k _);intro x hx y hy z;subst z;exact mn T (cW.mp hc).2 (cW.mp hd).2 (bh hcd) x x (ai _) (gV.mp hx).2 (gV.mp hy).2
 .rw[aX,nA,gV];constructor
  .rintro (rfl|⟨l,hl,hj⟩)
   .exact #[hk,i5]
   .obtain ⟨c,hc,rfl⟩:=bC.mp hl;obtain ⟨h1,h2⟩:=gV.mp hj;exact #[h1,(qQ T j j (ai _) h1).mpr (.inr #[c,(cW.mp hc).2,h2])]
  .rintro ⟨h1,h2⟩;rcases (qQ T j j (ai _) h1).mp h2 with q|⟨c,hc,q⟩
   .exact .inl q
   .exact .inr #[_,bC.mpr #[c,cW.mpr #[(bA T hc).2,hc],rfl],gV.mpr #[h1,q]]
def HN (t u:TS):TS:=λD U H=>∀ N:L2.St->Hp->Prop,(∀ U' H',u D U' H'->N U' H')->t { D with nx:=N } U H
def c7 {st:Stmt}{rest:List Stmt}{t:TS}(h1:PS X st t)(h2:PSs X rest u):PSs X (st::rest) (HN t u):=λLI s U H D I h=>ay h1 h2 LI s U H D I (h (u D) λ_ _ z=>z)
inductive Bv (t u:TS)(D:Ends)(U:L2.St)(H:Hp):Prop
 | c:∀(M:L2.St->Hp->Prop),(∀ N:L2.St->Hp->Prop,(∀ U' H',M U' H'->N U' H')->t { D with nx:=N } U H)->(∀ U' H',M U' H'->u D U' H')->Bv t u D U H
def mq {st:Stmt}{rest:List Stmt}{t:TS}(h1:PS X st t)(h2:PSs X rest u):PSs X (st::rest) (Bv t u):=λLI s U H D I h=>by
 obtain ⟨M,h3,h4⟩:=h;exact fG h1 h2 LI s U H D I #[M,h3 M λ_ _ z=>z,h4]
def HP {tb:TS}{D:Ends}{Pn:L2.St->Hp->Prop}{i:Nat}{x:V}{U:L2.St}{H:Hp}(h:∀(N B:L2.St->Hp->Prop) (R:VK),(∀ U H,Pn U H->N U H)->(∀ U H,D.nx U H->B U H)->(∀ v H,D.rt v H->R v H)->tb { nx:=N,rt:=R,bk:=B,ct:=N } (U.set i (some x)) H):gJ i x U H λU2 H2=>tb { D with nx:=Pn,ct:=Pn,bk:=D.nx } U2 H2:=h Pn D.nx D.rt (λ_ _ z=>z) (λ_ _ z=>z) (λ_ _ z=>z)
def HQ {tb:TS}{D:Ends}{Pn:L2.St->Hp->Prop}{U:L2.St}{H:Hp}(h:∀(N B:L2.St->Hp->Prop) (R:VK),(∀ U H,Pn U H->N U H)->(∀ U H,D.nx U H->B U H)->(∀ v H,D.rt v H->R v H)->tb { nx:=N,rt:=R,bk:=B,ct:=N } U H):tb { D with nx:=Pn,ct:=Pn,bk:=D.nx } U H:=h Pn D.nx D.rt (λ_ _ z=>z) (λ_ _ z=>z) (λ_ _ z=>z)
seal PSs PS PE PT PW PA PI PG PO
section
variable {P:Program}{w:World}{K:Frag}{mg:Str->Option Value}{base:Heap}
def HR (T:Txt K mg)(wj:DF K mg "_law_mixed" oV qg):FC P w K mg base 1 "_law_mixed" qg tS:=by
 refine wj.ok uI (λvs H Q E h=>?_) (λf cdv A outer s H vs Q E hr h=>?_)
 .obtain ⟨c,k,rfl,_⟩:=h;rfl
 obtain ⟨c,k,rfl,q⟩:=h;refine #[_,(ay (aE (i:=2) uI.nd rfl (ar rfl) (ax fD (ax dm (ax bH (ax bH (ax fD (pv 0) ah) (ax dm ah (pv 1))) ah) ah) ah))
   (ay (aE (i:=3) uI.nd rfl (ar rfl) (ax fD (ax bH (ax bH (ax dm (pv 2) (pv 2)) (ax dm ah (pv 2))) (pv 1)) ah))
   (av (aL (ax jG (ax fD (ax bH (ax bH (ax dm (pv 3) (pv 3)) (ax dm ah (pv 3))) (ax dm ah (pv 1))) ah) ah))))),?_]
 walk_at "rd"
 exact q _
def HS (T:Txt K mg)(wm:DF K mg "_law_begin" oU qf):FC P w K mg base 1 "_law_begin" qf (tT K):=by
 refine wm.ok GQ (λvs H Q E h=>?_) (λf cdv A outer s H vs Q E hr h=>?_)
 .obtain ⟨L,ns,rfl,_⟩:=h;rfl
 obtain ⟨L,ns,rfl,hS,q⟩:=h;refine #[_,(av (aL (Ee (tD fQ (pv 0) (tD fQ ah (tD fQ ah Ec))) rfl rfl (by simp) (by decide)))),?_];intro p hp;refine #[_,rfl,aj,[(.inr "script",.ref L),(.inr "at",.int 0),(.inr "left",.int 0)],rfl,(by show 3<=15;decide),?_];have e:upd (upd H p (.dK [])) p (.dK (ik [] [(.inr "script",.ref L),(.inr "at",.int 0),(.inr "left",.int 0)]))=upd H p (de L 0 0):=by
  rw[C3];have:ik [] [((.inr "script" : Key),V.ref L),(.inr "at",.int 0),(.inr "left",.int 0)]=[(.inr "script",.ref L),(.inr "at",.int 0),(.inr "left",.int 0)]:=by
   have a1:putK [] (.inr "script" : Key) (V.ref L)=[(.inr "script",.ref L)]:=lF (kvs:=[]) _ rfl;have a2:putK [((.inr "script" : Key),V.ref L)] (.inr "at") (.int 0)=[(.inr "script",.ref L),(.inr "at",.int 0)]:=by
    rw[lF _ (by rw[fF (gk (show ("script" : Str) ≠ "at" by decide +kernel))];rfl)];rfl
   have a3:putK [((.inr "script" : Key),V.ref L),(.inr "at",.int 0)] (.inr "left") (.int 0)=[(.inr "script",.ref L),(.inr "at",.int 0),(.inr "left",.int 0)]:=by
    rw[lF _ (by rw[fF (gk (show ("script" : Str) ≠ "left" by decide +kernel)),fF (gk (show ("at" : Str) ≠ "left" by decide +kernel))];rfl)];rfl
   unfold ik;simp only[List.foldl_cons,List.foldl_nil];rw[a1,a2,a3]
  rw[this];rfl
 rw[e];exact q p _ hp (aF hp _) #[ns,0,0,aj,(aF hp _).seq hS]
def HU (T:Txt K mg)(wo:DF K mg "_law_take" oW gw)(Ky:FC P w K mg base 1 "_law_mixed" qg tS):FC P w K mg base 2 "_law_take" gw (gP K):=by
 refine wo.ok j5 (λvs H Q E h=>?_) (λf cdv A outer s H vs Q E hr h=>?_)
 .obtain ⟨d,L,m,rfl,_⟩:=h;rfl
 obtain ⟨d,L,m,rfl,⟨hm,hm'⟩,⟨ns,a,l,hd,hS⟩,q⟩:=h;refine #[_,(ay (aE (i:=2) j5.nd rfl (ar rfl) (gO (dW hr) (pv 0) fQ (λ_ _=>rfl)))
   (ay (aE (i:=3) j5.nd rfl (ar rfl) (gO (dW hr) (pv 0) fQ (λ_ _=>rfl)))
   (fG (cg (aZ c9 (gO (dW hr) (pv 0) fQ (λ_ _=>rfl)) ah (bp _)) (ay (jK (dW hr) (pv 0) fQ (ax bH (pv 2) ah) rfl)
   (ay (aE (i:=4) j5.nd rfl (ar rfl) ah)
   (fG (cg (aZ lA (bc (bU (K:=K)) rfl T.bQ bL (aa (pv 3) ae)) ah (bp _)) (av (aE (i:=4) j5.nd rfl (ar rfl) (aD (aQ (K:=K)) (pv 3) (ax fD (pv 2) (bc (bU (K:=K)) rfl T.bQ bL (aa (pv 3) ae))) (λ_ _=>rfl)))) cw)
   (fG (cg (PW.pt (jC (aZ yb (pv 2) (bc (bU (K:=K)) rfl T.bQ bL (aa (pv 3) ae)) (bp _)) (nJ (aZ fS (bc yf rfl T.CJ boot_abs (aa (pv 4) ae)) (ax jH ah ah) (bp _))))) (av (aL (ax fD (aG Ky hr (aa (pv 4) (aa (pv 2) ae))) (pv 1)))) cw)
   (av (jK (dW hr) (pv 0) fQ (bc yf rfl T.CJ boot_abs (aa (pv 4) ae)) rfl)))))) cw)
   (ay (aE (i:=5) j5.nd rfl (ar rfl) (ax fD (gO (dW hr) (pv 0) fQ (λ_ _=>rfl)) (pv 1)))
   (ay (jK (dW hr) (pv 0) fQ (ax jG (gO (dW hr) (pv 0) fQ (λ_ _=>rfl)) (pv 1)) rfl)
   (av (aL (pv 5)))))))),?_]
 refine #[_,rfl,_,_,rfl,E2 hd,_,rfl,_,_,rfl,E1 hd,?_];refine #[λU' H'=>∃(x2 x3 x4 x5:Option V) (a' l':Int),U'=[some (.ref d),some (.int m),x2,x3,x4,x5]/\H' d=some (de L a' l')/\Keep d H H',?_,?_]
 .refine #[_,rfl,_,_,rfl,tR hd,rfl,_,rfl,?_];refine ite2 (λ_=>?_) (λ_=>?_)
  .refine #[_,rfl,_,_,rfl,rfl,_,rfl,_,_,rfl,E3 hd,?_];have hd1:upd H d (de L (a+1) l) d=some (de L (a+1) l):=aj;obtain ⟨-,k1⟩:=LS.set (a':=a+1) (l':=l) hd hS;have hS1:=tQ hd k1 hS;generalize upd H d (de L (a+1) l)=H1 at hd1 k1 hS1 ⊢;refine #[λU' H'=>∃ c:Int,U'=[some (.ref d),some (.int m),some (.int a),some (.ref L),some (.int c),none]/\H1=H',?_,?_]
   .refine #[_,rfl,_,_,rfl,.inl hS1,_,_,rfl,rfl,_,rfl,?_];refine ite2 (λc=>?_) (λc=>?_)
    .have c':(0:Int)<(((ns.map V.int).length:Nat):Int):=bJ c;obtain ⟨v,hv⟩:=E4 (ns:=ns) (k:=a) (by rw[aq]at c';lia);refine #[_,rfl,_,rfl,_,rfl,_,_,rfl,.inl hS1,_,_,rfl,rfl,c',_,_,_,_,rfl,rfl,hS1,hv,?_];exact #[v,rfl,rfl]
    .exact #[0,rfl,rfl]
   rintro U' H' ⟨c,rfl,rfl⟩;refine #[λU' H'=>U'=[some (.ref d),some (.int m),some (.int a),some (.ref L),some (.int c),none]/\H1=H',?_,?_]
   .refine #[_,rfl,_,rfl,_,_,rfl,.inl hS1,_,_,rfl,rfl,_,rfl,?_];refine ite2 (λ_=>?_) (λ_=>?_)
    .refine iteT ?_;refine #[_,rfl,_,rfl,c,a,rfl,λv=>#[_,rfl,_,_,rfl,rfl,hm,?_]];exact q _ _ (kS _ (by lia)) (kT _ hm) k1 #[ns,a+1,l,hd1,hS1]
    .refine #[_,rfl,_,rfl,_,_,rfl,rfl,#[by decide,by decide,by decide],_,_,rfl,rfl,_,rfl,?_];refine ite2 (λ_=>?_) (λ_=>?_)
     .refine #[_,rfl,_,rfl,c,a,rfl,λv=>#[_,rfl,_,_,rfl,rfl,hm,?_]];exact q _ _ (kS _ (by lia)) (kT _ hm) k1 #[ns,a+1,l,hd1,hS1]
     .exact #[rfl,rfl]
   rintro U' H' ⟨rfl,rfl⟩;refine #[_,rfl,_,rfl,_,rfl,_,_,rfl,zu hd1,?_];obtain ⟨-,k2⟩:=LS.set (a':=a+1) (l':=if c<0 then -c else c) hd1 hS1
   exact #[_,_,_,_,_,_,rfl,aj,k1.trans k2]
  .exact #[_,_,_,_,a,l,rfl,hd,Keep.refl _ _]
 rintro U' H' ⟨x2,x3,x4,x5,a',l',rfl,hd',k'⟩;have hS':=tQ hd k' hS;refine #[_,rfl,_,_,rfl,tR hd',_,rfl,_,_,rfl,rfl,hm,?_];refine #[_,rfl,_,_,rfl,tR hd',_,rfl,_,_,rfl,rfl,#[hm,hm'],_,rfl,_,_,rfl,zu hd',?_];obtain ⟨s1,k1⟩:=LS.set (a':=a') (l':=l'/m) hd' hS';refine #[_,rfl,?_];exact q _ _ (kS _ (by lia)) (kT _ hm) (k'.trans k1) s1
inductive va (vs:List V)(H:Hp)(Q:VK)(w_1:XK):Prop
 | c:∀(a b:Nat),vs=[.int a,.int b]->a≠b->Q (.int (lu a b:Nat)) H->va vs H Q w_1
def HV (T:Txt K mg)(wq:DF K mg "lowest_unlike" oy pO):FC P w K mg base 1 "lowest_unlike" pO va:=by
 refine wq.ok AM (λvs H Q E h=>?_) (λf cdv A outer s H vs Q E hr h=>?_)
 .obtain ⟨a,b,rfl,_⟩:=h;rfl
 obtain ⟨a,b,rfl,hab,q⟩:=h;refine #[_,(ay (aE (i:=2) AM.nd rfl (ar rfl) (ax Ds (pv 0) (pv 1)))
   (av (aL (ax c4 (DW F.plainAttrs_int F.slot_int_bit_length F.type_int_bit_length EY (ax xV (pv 2) (fc fe (pv 2)))) ah)))),?_]
 refine #[_,rfl,_,rfl,_,_,rfl,rfl,_,rfl,_,rfl,_,rfl,_,_,rfl,rfl,rfl,_,rfl,rfl,_,_,rfl,rfl,?_];rw[<-Hc a b hab]at q;exact q
inductive qR (K:Frag)(vs:List V)(H:Hp)(Q:VK)(w_1:XK):Prop
 | c:∀(d L:Addr),vs=[.ref d]->LS K L d H->(∀(v:Int) (H':Hp),-(10^60)<v->v<10^60->Keep d H H'->LS K L d H'->Q (.int v) H')->qR K vs H Q w_1
def HZ {x m:Int}(h1:-999<=x)(h2:x<=999)(h3:0<m)(h4:m<=10^57):-(10^60)<x*m/\x*m<10^60:=by
 have a:=Int.mul_le_mul_of_nonneg_right h2 (Int.le_of_lt h3);have b:=Int.mul_le_mul_of_nonneg_right h1 (Int.le_of_lt h3);lia
def Ia (T:Txt K mg)(wt:DF K mg "_law_key" oX ma)(bR:FC P w K mg base 2 "_law_take" gw (gP K)):FC P w K mg base 3 "_law_key" ma (qR K):=by
 refine wt.ok AO (λvs H Q E h=>?_) (λf cdv A outer s H vs Q E hr h=>?_)
 .obtain ⟨d,L,rfl,_⟩:=h;rfl
 obtain ⟨d,L,rfl,hs,q⟩:=h;refine #[_,(ay (aE (i:=1) AO.nd rfl (ar rfl) (aG bR hr (aa (pv 0) (aa ah ae))))
   (fG (cg (aZ fS (pv 1) ah (bp _)) (av (aL (aG bR hr (aa (pv 0) (aa ah ae))))) cw)
   (fG (cg (aZ fS (pv 1) ah (bp _)) (av (aL (ax c4 (aG bR hr (aa (pv 0) (aa ah ae))) ah))) cw)
   (fG (cg (aZ c9 (pv 1) ah (bp _)) (av (aL (ax dm (ax c4 (aG bR hr (aa (pv 0) (aa ah ae))) ah) (aD (aQ (K:=K)) (dn (aa ah (aa (ax jH ah ah) (aa (ax jH ah ah) (aa (ax jH ah ah) ae))))) (aG bR hr (aa (pv 0) (aa ah ae))) (λ_ _=>rfl))))) cw)
   (av (aL (ax dm (aD (aQ (K:=K)) (dn (aa ah (aa (fc fe ah) ae))) (aG bR hr (aa (pv 0) (aa ah ae))) (λ_ _=>rfl)) (ax c4 (ax c4 (ax jH ah ah) ah) (aG bR hr (aa (pv 0) (aa ah ae))))))))))),?_]
 refine #[_,rfl,d,L,8,rfl,by decide,hs,λw1 H1 w0 w8 k1 s1=>?_];have nd:∀{H':Hp} {p:Addr},LS K L d H'->H' p=none->p≠d:=λs hp z=>by
  obtain ⟨_,_,_,e,_⟩:=s.ex;rw[<-z,hp]at e;cases e
 refine #[λU' H'=>U'=[some (.ref d),some (.int w1)]/\H1=H',?_,?_]
 .refine #[_,rfl,_,_,rfl,rfl,_,rfl,?_];refine ite2 (λc=>?_) (λc=>?_)
  .refine #[_,rfl,d,L,10,rfl,by decide,s1,λu H2 u0 u1 k2 s2=>?_];exact q u H2 (by lia) (by lia) (k1.trans k2) s2
  .exact #[rfl,rfl]
 rintro U' H' ⟨rfl,rfl⟩;refine #[λU' H'=>U'=[some (.ref d),some (.int w1)]/\H1=H',?_,?_]
 .refine #[_,rfl,_,_,rfl,rfl,_,rfl,?_];refine ite2 (λc=>?_) (λc=>?_)
  .refine #[_,rfl,d,L,60,rfl,by decide,s1,λu H2 u0 u1 k2 s2=>#[_,_,rfl,rfl,?_]];exact q (u-30) H2 (by lia) (by lia) (k1.trans k2) s2
  .exact #[rfl,rfl]
 rintro U' H' ⟨rfl,rfl⟩;refine #[λU' H'=>U'=[some (.ref d),some (.int w1)]/\H1=H',?_,?_]
 .refine #[_,rfl,rfl,_,rfl,?_];refine ite2 (λc=>?_) (λc=>?_)
  .refine #[_,rfl,d,L,1999,rfl,by decide,s1,λu H2 u0 u1 k2 s2=>#[_,_,rfl,rfl,?_]];refine #[_,_,rfl,rfl,#[by decide,by decide,by decide],_,_,rfl,rfl,#[by decide,by decide,by decide],_,_,rfl,rfl,#[by decide,by decide,by decide],(by show 4<=sizeLine;decide),λp hp=>?_];refine #[_,rfl,d,L,4,rfl,by decide,s2.of_new hp _,λb H3 b0 b1 k3 s3=>?_];obtain ⟨m,hat,m0,m1⟩:∃ m:Int,atI [V.int 1,V.int (10^(19:Int).toNat),V.int (10^(38:Int).toNat),V.int (10^(57:Int).toNat)] b=some (.int m)/\0<m/\m<=10^57:=by
    have z:b=0\/b=1\/b=2\/b=3:=by lia
    rcases z with rfl|rfl|rfl|rfl
    .exact #[_,rfl,by decide +kernel,by decide +kernel]
    .exact #[_,rfl,by decide +kernel,by decide +kernel]
    .exact #[_,rfl,by decide +kernel,by decide +kernel]
    .exact #[_,rfl,by decide +kernel,by decide +kernel]
   refine #[_,_,_,_,rfl,rfl,SqL.of (k3 p _ (nd s2 hp) aj),hat,_,_,rfl,rfl,.inl #[by lia,by lia],?_];obtain ⟨f1,f2⟩:=HZ (x:=u-999) (m:=m) (by lia) (by lia) m0 m1;exact q _ H3 f1 f2 ((k1.trans k2).trans ((aF hp _).keep.trans k3)) s3
  .exact #[rfl,rfl]
 rintro U' H' ⟨rfl,rfl⟩;refine #[_,rfl,(by show 2<=sizeLine;decide),λp hp=>?_];refine #[_,rfl,d,L,2,rfl,by decide,s1.of_new hp _,λb H2 b0 b1 k2 s2=>?_];obtain ⟨m,hat,hm⟩:∃ m:Int,atI [V.int 1,V.int (-1)] b=some (.int m)/\(m=1\/m = -1):=by
  have z:b=0\/b=1:=by lia
  rcases z with rfl|rfl
  .exact #[_,rfl,.inl rfl]
  .exact #[_,rfl,.inr rfl]
 refine #[_,_,_,_,rfl,rfl,SqL.of (k2 p _ (nd s1 hp) aj),hat,_,_,rfl,rfl,#[by decide,by decide,by decide],_,_,rfl,rfl,_,rfl,d,L,3,rfl,by decide,s2,λu H3 u0 u1 k3 s3=>#[_,_,rfl,rfl,_,_,rfl,rfl,.inl #[by lia,by lia],?_]];have e60:(10:Int)^(60:Int).toNat=10^60:=rfl;rw[e60];have kk:=k1.trans ((aF hp _).keep.trans (k2.trans k3));rcases hm with rfl|rfl
 .exact q _ H3 (by lia) (by lia) kk s3
 .exact q _ H3 (by lia) (by lia) kk s3
def Rise (es:List (Int×Int)):Prop:=es.Pairwise λa b=>pLt a b=true
def eB (k:Int)(e:Int×Int):Prop:=-(10^60)<e.1/\e.1<10^60/\0<=e.2/\e.2<k
def Ib {κ:Type}[DecidableEq κ](kvs:List (κ×V))(k:κ)(v:V):(putK kvs k v).map (·.1)=if (kvs.any λkv=>decide (kv.1=k))=true then kvs.map (·.1) else kvs.map (·.1)++[k]:=by
 unfold putK;split
 .rw[hG];apply sO;intro a ha;show (if a.1=k then (a.1,v) else a).1=a.1
  split<;>rfl
 .rw[bo];rfl
def gy (e:Int×Int):Int:=64*(if 0<=e.1 then 2*e.1 else -2*e.1-1)+e.2
def gA (e:Int×Int):Nat:=(gy e).toNat
def mw {e:Int×Int}(h:eB 64 e):((gA e:Nat):Int)=gy e:=by
 obtain ⟨h1,h2,h3,h4⟩:=h;unfold gA gy;split<;>lia
def Ic {e:Int×Int}(h:eB 64 e):gA e<2^207:=by
 have z:=mw h;obtain ⟨h1,h2,h3,h4⟩:=h;unfold gy at z;split at z<;>lia
def Ie {e f:Int×Int}(h:eB 64 e)(g:eB 64 f)(z:gA e=gA f):e=f:=by
 have z1:=mw h;have z2:=mw g;obtain ⟨h1,h2,h3,h4⟩:=h;obtain ⟨g1,g2,g3,g4⟩:=g;obtain ⟨a,b⟩:=e;obtain ⟨c,d⟩:=f;rw[z,z2]at z1;unfold gy at z1;dsimp only at *;have:a=c/\b=d:=by
  split at z1<;>split at z1<;>lia
 rw[this.1,this.2]
inductive mx (K:Frag)(vs:List V)(H:Hp)(Q:VK)(w_1:XK):Prop
 | c:∀(v:V) (e:Int×Int),vs=[v]->Rep.has K H e v->Q (.int (gy e)) H->mx K vs H Q w_1
def Ig (T:Txt K mg)(wx:DF K mg "code" ou pL):FC P w K mg base 1 "code" pL (mx K):=by
 refine wx.ok uE (λvs H Q E h=>?_) (λf cdv A outer s H vs Q E hr h=>?_)
 .obtain ⟨v,e,rfl,_⟩:=h;rfl
 obtain ⟨v,e,rfl,he,q⟩:=h;obtain ⟨p,x1,x2,rfl,hT,e1,e2⟩:=(show hasP K H e v from he);have hT:=SqT.of (K:=K) hT;have e1:x1=.int e.1:=e1;have e2:x2=.int e.2:=e2;subst e1 e2;refine #[_,(ay (aE (i:=1) uE.nd rfl (ar rfl) (aD (bI (K:=K)) (pv 0) ah (λ_ _=>rfl)))
   (ay (aE (i:=2) uE.nd rfl (ar rfl) (xK (aZ yb (pv 1) ah (bp _)) (ax dm ah (pv 1)) (ax c4 (ax dm (fc fe ah) (pv 1)) ah)))
   (av (aL (ax bH (ax dm (ud rfl T.Kv) (pv 2)) (aD (bI (K:=K)) (pv 0) ah (λ_ _=>rfl))))))),?_]
 refine #[_,rfl,_,_,_,_,rfl,rfl,hT,rfl,?_];refine #[_,rfl,_,_,rfl,rfl,_,rfl,?_];refine ite2 (λc=>?_) (λc=>?_)
 .have c':0<=e.1:=bJ c;refine #[_,rfl,_,_,rfl,rfl,.inl #[by decide,by decide],?_];refine #[_,rfl,_,_,rfl,rfl,.inl #[by decide,by decide],_,rfl,_,_,_,_,rfl,rfl,hT,rfl,_,_,rfl,rfl,?_];unfold gy at q;rw[af c']at q;exact q
 .have c':¬ 0<=e.1:=iO (iN.mpr c);refine #[_,rfl,_,rfl,_,_,rfl,rfl,.inl #[by decide,by decide],_,_,rfl,rfl,?_];refine #[_,rfl,_,_,rfl,rfl,.inl #[by decide,by decide],_,rfl,_,_,_,_,rfl,rfl,hT,rfl,_,_,rfl,rfl,?_];unfold gy at q;rw[ag c']at q;exact q
abbrev nV (n:Nat):V:=.int (n:Int)
def qS {v:Int}(h:0<=v):∃ n:Nat,v=(n:Int):=#[v.toNat,by lia]
def iy {xs:List Nat}{i:Nat}(h:i<xs.length):atI (xs.map nV) (i:Int)=some (nV (xs.getD i 0)):=
 cI (by rw[aY,aw h,aA,aw h];rfl)
def Bw {xs:List Nat}{i:Nat}(h0:i≠0)(h:i<xs.length):atI (xs.map nV) ((i:Int)-1)=some (nV (xs.getD (i-1) 0)):=by
 have e:(i:Int)-1=((i-1:Nat):Int):=by lia
 rw[e];exact iy (by lia)
def my {xs:List Nat}{i:Nat}{x:V}(h:(xs.map nV)[i]?=some x):i<xs.length/\x=nV (xs.getD i 0):=by
 rw[aY]at h;cases e:xs[i]? with
 | none=>rw[e]at h;cases h
 | some y=>
  rw[e]at h;refine #[(aN.mp e).1,?_];rw[aA,e];exact (aK h).symm
def Ih (n:Nat):Builtin.bitAnd (n:Int) 1=((n%2:Nat):Int):=by
 unfold Builtin.bitAnd;rw[bg (iF n),bg (by decide:(0:Int)<=1)];show ((n &&& 1:Nat):Int)=_;rw[Nat.and_one_is_mod]
def Ii (a b:Nat):2*((lu a b:Nat):Int)+Builtin.bitAnd ((b:Int)/2^((lu a b:Nat):Int).toNat) 1=((fig a b:Nat):Int):=by
 have e:(b:Int)/2^((lu a b:Nat):Int).toNat=((b/2^lu a b:Nat):Int):=by
  rw[fm,Int.natCast_ediv,Int.natCast_pow];rfl
 rw[e,Ih];unfold fig;lia
def Ij {K:Frag}{xs:List Nat}:aB K H (xs.map λn:Nat=>(n:Int)) (xs.map nV):=by
 have e:xs.map nV=(xs.map λn:Nat=>(n:Int)).map V.int:=by rw[hG];rfl
 rw[e];exact aB.ints
def But (p:Addr)(H H':Hp):Prop:=∀ b o,b≠p->H b=some o->H' b=some o
def But.sq {K:Frag}{a:Addr}(k:But p H H')(h:SqL K H a xs)(n:H p=none):SqL K H' a xs:=by
 rcases h with (h|⟨o,h⟩)|h
 .exact .inl (.inl (k _ _ (au h n) h))
 .exact .inl (.inr #[o,k _ _ (au h n) h])
 .exact .inr h
def qT (xs:List Nat):(xs.map nV).all gc=true:=by
 rw[eY];intro x hx;obtain ⟨n,_,rfl⟩:=bC.mp hx;rfl
def qU (n:Nat)(xs:List Nat):inV (.int (n:Int)) (xs.map nV)=decide (n∈xs):=by
 unfold inV
 induction xs with
 | nil=>rfl
 | cons x xs ih=>
  rw[bS,gC,ih];show ((x:Int)==(n:Int)||decide (n∈xs))=decide (n∈x::xs);by_cases h:x=n
  .subst h;simp
  .have:((x:Int)==(n:Int))=false:=by
    rw[beq_eq_false_iff_ne];lia
   rw[this,Bool.false_or];have e:(n∈x::xs)=(n∈xs):=propext (by simp[aT h]);simp[aT h]
inductive mz (K:Frag)(vs:List V)(H:Hp)(Q:VK)(w_1:XK):Prop
 | c:∀(a:Addr) (xs:List Nat),vs=[.ref a]->SqL K H a (xs.map nV)->Unl xs->xs.length<=1000->(∀(p:Addr) (H':Hp),H p=none->Same H H'->H' p=some (.lst ((cJ xs).map nV))->Q (.ref p) H')->mz K vs H Q w_1
def Ik (T:Txt K mg)(wz:DF K mg "turned" oA pP)(Kz:FC P w K mg base 1 "lowest_unlike" pO va):FC P w K mg base 2 "turned" pP (mz K):=by
 refine wz.ok lX (λvs H Q E h=>?_) (λf cdv A outer s H vs Q E hr h=>?_)
 .obtain ⟨a,xs,rfl,_⟩:=h;rfl
 obtain ⟨a,xs,rfl,hS,hu,hz,q⟩:=h;refine #[_,(ay (aE (i:=1) lX.nd rfl (ar rfl) (dn ae))
   (ay (bW PassesOwn.never rfl (tW rfl T.we (aa (pv 0) ae)) (fR rfl (cD (aI (i:=2) lX.nd rfl (ar rfl)) (cD (aI (i:=3) lX.nd rfl (ar rfl)) fA))) (av (cg (aZ c9 (pv 2) ah (bp _)) (av (dR (dU F.plainAttrs_list F.slot_list_append F.type_list_append dD (pv 1) (aa (ax fD (pv 3) ah) ae)))) (ay (aE (i:=4) lX.nd rfl (ar rfl) (aG Kz hr (aa (aD (aQ (K:=K)) (pv 0) (ax c4 (pv 2) ah) (λ_ _=>rfl)) (aa (pv 3) ae))))
   (av (dR (dU F.plainAttrs_list F.slot_list_append F.type_list_append dD (pv 1) (aa (ax bH (ax dm ah (pv 4)) (ax xV (ax Dr (pv 3) (pv 4)) ah)) ae))))))))
   (av (aL (pv 1))))),?_]
 refine #[(by show 0<=sizeLine;decide),λp hp=>?_];have k0:But p H (upd H p (.lst [])):=λb o n e=>by rw[ak n];exact e
 refine #[_,rfl,a,rfl,#[_,k0.sq hS hp],?_];refine tX (xs:=xs.map nV) (λi U H2=>∃ x2 x3 x4:Option V,U=[some (.ref a),some (.ref p),x2,x3,x4]/\H2 p=some (.lst (((cJ xs).take i).map nV))/\But p H H2) ?_ ?_ ?_ ?_
 .exact #[_,_,_,rfl,aj,k0]
 .rintro i U H2 _ ⟨x2,x3,x4,rfl,_,k2⟩;exact k2.sq hS hp
 .rintro i x U H2 r hx ⟨x2,x3,x4,rfl,h2,k2⟩ hr;obtain ⟨hi,rfl⟩:=my hx;have hS2:=k2.sq hS hp;have np:p≠r:=au h2 hr;have h3:upd H2 r (.tup [.int i,nV (xs.getD i 0)]) p=some (.lst (((cJ xs).take i).map nV)):=by rw[ak np];exact h2
  have k3:But p H (upd H2 r (.tup [.int i,nV (xs.getD i 0)])):=λb o n e=>(aF hr _) b o (k2 b o n e);have hS3:=k3.sq hS hp;have hlen:(((cJ xs).take i).map nV).length<sizeLine:=bt (by rw[aq,aW,ir];lia);refine #[r,_,rfl,SqT.of aj,rfl,_,_,rfl,_,_,rfl,rfl,?_];generalize upd H2 r (.tup [.int i,nV (xs.getD i 0)])=H3 at h3 k3 hS3 ⊢;have fin:∀ v:V,v=nV (fh xs i)->∃ y2 y3 y4:Option V,[some (V.ref a),some (V.ref p),y2,y3,y4]=[some (V.ref a),some (V.ref p),y2,y3,y4]/\upd H3 p (.lst (((cJ xs).take i).map nV++[v])) p=some (.lst (((cJ xs).take (i+1)).map nV))/\But p H (upd H3 p (.lst (((cJ xs).take i).map nV++[v]))):=by
   rintro v rfl;refine #[none,none,none,rfl,?_,λb o n e=>by rw[ak n];exact k3 b o n e];rw[aj,AZ hi,bo];rfl
  refine #[_,rfl,rfl,_,rfl,?_];refine ite2 (λc=>?_) (λc=>?_)
  .have c':i=0:=by
    have:=V.int.inj (bJ c);lia
   refine #[_,rfl,.inl #[rfl,_,SqL.of h3],_,rfl,_,_,rfl,rfl,(by show (0:Int) < 2;decide),_,_,_,rfl,rfl,h3,hlen,?_];obtain ⟨_,_,_,_,g2,g3⟩:=fin (.int (((xs.getD i 0:Nat):Int) % 2)) (by
    unfold fh;rw[af c',c'];show V.int _=V.int _;rw[Int.natCast_emod];rfl)
   exact #[_,_,_,rfl,g2,g3]
  .have c':i≠0:=λz=>c (by subst z;decide);have hne:xs.getD (i-1) 0≠xs.getD i 0:=by
    have:=hu (i-1) (by lia);rw[show i-1+1=i by lia]at this;exact this
   refine #[_,rfl,_,rfl,_,_,rfl,rfl,_,_,_,_,rfl,rfl,hS3,Bw c' hi,_,rfl,_,_,rfl,hne,?_];refine #[_,rfl,.inl #[rfl,_,SqL.of h3],_,rfl,_,_,rfl,rfl,.inl #[by decide,by decide],_,rfl,_,rfl,_,_,rfl,rfl,iF _,_,_,rfl,rfl,_,_,rfl,rfl,_,_,_,rfl,rfl,h3,hlen,?_];obtain ⟨_,_,_,_,g2,g3⟩:=fin (.int (2 * ((lu (xs.getD (i - 1) 0) (xs.getD i 0):Nat):Int)+Builtin.bitAnd (((xs.getD i 0:Nat):Int) / 2 ^ ((lu (xs.getD (i - 1) 0) (xs.getD i 0):Nat):Int).toNat) 1)) (by
    unfold fh;rw[ag c',Ii])
   exact #[_,_,_,rfl,g2,g3]
 .rintro U H2 ⟨x2,x3,x4,rfl,h2,k2⟩;refine #[_,rfl,?_];refine q p H2 hp (λb o e=>k2 b o (au e hp) e) ?_;rw[h2,bx (by rw[ir,aq];exact ai _)]
def cK:Nat->List Nat->List Nat
 | 0,xs=>xs
 | n+1,xs=>cJ (cK n xs)
def i8 (n:Nat)(xs:List Nat):(cK n xs).length=xs.length:=by
 induction n with
 | zero=>rfl
 | succ n ih=>rw[cK,ir,ih]
def i9 (h:Unl xs)(n:Nat):Unl (cK n xs):=by
 induction n with
 | zero=>exact h
 | succ n ih=>exact G7 ih
def qV {k:Nat}(h:du m xs)(hk:m<=k):du k xs:=λi hi=>aO (h i hi) hk
def Il (h:Unl xs)(hb:du (2^207) xs):du 414 (cK 1 xs):=md (k:=207) (by decide) h hb
def Im (h:Unl xs)(hb:du (2^207) xs):du 18 (cK 2 xs):=md (k:=9) (by decide) (i9 h 1) (qV (Il h hb) (by decide))
def Io (h:Unl xs)(hb:du (2^207) xs):du 10 (cK 3 xs):=md (k:=5) (by decide) (i9 h 2) (qV (Im h hb) (by decide))
def Ip (h:Unl xs)(hb:du (2^207) xs):du 8 (cK 4 xs):=md (k:=4) (by decide) (i9 h 3) (qV (Io h hb) (by decide))
def Iq (h:Unl xs)(hb:du (2^207) xs):du 6 (cK 5 xs):=md (k:=3) (by decide) (i9 h 4) (qV (Ip h hb) (by decide))
def cm (es:List (Int×Int)):List Nat:=es.map gA
def eS (es:List (Int×Int)):(cm es).length=es.length:=aq _
def vb {es:List (Int×Int)}{i:Nat}(h:i<es.length):(cm es).getD i 0=gA es[i]:=by
 unfold cm;rw[aA,aY,aw h];rfl
def Ir {es:List (Int×Int)}(h:∀ e∈es,eB 64 e):du (2^207) (cm es):=λi hi=>by
 rw[eS]at hi;rw[vb hi];exact Ic (h _ (cG hi))
def qW {es:List (Int×Int)}(h:∀ e∈es,eB 64 e)(hr:Rise es):Unl (cm es):=λi hi=>by
 rw[eS]at hi;rw[vb (by lia),vb hi];intro z;have e:=Ie (h _ (cG (by lia))) (h _ (cG hi)) z;have:=cM.mp hr i (i+1) (by lia) hi (by lia);rw[e]at this;have q:=gp.mp this;lia
def Bx {es:List (Int×Int)}{i:Nat}(h:i<es.length):(cm es).take (i+1)=(cm es).take i++[gA es[i]]:=by
 have h':i<(cm es).length:=by rw[eS];exact h
 have z:(cm es)[i]'h'=gA es[i]:=List.getElem_map gA;rw[cH h',z]
inductive vc (K:Frag)(vs:List V)(H:Hp)(Q:VK)(w_1:XK):Prop
 | c:∀(a:Addr) (ws:List V) (es:List (Int×Int)),vs=[.ref a]->SqL K H a ws->aB K H es ws->es.length<=1000->(∀ e∈es,eB 64 e)->Rise es->(∀(p:Addr) (H':Hp),H p=none->Same H H'->H' p=some (.lst ((cK 5 (cm es)).map nV))->Q (.ref p) H')->vc K vs H Q w_1
def By {K:Frag}{H0:Hp}{D:Addr}{es:List (Int×Int)}{ws:List V}{i:Nat}{x:V}(hD:H0 D=none)(hw:aB K H0 es ws)(hx:ws[i]?=some x)(k:But D H0 H2):∃ h:i<es.length,Rep.has K H2 es[i] x:=by
 obtain ⟨e,h1,h2⟩:=hw.get hx;have hi:=(aN.mp h1).1;refine #[hi,?_];have z:es[i]=e:=(aN.mp h1).2;rw[z];obtain ⟨a,x1,x2,rfl,q,e1,e2⟩:=(show hasP K H0 e x from h2);exact #[a,x1,x2,rfl,k _ _ (au q hD) q,e1,e2]
def Iu (T:Txt K mg)(wA:DF K mg "labels" oB pQ)(KA:FC P w K mg base 1 "code" pL (mx K))(KB:FC P w K mg base 2 "turned" pP (mz K)):FC P w K mg base 3 "labels" pQ (vc K):=by
 refine wA.ok pF (λvs H Q E h=>?_) (λf cdv A outer s H vs Q E hr h=>?_)
 .obtain ⟨a,ws,es,rfl,_⟩:=h;rfl
 obtain ⟨a,ws,es,rfl,hS,hw,hz,he,hri,q⟩:=h;have hlen:=hw.length;refine #[_,(ay (iY (i:=1) (N:=["entry"]) (own:=1) (cap:=[]) pF.nd rfl rfl rfl (dS (pv 0)) #[rfl,rfl,rfl,rfl,rfl,rfl] (λ_ _ _ _ _=>(aI (i:=0) (show List.Nodup (["entry"]:List Str) by decide +kernel) rfl (ar rfl))) (λ_ _ _ _ _=>eR) (λ_ _ _ _ _=>(aG KA hr (aa (pv 0) ae))))
   (ay (bW PassesOwn.never rfl (eQ rfl T.c8 (aa (ud rfl T.Kw) ae)) (aI (i:=2) pF.nd rfl (ar rfl)) (av (aE (i:=1) pF.nd rfl (ar rfl) (aG KB hr (aa (pv 1) ae)))))
   (av (aL (pv 1))))),?_]
 refine #[_,rfl,a,rfl,#[_,hS],λD hD=>?_];have k0:But D H (upd H D (.lst [])):=λb o n e=>by rw[ak n];exact e
 refine fT (xs:=ws) (λi U H2=>∃ x0:Option V,U=[x0]/\H2 D=some (.lst (((cm es).take i).map nV))/\But D H H2) ?_ ?_ ?_ ?_
 .exact #[_,rfl,aj,k0]
 .rintro i U H2 _ ⟨x0,rfl,_,k2⟩;exact k2.sq hS hD
 .rintro i m x U H2 hx hm ⟨x0,rfl,h2,k2⟩;obtain ⟨hi,hhas⟩:=By hD hw hx k2;refine gq ?_;refine #[_,rfl,x,es[i],rfl,hhas,?_];refine #[_,h2,bt (by rw[aq,aW,eS];lia),m-1,by lia,by lia,_,rfl,?_,λb o n e=>by rw[ak n];exact k2 b o n e];rw[aj,Bx hi,bo,<-mw (he _ (cG hi))];rfl
 .rintro U H2 ⟨x0,rfl,h2,k2⟩;have e0:H2 D=some (.lst ((cm es).map nV)):=by
   rw[h2,bx (by rw[eS];lia)]
  have same0:Same H H2:=λb o e=>k2 b o (au e hD) e;refine #[5,rfl,by decide,by decide,?_];refine fB (n:=5) (λi U H3=>∃(p:Addr) (x2 x3:Option V),U=[some (.ref a),some (.ref p),x2]/\H p=none/\Same H H3/\H3 p=some (.lst ((cK i (cm es)).map nV))) ?_ ?_ ?_
  .exact #[D,_,none,rfl,hD,same0,e0]
  .rintro i U H3 hi ⟨p,x2,x3,rfl,hp,s3,h3⟩;refine #[_,rfl,p,_,rfl,SqL.of h3,i9 (qW he hri) i,by rw[i8,eS];exact hz,λp4 H4 hp4 s4 h4=>?_];exact #[p4,_,none,rfl,s3.free hp4,s3.trans s4,h4]
  .rintro U H3 ⟨p,x2,x3,rfl,hp,s3,h3⟩;refine #[_,rfl,?_];exact q p H3 hp s3 h3
def Iv (T:Txt K mg)(wB:DF K mg "_law_code" o7 qo):FC P w K mg base 1 "_law_code" qo (mx K):=by
 refine wB.ok uK (λvs H Q E h=>?_) (λf cdv A outer s H vs Q E hr h=>?_)
 .obtain ⟨v,e,rfl,_⟩:=h;rfl
 obtain ⟨v,e,rfl,he,q⟩:=h;obtain ⟨p,x1,x2,rfl,hT,e1,e2⟩:=(show hasP K H e v from he);have hT:=SqT.of (K:=K) hT;have e1:x1=.int e.1:=e1;have e2:x2=.int e.2:=e2;subst e1 e2;refine #[_,(ay (gK (pv 0) (fR rfl (cD (aI (i:=1) uK.nd rfl (ar rfl)) (cD (aI (i:=2) uK.nd rfl (ar rfl)) fA))))
   (fG (cg (aZ fS (pv 1) ah (bp _)) (av (aL (ax bH (ax dm ah (ax c4 (ax dm (fc fe ah) (pv 1)) ah)) (pv 2)))) cw)
   (av (aL (ax bH (ax dm ah (pv 1)) (pv 2)))))),?_]
 refine #[_,rfl,p,_,rfl,hT,rfl,_,_,rfl,_,_,rfl,rfl,?_];refine #[λU' H'=>U'=[some (.ref p),some (.int e.1),some (.int e.2)]/\H=H'/\0<=e.1,?_,?_]
 .refine #[_,rfl,_,_,rfl,rfl,_,rfl,?_];refine ite2 (λc=>?_) (λc=>?_)
  .have c':e.1<0:=bJ c;refine #[_,rfl,_,rfl,_,_,rfl,rfl,.inl #[by decide,by decide],_,_,rfl,rfl,_,_,rfl,rfl,.inl #[by decide,by decide],_,rfl,_,_,rfl,rfl,?_];unfold gy at q;rw[ag (by lia)]at q;exact q
  .exact #[rfl,rfl,by have:=iO (iN.mpr c);lia]
 rintro U' H' ⟨rfl,rfl,c⟩;refine #[_,rfl,_,_,rfl,rfl,.inl #[by decide,by decide],_,rfl,_,_,rfl,rfl,?_];unfold gy at q;rw[af c]at q;have z:64*(2*e.1)+e.2=128*e.1+e.2:=by lia
 rw[z]at q;exact q
def wMes:L2.St->Hp->Nat:=λU _=>match U with
 | [_,_,_,some (.int x),some (.int y),_]=>x.toNat+y.toNat
 | _=>0
def Iw (T:Txt K mg)(wC:DF K mg "_law_turned" o8 qp):FC P w K mg base 1 "_law_turned" qp (mz K):=by
 refine wC.ok gQ (λvs H Q E h=>?_) (λf cdv A outer s H vs Q E hr h=>?_)
 .obtain ⟨a,xs,rfl,_⟩:=h;rfl
 obtain ⟨a,xs,rfl,hS,hu,hz,q⟩:=h;refine #[_,(ay (aE (i:=1) gQ.nd rfl (ar rfl) (dn ae))
   (ay (bW PassesOwn.never rfl (eQ rfl T.c8 (aa (bc (bU (K:=K)) rfl T.bQ bL (aa (pv 0) ae)) ae)) (aI (i:=2) gQ.nd rfl (ar rfl)) (av (cg (aZ c9 (pv 2) ah (bp _)) (av (dR (dU F.plainAttrs_list F.slot_list_append F.type_list_append dD (pv 1) (aa (ax fD (aD (aQ (K:=K)) (pv 0) ah (λ_ _=>rfl)) ah) ae)))) (ay (aE (i:=3) gQ.nd rfl (ar rfl) (aD (aQ (K:=K)) (pv 0) (pv 2) (λ_ _=>rfl)))
   (ay (aE (i:=4) gQ.nd rfl (ar rfl) (aD (aQ (K:=K)) (pv 0) (ax c4 (pv 2) ah) (λ_ _=>rfl)))
   (ay (aE (i:=5) gQ.nd rfl (ar rfl) ah)
   (ay (lr PassesOwn.never (aZ c9 (ax fD (pv 3) ah) (ax fD (pv 4) ah) (bp _)) (ay (aE (i:=3) gQ.nd rfl (ar rfl) (ax jG (pv 3) ah))
   (ay (aE (i:=4) gQ.nd rfl (ar rfl) (ax jG (pv 4) ah))
   (av (aE (i:=5) gQ.nd rfl (ar rfl) (ax bH (pv 5) ah))))))
   (av (dR (dU F.plainAttrs_list F.slot_list_append F.type_list_append dD (pv 1) (aa (ax bH (ax dm ah (pv 5)) (ax fD (pv 3) ah)) ae)))))))))))
   (av (aL (pv 1))))),?_]
 refine #[(by show 0<=sizeLine;decide),λp hp=>?_];have k0:But p H (upd H p (.lst [])):=λb o n e=>by rw[ak n];exact e
 refine #[_,rfl,_,_,rfl,.inl (k0.sq hS hp),_,rfl,by rw[aq];lia,by rw[aq];lia,?_];have el:((((xs.map nV).length:Nat):Int)).toNat=xs.length:=by rw[aq,fm]
 rw[el];refine fB (n:=xs.length) (λi U H2=>∃ x2 x3 x4 x5:Option V,U=[some (.ref a),some (.ref p),x2,x3,x4,x5]/\H2 p=some (.lst (((cJ xs).take i).map nV))/\But p H H2) ?_ ?_ ?_
 .exact #[_,_,_,_,rfl,aj,k0]
 .rintro i U H2 hi ⟨x2,x3,x4,x5,rfl,h2,k2⟩;have hS2:=k2.sq hS hp;have hlen:(((cJ xs).take i).map nV).length<sizeLine:=bt (by rw[aq,aW,ir];lia);have fin:∀ v:V,v=nV (fh xs i)->upd H2 p (.lst (((cJ xs).take i).map nV++[v])) p=some (.lst (((cJ xs).take (i+1)).map nV))/\But p H (upd H2 p (.lst (((cJ xs).take i).map nV++[v]))):=by
   rintro v rfl;refine #[?_,λb o n e=>by rw[ak n];exact k2 b o n e];rw[aj,AZ hi,bo];rfl
  refine #[_,rfl,rfl,_,rfl,?_];refine ite2 (λc=>?_) (λc=>?_)
  .have c':i=0:=by
    have:=V.int.inj (bJ c);lia
   have hat:atI (xs.map nV) 0=some (nV (xs.getD 0 0)):=iy (i:=0) (by lia);refine #[_,rfl,.inl #[rfl,_,SqL.of h2],_,rfl,_,_,_,_,rfl,rfl,hS2,hat,_,_,rfl,rfl,(by show (0:Int) < 2;decide),_,_,_,rfl,rfl,h2,hlen,?_];obtain ⟨g2,g3⟩:=fin (.int (((xs.getD 0 0:Nat):Int) % 2)) (by
    unfold fh;rw[af c'];show V.int _=V.int _;rw[Int.natCast_emod];rfl)
   exact #[_,_,_,_,rfl,g2,g3]
  .have c':i≠0:=λz=>c (by subst z;decide);have hne:xs.getD (i-1) 0≠xs.getD i 0:=by
    have:=hu (i-1) (by lia);rw[show i-1+1=i by lia]at this;exact this
   have hat:atI (xs.map nV) (0+(i:Int))=some (nV (xs.getD i 0)):=by rw[fb];exact iy hi
   have hatp:atI (xs.map nV) (0+(i:Int)-1)=some (nV (xs.getD (i-1) 0)):=by rw[fb];exact Bw c' hi
   refine #[_,rfl,_,rfl,_,_,_,_,rfl,rfl,hS2,hat,?_];refine #[_,rfl,_,rfl,_,_,rfl,rfl,_,_,_,_,rfl,rfl,hS2,hatp,?_];have et:fh xs i=fig (xs.getD (i-1) 0) (xs.getD i 0):=by unfold fh;rw[ag c']
   rw[et]at fin;generalize xs.getD (i-1) 0=Y at *;generalize xs.getD i 0=X at *;refine xU (λU H'=>∃ x y j:Nat,U=[some (.ref a),some (.ref p),some (.int (0+i)),some (.int x),some (.int y),some (.int j)]/\H'=H2/\x≠y/\lu Y X=j+lu y x/\x=X/2^j) wMes ?_ ?_ ?_
   .exact #[X,Y,0,rfl,rfl,aT hne,by lia,by rw[Nat.pow_zero,Nat.div_one]]
   .rintro U H' ⟨x,y,j,rfl,rfl,hxy,hl,hx⟩;refine #[_,rfl,_,_,rfl,rfl,(by show (0:Int)<2;decide),_,rfl,_,_,rfl,rfl,(by show (0:Int)<2;decide),rfl,_,rfl,?_];refine ite2 (λe=>?_) (λe=>?_)
    .have e':x%2=y%2:=by
      have:=V.int.inj (bJ e);lia
     refine #[_,rfl,_,_,rfl,rfl,#[by decide,by decide],_,rfl,_,_,rfl,rfl,#[by decide,by decide],_,rfl,_,_,rfl,rfl,?_];refine #[#[x/2,y/2,j+1,?_,rfl,by lia,?_,?_],?_]
     .rw[Int.natCast_ediv,Int.natCast_ediv,Int.natCast_add];rfl
     .rw[hl,qG (aT hxy) e'.symm];lia
     .rw[hx,ie,Nat.div_div_eq_div_mul]
     .show ((x:Int)/2).toNat+((y:Int)/2).toNat<(x:Int).toNat+(y:Int).toNat;lia
    ·have e':x % 2≠y % 2:=λz=>e (by
      apply bg;show V.int _=V.int _;have z':(x:Int)%2=(y:Int)%2:=by lia
      rw[z'])
     rw[qH (aT e')]at hl;refine #[_,rfl,.inl #[rfl,_,SqL.of h2],_,rfl,_,_,rfl,rfl,.inl #[by decide,by decide],_,rfl,_,_,rfl,rfl,(by show (0:Int) < 2;decide),_,_,rfl,rfl,_,_,_,rfl,rfl,h2,hlen,?_];obtain ⟨g2,g3⟩:=fin (.int (2 * (j:Int)+(x:Int) % 2)) (by
      show V.int _=V.int _;unfold fig;rw[hl,gG,<-hx,Int.natCast_add,Int.natCast_mul,Int.natCast_emod];rfl)
     exact #[_,_,_,_,rfl,g2,g3]
   .intro U H Q Q' m h;obtain ⟨x1,e1,i1,j1,f1,g1,c1,x2,e2,i2,j2,f2,g2,c2,r1,b,e,q⟩:=h;exact #[x1,e1,i1,j1,f1,g1,c1,x2,e2,i2,j2,f2,g2,c2,r1,b,e,m _ _ q]
 .rintro U H2 ⟨x2,x3,x4,x5,rfl,h2,k2⟩;refine #[_,rfl,?_];refine q p H2 hp (λb o e=>k2 b o (au e hp) e) ?_;rw[h2,bx (by rw[ir];exact ai _)]
def iS {n d i:Nat}:HT.sIx n d (some (i:Int))=min i n:=by
 unfold HT.sIx;simp
 try lia
def vd (xs:List V)(a b:Nat):cutV xs (some (a:Int)) (some (b:Int))=(xs.drop a).take (b-a):=by
 unfold cutV;rw[iS,iS];by_cases h:a<=xs.length
 .rw[d8 h];by_cases h2:b<=xs.length
  .rw[d8 h2]
  .rw[iI (by lia),bx (by rw[eG];exact ai _),bx (by rw[eG];lia)]
 .rw[iI (show xs.length<=a by lia),eL (ai _),eL (show xs.length<=a by lia)];simp
def Bz {α:Type}(xs:List α)(k:Nat):(xs.drop k).take 1=xs[k]?.toList:=by
 by_cases h:k<xs.length
 .rw[kM h,aw h];rfl
 .rw[eL (by lia),d9 (by lia)];rfl
def BA {k:Nat}{i j:Int}(hi:i=if (k:Int)-1>0 then (k:Int)-1 else 0)(hj:j=(k:Int)):cutV xs (some i) (some j)=(if k=0 then none else xs[k-1]?).toList:=by
 subst hj;have e:i=((k-1:Nat):Int):=by
  rw[hi];split<;>lia
 subst e;rw[vd];split
 .rename_i h;subst h;simp
 .rw[show k-(k-1)=1 by lia,Bz]
def BB {k:Nat}{i j:Int}(hi:i=(k:Int)+1)(hj:j=(k:Int)+2):cutV xs (some i) (some j)=xs[k+1]?.toList:=by
 subst hi hj;rw[show (k:Int)+1=((k+1:Nat):Int) by lia,show (k:Int)+2=((k+2:Nat):Int) by lia,vd,show k+2-(k+1)=1 by lia,Bz]
def ve (xs:List Nat)(k:Nat):(if k=0 then none else (xs.map nV)[k-1]?).toList++(xs.map nV)[k+1]?.toList=(bN xs k).map nV:=by
 unfold bN;rw[bo,aY,aY];congr 1
 .split
  .rfl
  .cases xs[k-1]?<;>rfl
 .cases xs[k+1]?<;>rfl
def Iy (xs:List Nat)(k:Nat):(bN xs k).length<=2:=by
 have e:∀ o:Option Nat,o.toList.length<=1:=λo=>by cases o<;>simp
 unfold bN;rw[aV];have:=e (if k=0 then none else xs[k-1]?)
 have:=e xs[k+1]?;lia
def But.new {b:Addr}(k:But p H H2)(hb:H2 b=none)(o:HO):But p H (upd H2 b o):=λx o' n e=>(aF hb o) x o' (k x o' n e)
def Iz {K:Frag}{i j:Nat}{U:L2.St}{H2:Hp}{Q:VK}{a:Addr}{xs:List Nat}{k:Nat}{z:Int}(ez:z=(k:Int))(e1:U[i]?=some (some (.ref a)))(e2:U[j]?=some (some (.int z)))(h2a:H2 a=some (.lst (xs.map nV)))
  (q:∀ g H5,H2 g=none->Same H2 H5->H5 g=some (.lst ((bN xs k).map nV))->Q (.ref g) H5) :
  tOp rCat (tSl (rSlL K) (tVar i) (lB (tCB (λxs H Q=>∃ i j,xs=[V.int i,V.int j]/\Q (V.int (if j>i then j else i)) H) (sW (tC (V.int 0)) (sW (tOp (rI0 λi j=>V.int (i-j)) (tVar j) (tC (V.int 1))) tNil)))) (lB (tVar j)))
   (tSl (rSlL K) (tVar i) (lB (tOp (rI0 λi j=>V.int (i+j)) (tVar j) (tC (V.int 1)))) (lB (tOp (rI0 λi j=>V.int (i+j)) (tVar j) (tC (V.int 2))))) U H2 Q:=by
 subst ez;refine #[_,e1,_,e2,_,_,rfl,rfl,_,_,rfl,_,rfl,_,e2,_,rfl,_,_,rfl,SqL.of h2a,λb hb=>?_];have kb:=aF hb (.lst (cutV (xs.map nV) (some (if (k:Int)-1>0 then (k:Int)-1 else 0)) (some (k:Int))))
 have hbb:upd H2 b (.lst (cutV (xs.map nV) (some (if (k:Int)-1>0 then (k:Int)-1 else 0)) (some (k:Int)))) b=some (.lst (if k=0 then none else (xs.map nV)[k-1]?).toList):=by
  rw[aj,BA (k:=k) rfl rfl]
 generalize upd H2 b (.lst (cutV (xs.map nV) (some (if (k:Int)-1>0 then (k:Int)-1 else 0)) (some (k:Int))))=H3 at kb hbb ⊢
 refine #[_,e1,_,e2,_,_,rfl,rfl,_,rfl,_,e2,_,_,rfl,rfl,_,rfl,_,_,rfl,SqL.of (kb _ _ h2a),λc hc=>?_];have kc:=aF hc (.lst (cutV (xs.map nV) (some ((k:Int)+1)) (some ((k:Int)+2))));have hcb:=kc _ _ hbb;have hcc:upd H3 c (.lst (cutV (xs.map nV) (some ((k:Int)+1)) (some ((k:Int)+2)))) c=some (.lst (xs.map nV)[k+1]?.toList):=by
  rw[aj,BB (k:=k) rfl rfl]
 generalize upd H3 c (.lst (cutV (xs.map nV) (some ((k:Int)+1)) (some ((k:Int)+2))))=H4 at kc hcb hcc ⊢;refine #[b,c,_,_,rfl,rfl,hcb,hcc,?_,λg hg=>?_]
 .rw[<-aV,ve,aq];exact az (Iy _ _) (by decide)
 rw[ve];exact q g _ (kb.free (kc.free hg)) (kb.trans (kc.trans (aF hg _))) aj
inductive mB (K:Frag)(vs:List V)(H:Hp)(Q:VK)(w_1:XK):Prop
 | c:∀(a:Addr) (xs:List Nat),vs=[.ref a]->SqL K H a (xs.map nV)->Unl xs->du 6 xs->xs.length<=1000->(∀(p:Addr) (H':Hp),H p=none->Same H H'->H' p=some (.lst ((colL xs).map nV))->Q (.ref p) H')->mB K vs H Q w_1
def cn (es:List (Int×Int)):List Bool:=gT (colL (cK 5 (cm es)))
def jb (es:List (Int×Int)):(cn es).length=es.length:=by
 unfold cn;rw[A4,uT,i8,eS]
def mC {es:List (Int×Int)}(he:∀ e∈es,eB 64 e)(hri:Rise es):Unl (cK 5 (cm es)):=i9 (qW he hri) 5
def vf {es:List (Int×Int)}(he:∀ e∈es,eB 64 e)(hri:Rise es):du 6 (cK 5 (cm es)):=Iq (qW he hri) (Ir he)
def IA {xs:List Nat}(h:du 6 xs):∀ i x,atZ xs i=some x->x<=5:=λi x e=>by
 obtain ⟨h0,h1⟩:=uP e;have:=h i.toNat (by lia);unfold atZ at e;rw[af h0]at e;rw[aA,e]at this;exact Nat.lt_succ_iff.mp this
def BC {es:List (Int×Int)}(he:∀ e∈es,eB 64 e)(hri:Rise es):iu (cn es):=Hi (uU (unlZ (mC he hri))) (He (IA (vf he hri)))
inductive mD (K:Frag)(vs:List V)(H:Hp)(Q:VK)(w_1:XK):Prop
 | c:∀(a:Addr) (ws:List V) (es:List (Int×Int)),vs=[.ref a]->H a=some (.lst ws)->aB K H es ws->es.length<=1000->(∀ e∈es,eB 64 e)->Rise es->(∀(p:Addr) (H':Hp),H p=none->Same H H'->H' p=some (.lst ((cn es).map V.bl))->Q (.ref p) H')->mD K vs H Q w_1
inductive vg (K:Frag)(vs:List V)(H:Hp)(Q:VK)(w_1:XK):Prop
 | c:∀(a:Addr) (ws:List V) (es:List (Int×Int)),vs=[.ref a]->H a=some (.lst ws)->aB K H es ws->es.length<=1000->(∀ e∈es,eB 64 e)->Rise es->(∀(p:Addr) (H':Hp),H p=none->Same H H'->H' p=some (.lst (cE ws (cn es)))->Q (.ref p) H')->vg K vs H Q w_1
def vh {α:Type}(xs:List α)(m j:Nat):(xs.drop m).take (j+1)=xs[m]?.toList++(xs.drop (m+1)).take j:=by
 by_cases h:m<xs.length
 .rw[kM h,aw h];rfl
 .rw[eL (by lia),d9 (by lia),eL (by lia)];simp
def mE (o:Option Bool):o.toList.any id=o.getD false:=by
 cases o with
 | none=>rfl
 | some b=>cases b<;>rfl
def any3 (ms:List Bool){k:Nat}(h:1<=k):((ms.drop (k-1)).take 3).any id=!fV ms k:=by
 rw[vh,vh,vh,nB,nB,nB,mE,mE,mE,show k-1+1=k by lia,f6];unfold fV;rw[aA,aA,aA];generalize ms[k-1]?.getD false=x;generalize ms[k]?.getD false=y;generalize ms[k+1]?.getD false=z;cases x<;>cases y<;>cases z<;>rfl
def BD (ms:List Bool):inV (.bl true) (ms.map V.bl)=ms.any id:=by
 unfold inV
 induction ms with
 | nil=>rfl
 | cons m ms ih=>
  rw[bS,gC,ih,gC];cases m<;>rfl
def BE (ms:List Bool):(ms.map V.bl).all gc=true:=by
 rw[eY];intro x hx;obtain ⟨n,_,rfl⟩:=bC.mp hx;rfl
def IB {ms:List Bool}{k:Nat}{i j:Int}(h:1<=k)(hi:i=(k:Int)-1)(hj:j=(k:Int)+2):cutV (ms.map V.bl) (some i) (some j)=((ms.drop (k-1)).take 3).map V.bl:=by
 subst hi hj;rw[show (k:Int)-1=((k-1:Nat):Int) by lia,show (k:Int)+2=((k+2:Nat):Int) by lia,vd,show k+2-(k-1)=3 by lia,hZ,List.map_drop]
def vi {α:Type}{as:List α}{bs:List Bool}{a:α}{b:Bool}(h:as.length=bs.length):cE (as++[a]) (bs++[b])=cE as bs++(if b=true then [a] else []):=by
 unfold cE;rw[List.zip_append h,cZ,bo];congr 1;cases b<;>rfl
def BF {α:Type}(as:List α)(bs:List Bool):(cE as bs).length<=as.length:=by
 unfold cE;rw[aq];refine az (eP _ _) ?_;rw[nz];lia
def BG {α:Type}[Rep α]{K:Frag}:∀{es:List α} {ws:List V} {ms:List Bool},aB K H es ws->aB K H (cE es ms) (cE ws ms)
 | _,_,_,.nil=>by
  unfold cE;exact .nil
 | e::es,w::ws,[],.cons h t=>by
  unfold cE;exact .nil
 | e::es,w::ws,m::ms,.cons h t=>by
  have:=BG (ms:=ms) t;unfold cE at this ⊢;cases m with
  | false=>exact this
  | true=>exact .cons h this
def qX (bs:List Nat)(c:Nat):((List.range (c+1)).filter λc=>!decide (c∈bs))=((List.range c).filter λc=>!decide (c∈bs))++(if c∈bs then [] else [c]):=by
 rw[fP,cZ];congr 1;by_cases h:c∈bs
 .rw[af h];simp[List.filter,h]
 .rw[ag h];simp[List.filter,h]
def qY {H:Hp}{p t:Addr}{xs ys:List V}(h1:H p=some (.lst xs))(h2:H t=some (.tup ys)):p≠t:=λz=>by
 rw[z,h2]at h1;cases h1
def kl {n k:Nat}(h:k<n):ixN n (k:Int)=some k:=by
 unfold ixN;simp;lia
def besV (xs:List V)(k:Nat):List V:=(if k=0 then none else xs[k-1]?).toList++xs[k+1]?.toList
def IC (xs:List V)(k:Nat):(besV xs k).length<=2:=by
 have e:∀ o:Option V,o.toList.length<=1:=λo=>by cases o<;>simp
 unfold besV;rw[aV];have:=e (if k=0 then none else xs[k-1]?)
 have:=e xs[k+1]?;lia
inductive spNb (K:Frag)(vs:List V)(H:Hp)(Q:VK)(w_1:XK):Prop
 | c:∀(a:Addr) (xs:List V) (k:Nat),vs=[.ref a,.int k]->H a=some (.lst xs)->(∀(g:Addr) (H':Hp),H g=none->Same H H'->H' g=some (.lst (besV xs k))->Q (.ref g) H')->spNb K vs H Q w_1
def ID (T:Txt K mg)(wD:DF K mg "neighbours" oC l7):FC P w K mg base 1 "neighbours" l7 (spNb K):=by
 refine wD.ok GI (λvs H Q E h=>?_) (λf cdv A outer s H vs Q E hr h=>?_)
 .obtain ⟨a,xs,k,rfl,_⟩:=h;rfl
 obtain ⟨a,xs,k,rfl,ha,q⟩:=h;refine #[_,(av (aL (ax yK (gb (jT (K:=K)) (pv 0) (eh (bc (sV rfl) rfl T.wg boot_max (aa (ax c4 (pv 1) ah) (aa ah ae)))) (eh (pv 1))) (gb (jT (K:=K)) (pv 0) (eh (ax bH (pv 1) ah)) (eh (ax bH (pv 1) ah)))))),?_];refine #[_,rfl,_,rfl,_,_,rfl,rfl,_,_,rfl,_,rfl,_,rfl,_,rfl,_,_,rfl,SqL.of ha,λb hb=>?_];have kb:=aF hb (.lst (cutV xs (some (if 0>(k:Int)-1 then 0 else (k:Int)-1)) (some (k:Int))))
 have hbb:upd H b (.lst (cutV xs (some (if 0>(k:Int)-1 then 0 else (k:Int)-1)) (some (k:Int)))) b=some (.lst (if k=0 then none else xs[k-1]?).toList):=by
  rw[aj,BA (k:=k) (by split<;>split<;>lia) rfl]
 generalize upd H b (.lst (cutV xs (some (if 0>(k:Int)-1 then 0 else (k:Int)-1)) (some (k:Int))))=H3 at kb hbb ⊢
 refine #[_,rfl,_,rfl,_,_,rfl,rfl,_,rfl,_,rfl,_,_,rfl,rfl,_,rfl,_,_,rfl,SqL.of (kb _ _ ha),λc hc=>?_];have kc:=aF hc (.lst (cutV xs (some ((k:Int)+1)) (some ((k:Int)+2))));have hcb:=kc _ _ hbb;have hcc:upd H3 c (.lst (cutV xs (some ((k:Int)+1)) (some ((k:Int)+2)))) c=some (.lst xs[k+1]?.toList):=by
  rw[aj,BB (k:=k) rfl rfl]
 generalize upd H3 c (.lst (cutV xs (some ((k:Int)+1)) (some ((k:Int)+2))))=H4 at kc hcb hcc ⊢;refine #[b,c,_,_,rfl,rfl,hcb,hcc,?_,λg hg=>?_]
 .rw[<-aV];exact az (IC xs k) (by decide)
 exact q g _ (kb.free (kc.free hg)) (kb.trans (kc.trans (aF hg _))) aj
inductive vj (K:Frag)(vs:List V)(H:Hp)(Q:VK)(w_1:XK):Prop
 | c:∀(a:Addr) (xs:List Nat) (k:Nat),vs=[.ref a]->H a=some (.lst ((bN xs k).map nV))->(∀ H':Hp,Same H H'->Q (.int (eA xs k:Nat)) H')->vj K vs H Q w_1
def IE (T:Txt K mg)(wF:DF K mg "least_free" oD pR):FC P w K mg base 1 "least_free" pR (vj K):=by
 refine wF.ok GJ (λvs H Q E h=>?_) (λf cdv A outer s H vs Q E hr h=>?_)
 .obtain ⟨a,xs,k,rfl,_⟩:=h;rfl
 obtain ⟨a,xs,k,rfl,ha,q⟩:=h;refine #[_,(av (aL (bc (Fp rfl) rfl T.CL boot_min (aa (dY (N:=["colour","taken"]) (own:=1) (cap:=[0]) rfl (gL (cN (aa ah (aa ah (aa ah ae))))) #[rfl,rfl,rfl,rfl,rfl,rfl] (λ_ _ _ _ _=>(aI (i:=0) (show List.Nodup (["colour","taken"]:List Str) by decide +kernel) rfl (ar rfl))) (λ_ _ _ _ _=>(gn (aZ (jS (K:=K)) (pv 0) (pv 1) (by with_unfolding_all rfl)))) (λ_ _ _ _ _=>(pv 0))) ae)))),?_]
 refine #[(by show 3<=sizeLine;decide),λt ht=>?_];have st:=aF ht (.tup [V.int 0,V.int 1,V.int 2]);have ht1:upd H t (.tup [V.int 0,V.int 1,V.int 2]) t=some (.tup [V.int 0,V.int 1,V.int 2]):=aj;generalize upd H t (.tup [V.int 0,V.int 1,V.int 2])=H1 at st ht1 ⊢;have h1a:=st _ _ ha;refine #[t,rfl,#[_,SqT.of ht1],λD hD=>?_];refine lT (xs:=[V.int 0,V.int 1,V.int 2]) (λc U H6=>∃ x0:Option V,U=[x0,some (.ref a)]/\H6 D=some (.lst (((List.range c).filter λc=>!decide (c∈bN xs k)).map nV))/\But D H1 H6) ?_ ?_ ?_ ?_
 .exact #[_,rfl,aj,λb o n e=>by rw[ak n];exact e]
 .rintro i U H6 _ ⟨x0,rfl,_,k6⟩;exact SqT.of (k6 _ _ (au ht1 hD) ht1)
 .rintro c m x U H6 hx hm ⟨x0,rfl,h6,k6⟩;obtain ⟨hi,rfl⟩:c<3/\x=V.int (c:Int):=by
   rcases c with _|_|_|c
   .exact #[by decide,(aK hx).symm]
   .exact #[by decide,(aK hx).symm]
   .exact #[by decide,(aK hx).symm]
   .cases hx
  have h6g:=k6 _ _ (au h1a hD) h1a;have hlen:=eP (λc=>!decide (c∈bN xs k)) (List.range c);rw[cv]at hlen;refine #[_,rfl,_,rfl,_,_,rfl,.inl (SqL.of h6g),rfl,qT _,_,rfl,?_];show if (!inV (.int (c:Int)) ((bN xs k).map nV))=true then _ else _
  rw[qU];have hm3:c+m=3:=hm;refine ite2 (λe=>?_) (λe=>?_)
  .have e':c∉bN xs k:=λz=>by
    rw[bg z]at e;cases e
   refine #[_,rfl,_,h6,bt (by rw[aq];lia),m-1,by lia,(by show c+1+(m-1)=3;lia),_,rfl,?_,λb o n e=>by rw[ak n];exact k6 b o n e];rw[aj,qX,ag e',bo];rfl
  .have e':c∈bN xs k:=jk λz=>e (by rw[bD z];rfl);refine #[m-1,by lia,(by show c+1+(m-1)=3;lia),_,rfl,?_,k6];rw[h6,qX,af e',bZ]
 .rintro U H6 ⟨x0,rfl,h6,k6⟩;have h6:H6 D=some (.lst (((List.range 3).filter λc=>!decide (c∈bN xs k)).map nV)):=h6;have s6:Same H1 H6:=λb o e=>k6 b o (au e hD) e;have mem:∀ c,c∈((List.range 3).filter λc=>!decide (c∈bN xs k))↔c<3/\c∉bN xs k:=λc=>by
   rw[eD,dw];constructor
   .rintro ⟨h1,h2⟩;refine #[h1,λz=>?_];rw[bg z]at h2;cases h2
   .rintro ⟨h1,h2⟩;exact #[h1,by rw[bD h2];rfl]
  have hf:eA xs k∈((List.range 3).filter λc=>!decide (c∈bN xs k)):=(mem _).mpr #[jt (Ba xs k),A8];refine #[D,((List.range 3).filter λc=>!decide (c∈bN xs k)).map λn:Nat=>(n:Int),rfl,?_,?_,λM hM hL=>?_]
  .rw[hG];exact SqL.of h6
  .rw[aq];exact List.length_pos_of_mem hf
  have eM:M=(eA xs k:Int):=by
   have h1:=hL _ (bC.mpr #[_,hf,rfl]);obtain ⟨c,hc,rfl⟩:=bC.mp hM;have h2:¬ c<eA xs k:=λz=>((mem c).mp hc).2 (A9 z);lia
  rw[eM];exact q _ (st.trans s6)
def IF (xs:List Nat)(k:Nat):besV (xs.map nV) k=(bN xs k).map nV:=ve xs k
def IG (T:Txt K mg)(wG:DF K mg "colours" oE pS)(wH:FC P w K mg base 1 "neighbours" l7 (spNb K))(KC:FC P w K mg base 1 "least_free" pR (vj K)):FC P w K mg base 3 "colours" pS (mB K):=by
 refine wG.ok pG (λvs H Q E h=>?_) (λf cdv A outer s H vs Q E hr h=>?_)
 .obtain ⟨a,xs,rfl,_⟩:=h;rfl
 obtain ⟨a,xs,rfl,hS,hu,hb,hz,q⟩:=h;refine #[_,(ay (aE (i:=1) pG.nd rfl (ar rfl) (ff (lS (K:=K)) rfl T.jh boot_list (aa (pv 0) ae)))
   (ay (bW PassesOwn.never rfl (gL (cN (aa ah (aa ah (aa ah ae))))) (aI (i:=2) pG.nd rfl (ar rfl)) (av (bW PassesOwn.never rfl (eQ rfl T.c8 (aa (bc (bU (K:=K)) rfl T.bQ bL (aa (pv 0) ae)) ae)) (aI (i:=3) pG.nd rfl (ar rfl)) (av (cg (aZ c9 (aD (aQ (K:=K)) (pv 1) (pv 3) (λ_ _=>rfl)) (pv 2) (bp _)) (av (gK (aG KC hr (aa (aG wH hr (aa (pv 1) (aa (pv 3) ae))) ae)) (jD (pv 1) (pv 3) jI))) cw)))))
   (av (aL (pv 1))))),?_]
 refine #[_,rfl,a,_,rfl,.inl hS,λp hp=>?_];have k0:But p H (upd H p (.lst (xs.map nV))):=λb o n e=>by rw[ak n];exact e
 refine #[(by show 3<=sizeLine;decide),λt ht=>?_];have npt:p≠t:=au aj ht;refine #[t,rfl,#[_,SqT.of aj],?_];refine nK (xs:=[V.int 3,V.int 4,V.int 5]) (λi U H2=>∃ x2 x3:Option V,U=[some (.ref a),some (.ref p),x2,x3]/\H2 p=some (.lst ((colN xs i).map nV))/\H2 t=some (.tup [V.int 3,V.int 4,V.int 5])/\But p H H2) ?_ ?_ ?_ ?_
 .exact #[_,_,rfl,by rw[ak npt];exact aj,aj,k0.new ht _]
 .rintro i U H2 _ ⟨x2,x3,rfl,_,h2t,_⟩;exact SqT.of h2t
 .rintro i x U H2 hx ⟨x2,x3,rfl,h2,h2t,k2⟩;obtain ⟨hi,rfl⟩:i<3/\x=V.int ((3+i:Nat):Int):=by
   rcases i with _|_|_|i
   .exact #[by decide,(aK hx).symm]
   .exact #[by decide,(aK hx).symm]
   .exact #[by decide,(aK hx).symm]
   .cases hx
  have hyl:=Bk xs i;have hyu:=Bl hu i;have hnx:colN xs (i+1)=recL (3+i) (colN xs i):=rfl;rw[hnx];generalize colN xs i=ys at h2 hyl hyu ⊢;generalize 3+i=v;have hSa:SqL K H2 a (xs.map nV):=k2.sq hS hp;refine #[_,rfl,_,_,rfl,.inl hSa,_,rfl,by rw[aq];lia,by rw[aq];lia,?_];have el:((((xs.map nV).length:Nat):Int)).toNat=ys.length:=by rw[aq,fm,hyl]
  rw[el];refine fB (n:=ys.length) (λk U H3=>∃ x3:Option V,U=[some (.ref a),some (.ref p),some (.int v),x3]/\H3 p=some (.lst ((mixL v ys k).map nV))/\H3 t=some (.tup [V.int 3,V.int 4,V.int 5])/\But p H H3) ?_ ?_ ?_
  .exact #[_,rfl,h2,h2t,k2]
  .rintro k U H3 hk ⟨x3,rfl,h3,h3t,k3⟩;rw[fb];have ml:=uY v ys k;have eg:(mixL v ys k).getD k 0=ys.getD k 0:=by
    rw[aA,Bc (ai k),<-aA]
   have hat:atI ((mixL v ys k).map nV) (k:Int)=some (nV (ys.getD k 0)):=by
    rw[<-eg];exact iy (by lia)
   refine #[_,rfl,_,rfl,_,_,_,_,rfl,rfl,SqL.of h3,hat,_,rfl,rfl,_,rfl,?_];refine ite2 (λc=>?_) (λc=>?_)
   .have c':ys.getD k 0=v:=by
     have:=V.int.inj (bJ c);lia
    refine #[_,rfl,_,rfl,p,_,k,rfl,h3,λg H4 hg s4 h4=>?_];rw[IF,Bf hyu hk c']at h4;refine #[g,ys,k,rfl,h4,λH5 s5=>?_];have s35:=s4.trans s5;have same:∀ b o,b≠p->H3 b=some o->upd H5 p (.lst (((mixL v ys k).map nV).set k (nV (eA ys k)))) b=some o:=λb o n e=>by
     rw[ak n];exact s35 _ _ e
    refine #[_,rfl,_,rfl,_,_,_,k,rfl,rfl,s35 _ _ h3,kl (by rw[aq,ml];exact hk),?_];refine #[_,rfl,?_,same _ _ (aT (qY h3 h3t)) h3t,λb o n e=>same _ _ n (k3 b o n e)];rw[aj,Bg hk c',jB]
   .have c':ys.getD k 0≠v:=λz=>c (by rw[z];exact bg rfl);exact #[_,rfl,by rw[Bd hk c'];exact h3,h3t,k3]
  .rintro U H3 ⟨x3,rfl,h3,h3t,k3⟩;rw[Bb (ai _)]at h3;exact #[_,_,rfl,h3,h3t,k3]
 .rintro U H2 ⟨x2,x3,rfl,h2,_,k2⟩;refine #[_,rfl,?_];exact q p H2 hp (λb o e=>k2 b o (au e hp) e) h2
def fW (ms:List Bool)(k:Nat):Bool:=!ms.getD (k-1) false && !ms.getD (k+1) false
def besB (ms:List Bool)(k:Nat):List Bool:=(if k=0 then none else ms[k-1]?).toList++ms[k+1]?.toList
def IH (ms:List Bool)(k:Nat):besV (ms.map V.bl) k=(besB ms k).map V.bl:=by
 unfold besV besB;rw[bo,aY,aY];congr 1
 .split
  .rfl
  .cases ms[k-1]?<;>rfl
 .cases ms[k+1]?<;>rfl
def II {k:Nat}(h:1<=k):(besB ms k).any id=!fW ms k:=by
 unfold besB fW;rw[ag (by lia),nB,mE,mE,aA,aA];generalize ms[k-1]?.getD false=x;generalize ms[k+1]?.getD false=z;cases x<;>cases z<;>rfl
def IJ {sh:Nat}{ms:List Bool}(hu:Unl cs)(hl:cs.length=ms.length){k:Nat}(h:k<cs.length)(h1:1<=k)(hs:cs.getD k 0=sh):fW (mixM sh cs ms k) k=fW ms k:=by
 unfold fW;have e:∀ j,k<=j->(mixM sh cs ms k).getD j false=ms.getD j false:=λj hj=>by
  rw[aA,aA,fJ hl,ag (by lia)]
 rw[e (k+1) (by lia)];have e2:(mixM sh cs ms k).getD (k-1) false=ms.getD (k-1) false:=by
  rw[aA,fJ hl,af (by lia),kj hl (by lia)];have:=hu (k-1) (by lia);rw[show k-1+1=k by lia,hs]at this;rw[bD this];simp
 rw[e2]
def BH {sh:Nat}{cs:List Nat}{ms:List Bool}(hl:cs.length=ms.length){k:Nat}(h:k<cs.length)(hn:¬ (cs.getD k 0=sh/\fW ms k=true)):mixM sh cs ms (k+1)=mixM sh cs ms k:=by
 apply f7;intro j;rw[fJ hl,fJ hl];by_cases c:j<k
 .rw[af c,af (by lia)]
 .rw[ag c];split
  .have:j=k:=by lia
   subst this;rw[kj hl h];unfold fW at hn;rw[aw (by lia)];have e:ms.getD j false=ms[j]'(by lia):=by
    rw[aA,aw (by lia)];rfl
   rw[e];congr 1;generalize ms[j]=a;generalize ms.getD (j-1) false=b at hn ⊢;generalize ms.getD (j+1) false=d at hn ⊢;by_cases z:cs.getD j 0=sh
   .have hn':¬ ((!b && !d)=true):=λy=>hn #[z,y];cases b with
    | true=>simp
    | false=>
     cases d with
     | true=>simp
     | false=>exact absurd rfl hn'
   .rw[bD z];simp
  .rfl
def IK {sh:Nat}{cs:List Nat}{ms:List Bool}(hl:cs.length=ms.length){k:Nat}(h:k<cs.length)(hp:1<=k/\cs.getD k 0=sh/\fW ms k=true):mixM sh cs ms (k+1)=(mixM sh cs ms k).set k true:=by
 apply f7;intro j;rw[kZ,qN hl,fJ hl,fJ hl];by_cases c:k=j
 .subst c;rw[af rfl,af h,af (by lia),kj hl h];obtain ⟨p1,p2,p3⟩:=hp;unfold fW at p3;simp only[d6,g9]at p3;rw[p2,p3.1,p3.2,bg p1];simp
 .rw[ag c];by_cases c2:j<k
  .rw[af c2,af (by lia)]
  .rw[ag c2,ag (by lia)]
def IL (T:Txt K mg)(wI:DF K mg "marks" oF pT)(KD:FC P w K mg base 3 "labels" pQ (vc K))(KE:FC P w K mg base 3 "colours" pS (mB K))(wH:FC P w K mg base 1 "neighbours" l7 (spNb K)):FC P w K mg base 5 "marks" pT (mD K):=by
 refine wI.ok lY (λvs H Q E h=>?_) (λf cdv A outer s H vs Q E hr h=>?_)
 .obtain ⟨a,ws,es,rfl,_⟩:=h;rfl
 obtain ⟨a,ws,es,rfl,ha,hw,hz,he,hri,q⟩:=h;refine #[_,(ay (aE (i:=1) lY.nd rfl (ar rfl) (aG KE hr (aa (aG KD hr (aa (pv 0) ae)) ae)))
   (ay (iY (i:=2) (N:=["tint"]) (own:=1) (cap:=[]) lY.nd rfl rfl rfl (dS (pv 1)) #[rfl,rfl,rfl,rfl,rfl,rfl] (λ_ _ _ _ _=>(aI (i:=0) (show List.Nodup (["tint"]:List Str) by decide +kernel) rfl (ar rfl))) (λ_ _ _ _ _=>eR) (λ_ _ _ _ _=>dC))
   (ay (bW PassesOwn.never rfl (gL (cN (aa ah (aa ah (aa ah ae))))) (aI (i:=3) lY.nd rfl (ar rfl)) (av (bW PassesOwn.never rfl (ly rfl T.c8 (aa ah (aa (bc (bU (K:=K)) rfl T.bQ bL (aa (pv 1) ae)) ae))) (aI (i:=4) lY.nd rfl (ar rfl)) (av (cg (PW.pt (iR (aZ c9 (aD (aQ (K:=K)) (pv 1) (pv 4) (λ_ _=>rfl)) (pv 3) (bp _)) (iQ (aZ (jS (K:=K)) dC (aG wH hr (aa (pv 2) (aa (pv 4) ae))) (by with_unfolding_all rfl))))) (av (gK dC (jD (pv 2) (pv 4) jI))) cw)))))
   (av (aL (pv 2)))))),?_]
 refine #[_,rfl,a,ws,es,rfl,SqL.of ha,hw,hz,he,hri,λp H3 hp s3 h3=>?_];refine #[p,_,rfl,SqL.of h3,mC he hri,vf he hri,by rw[i8,eS];exact hz,λc H4 hc s4 h4=>?_];have cu:Unl (colL (cK 5 (cm es))):=uQ (uU (unlZ (mC he hri)));have cl:(colL (cK 5 (cm es))).length=es.length:=by rw[uT,i8,eS]
 have fin:cn es=mkN (colL (cK 5 (cm es))) 3:=(Bm _).symm;generalize colL (cK 5 (cm es))=cs at h4 cu cl fin;have s04:=s3.trans s4;refine #[_,rfl,c,rfl,#[_,SqL.of h4],λF hF=>?_];refine fT (xs:=cs.map nV) (λi U H5=>∃ x0:Option V,U=[x0]/\H5 F=some (.lst ((List.replicate i false).map V.bl))/\But F H4 H5) ?_ ?_ ?_ ?_
 .exact #[_,rfl,aj,λb o n e=>by rw[ak n];exact e]
 .rintro i U H5 _ ⟨x0,rfl,_,k5⟩;exact k5.sq (SqL.of h4) hF
 .rintro i m x U H5 hx hm ⟨x0,rfl,h5,k5⟩;have hi:=(aN.mp hx).1;rw[aq]at hi hm;refine gq ?_;refine #[_,h5,bt (by rw[aq,fk];lia),m-1,by lia,by rw[aq];lia,_,rfl,?_,λb o n e=>by rw[ak n];exact k5 b o n e];rw[aj,sP,bo];rfl
 rintro U H5 ⟨x0,rfl,h5,k5⟩;have s45:Same H4 H5:=λb o e=>k5 b o (au e hF) e;have h5c:=s45 _ _ h4;have nFc:c≠F:=au h4 hF;have hF0:H F=none:=s04.free hF;have k05:But F H H5:=λb o _ e=>s45 _ _ (s04 _ _ e);have e5:H5 F=some (.lst ((mkN cs 0).map V.bl)):=by
  rw[h5,mkN,aq,show List.replicate cs.length false=cs.map (λ_=>false) from by rw[List.map_const']]
 refine #[(by show 3<=sizeLine;decide),λt ht=>?_];have st:=aF ht (.tup [V.int 2,V.int 1,V.int 0]);refine #[t,rfl,#[_,SqT.of aj],?_];refine nK (xs:=[V.int 2,V.int 1,V.int 0]) (λi U H6=>∃(x3 x4:Option V),U=[some (.ref a),some (.ref c),some (.ref F),x3,x4]/\H6 F=some (.lst ((mkN cs i).map V.bl))/\H6 c=some (.lst (cs.map nV))/\H6 t=some (.tup [V.int 2,V.int 1,V.int 0])/\But F H H6) ?_ ?_ ?_ ?_
 .exact #[_,_,rfl,st _ _ e5,st _ _ h5c,aj,k05.new ht _]
 .rintro i U H6 _ ⟨x3,x4,rfl,_,_,h6t,_⟩;exact SqT.of h6t
 .rintro i x U H6 hx ⟨x3,x4,rfl,h6,h6c,h6t,k6⟩;obtain ⟨hi,rfl⟩:i<3/\x=V.int ((2-i:Nat):Int):=by
   rcases i with _|_|_|i
   .exact #[by decide,(aK hx).symm]
   .exact #[by decide,(aK hx).symm]
   .exact #[by decide,(aK hx).symm]
   .cases hx
  have hml:=Bn cs i;have hnx:mkN cs (i+1)=d3 (2-i) cs (mkN cs i):=rfl;rw[hnx];generalize mkN cs i=ms at h6 hml ⊢;generalize 2-i=sh;refine #[_,rfl,_,_,rfl,.inl (SqL.of h6c),1,_,rfl,#[by lia,by lia,by rw[aq];lia,by rw[aq];lia],?_];have en:((((cs.map nV).length:Nat):Int)-1).toNat=cs.length-1:=by rw[aq];lia
  rw[en];have km:∀ k,(mixM sh cs ms k).length=cs.length:=qN hml;refine fB (n:=cs.length-1) (λj U H7=>∃(x4:Option V),U=[some (.ref a),some (.ref c),some (.ref F),some (.int sh),x4]/\H7 F=some (.lst ((mixM sh cs ms (1+j)).map V.bl))/\H7 c=some (.lst (cs.map nV))/\H7 t=some (.tup [V.int 2,V.int 1,V.int 0])/\But F H H7) ?_ ?_ ?_
  .exact #[_,rfl,by rw[Bo hml];exact h6,h6c,h6t,k6]
  .rintro j U H7 hj ⟨x4,rfl,h7,h7c,h7t,k7⟩;have ek:(1:Int)+(j:Int)=((1+j:Nat):Int):=by lia
   have hk1:1<=1+j:=by lia
   have hkl:1+j<cs.length:=by lia
   rw[ek];have es1:1+(j+1)=1+j+1:=by lia
   rw[es1];generalize 1+j=k at h7 hk1 hkl ⊢;have hat:=iy (xs:=cs) hkl;have mc:cs.getD k 0=sh->fW (mixM sh cs ms k) k=fW ms k:=λz=>IJ cu hml hkl hk1 z;refine #[_,rfl,_,rfl,_,_,_,_,rfl,rfl,SqL.of h7c,hat,_,rfl,rfl,_,rfl,?_];refine ite2 (λe=>?_) (λe=>?_)
   .have e':cs.getD k 0=sh:=by
     have:=V.int.inj (bJ e);lia
    refine #[_,rfl,_,rfl,F,_,k,rfl,h7,λb H8 hb sb hbb=>?_];rw[IH]at hbb;have kb:But F H H8:=λx o n e=>sb _ _ (k7 x o n e);refine #[_,_,rfl,.inl (SqL.of hbb),rfl,BE _,_,rfl,?_];show if (!inV (.bl true) ((besB (mixM sh cs ms k) k).map V.bl))=true then _ else _
    rw[BD,II hk1,mc e',Bool.not_not];refine ite2 (λy=>?_) (λy=>?_)
    .refine #[_,rfl,_,rfl,_,_,_,k,rfl,rfl,sb _ _ h7,kl (by rw[aq,km];exact hkl),?_];have same:∀ b o,b≠F->H8 b=some o->upd H8 F (.lst (((mixM sh cs ms k).map V.bl).set k (.bl true))) b=some o:=λb o n e=>by
      rw[ak n];exact e
     refine #[_,rfl,?_,same _ _ (λz=>?_) (sb _ _ h7c),same _ _ (aT (qY (sb _ _ h7) (sb _ _ h7t))) (sb _ _ h7t),λb o n e=>same _ _ n (kb b o n e)]
     .rw[aj,IK hml hkl #[hk1,e',y],jB]
     .exact nFc z
    .exact #[_,rfl,by rw[BH hml hkl (λz=>y z.2)];exact sb _ _ h7,sb _ _ h7c,sb _ _ h7t,kb]
   .have e':cs.getD k 0≠sh:=λz=>e (by rw[z];exact bg rfl);refine iteF ?_;exact #[_,rfl,by rw[BH hml hkl (λz=>e' z.1)];exact h7,h7c,h7t,k7]
  .rintro U H7 ⟨x4,rfl,h7,h7c,h7t,k7⟩;rw[Bj hml (by lia)]at h7;exact #[_,_,rfl,h7,h7c,h7t,k7]
 .rintro U H6 ⟨x3,x4,rfl,h6,_,_,k6⟩;refine #[_,rfl,?_];refine q F H6 hF0 (λb o e=>k6 b o (au e hF0) e) ?_;rw[fin];exact h6
def IM {α:Type}:cE ([]:List α) []=[]:=rfl
def IP {ms:List Bool}{i:Nat}{x:V}(h:(ms.map V.bl)[i]?=some x):∃ hi:i<ms.length,x=.bl ms[i]:=by
 rw[aY]at h;cases e:ms[i]? with
 | none=>rw[e]at h;cases h
 | some y=>
  rw[e]at h;obtain ⟨hi,rfl⟩:=aN.mp e;exact #[hi,(aK h).symm]
def qZ {α:Type}{l:List α}{i:Nat}(h:i<l.length):l.take (i+1)=l.take i++[l[i]]:=cH h
def IQ (T:Txt K mg)(wJ:DF K mg "handed" oG pU)(KF:FC P w K mg base 5 "marks" pT (mD K)):FC P w K mg base 6 "handed" pU (vg K):=by
 refine wJ.ok GK (λvs H Q E h=>?_) (λf cdv A outer s H vs Q E hr h=>?_)
 .obtain ⟨a,ws,es,rfl,_⟩:=h;rfl
 obtain ⟨a,ws,es,rfl,ha,hw,hz,he,hri,q⟩:=h;have hwl:=hw.length;have hml:=jb es;refine #[_,(av (aL (dY (N:=["entry","mark"]) (own:=2) (cap:=[]) rfl (nZ rfl T.rL (aa (pv 0) (aa (aG KF hr (aa (pv 0) ae)) ae))) #[rfl,rfl,rfl,rfl,rfl,rfl] (λ_ _ _ _ _=>(zO (K:=K) (n:=2) rfl (cD (aI (i:=0) (show List.Nodup (["entry","mark"]:List Str) by decide +kernel) rfl (ar rfl)) (cD (aI (i:=1) (show List.Nodup (["entry","mark"]:List Str) by decide +kernel) rfl (ar rfl)) fA)))) (λ_ _ _ _ _=>(gn (ig (pv 1)))) (λ_ _ _ _ _=>(pv 0))))),?_];refine #[_,rfl,_,rfl,a,ws,es,rfl,ha,hw,hz,he,hri,λu H6 hu g6 h6u=>?_];have h6p:=g6 _ _ ha;generalize cn es=ms at hml h6u q;refine #[a,u,rfl,#[_,SqL.of h6p],#[_,SqL.of h6u],λD hD=>?_];refine Fo (xs:=ws) (ys:=ms.map V.bl) (by rw[aq,hml];exact hwl.symm) (λj U H7=>∃ x0 x1:Option V,U=[x0,x1]/\H7 D=some (.lst (cE (ws.take j) (ms.take j)))/\But D H6 H7) ?_ ?_ ?_ ?_
 .exact #[_,_,rfl,by rw[f6,f6,IM];exact aj,λb o n e=>by rw[ak n];exact e]
 .rintro j U H7 _ ⟨x0,x1,rfl,_,k7⟩;exact #[k7.sq (SqL.of h6p) hD,k7.sq (SqL.of h6u) hD]
 .rintro j m' x y U H7 r' hx hy hm' ⟨x0,x1,rfl,h7,k7⟩ hr';obtain ⟨hj,rfl⟩:=IP hy;obtain ⟨hjw,rfl⟩:=aN.mp hx;have hsn:=vi (a:=ws[j]) (b:=ms[j]) (show (ws.take j).length=(ms.take j).length by rw[aW,aW];lia);rw[<-qZ hjw,<-qZ hj]at hsn;refine #[r',_,rfl,SqT.of aj,rfl,_,_,rfl,_,_,rfl,rfl,?_];have s7:=aF hr' (.tup [ws[j],.bl ms[j]]);have h8:=s7 _ _ h7;have k8:=k7.new hr' (.tup [ws[j],.bl ms[j]]);generalize upd H7 r' (.tup [ws[j],.bl ms[j]])=H8 at h8 k8 ⊢;refine #[_,rfl,_,rfl,?_];have hl8:=BF (ws.take j) (ms.take j);rw[aW]at hl8;refine ite2 (λe=>?_) (λe=>?_)
  .refine #[_,rfl,_,h8,bt (by lia),m'-1,by lia,by lia,_,_,rfl,?_,λb o n e=>by rw[ak n];exact k8 b o n e];rw[aj,hsn,af e]
  .refine #[m'-1,by lia,by lia,_,_,rfl,?_,k8];rw[h8,hsn,ag e,bZ]
 .rintro U H7 ⟨x0,x1,rfl,h7,k7⟩;rw[bx (ai _),bx (by lia)]at h7;have s7:Same H6 H7:=λb o e=>k7 b o (au e hD) e;exact q D H7 (g6.free hD) (g6.trans s7) h7
def BI {v:Nat}{xs:List Nat}{k:Nat}:((List.range (k+1)).filter λk=>decide (xs.getD k 0=v))=((List.range k).filter λk=>decide (xs.getD k 0=v))++(if xs.getD k 0=v then [k] else []):=by
 rw[fP,cZ];congr 1;by_cases h:xs.getD k 0=v
 .rw[af h,ef (by exact bg h)];rfl
 .rw[ag h,fz (by rw[bD h];decide)];rfl
def IR (T:Txt K mg)(wK:DF K mg "_law_colours" o9 qr):FC P w K mg base 1 "_law_colours" qr (mB K):=by
 refine wK.ok j7 (λvs H Q E h=>?_) (λf cdv A outer s H vs Q E hr h=>?_)
 .obtain ⟨a,xs,rfl,_⟩:=h;rfl
 obtain ⟨a,xs,rfl,hS,hu,hb,hz,q⟩:=h;refine #[_,(ay (aE (i:=1) j7.nd rfl (dh rfl) (ff (lS (K:=K)) rfl T.jh boot_list (aa (pv 0) ae)))
   (ay (bW PassesOwn.never rfl (gL (cN (aa ah (aa ah (aa ah ae))))) (aI (i:=2) j7.nd rfl (dh rfl)) (ay (iY (i:=3) (N:=["_law_k","_law_found","_law_high"]) (own:=1) (cap:=[1,2]) j7.nd rfl rfl rfl (eQ rfl T.c8 (aa (bc (bU (K:=K)) rfl T.bQ bL (aa (pv 1) ae)) ae)) #[rfl,rfl,rfl,rfl,rfl,rfl] (λ_ _ _ _ _=>(aI (i:=0) (show List.Nodup (["_law_k","_law_found","_law_high"]:List Str) by decide +kernel) rfl (ar rfl))) (λ_ _ _ _ _=>(gn (aZ c9 (aD (aQ (K:=K)) (pv 1) (pv 0) (λ_ _=>rfl)) (pv 2) (bp _)))) (λ_ _ _ _ _=>(pv 0)))
   (av (bW PassesOwn.never rfl (dS (pv 3)) (aI (i:=4) j7.nd rfl (ar rfl)) (ay (aE (i:=5) j7.nd rfl (dh rfl) (ax yK (gb (jT (K:=K)) (pv 1) (eh (bc (sV rfl) rfl T.wg boot_max (aa ah (aa (ax c4 (pv 4) ah) ae)))) (eh (pv 4))) (gb (jT (K:=K)) (pv 1) (eh (ax bH (pv 4) ah)) (eh (ax bH (pv 4) ah)))))
   (av (gK (aD (aQ (K:=K)) (dY (N:=["_law_colour","_law_beside"]) (own:=1) (cap:=[5]) rfl (eQ rfl T.c8 (aa ah ae)) #[rfl,rfl,rfl,rfl,rfl,rfl] (λ_ _ _ _ _=>(aI (i:=0) (show List.Nodup (["_law_colour","_law_beside"]:List Str) by decide +kernel) rfl (ar rfl))) (λ_ _ _ _ _=>(gn (aZ (jS (K:=K)) (pv 0) (pv 1) (by with_unfolding_all rfl)))) (λ_ _ _ _ _=>(pv 0))) ah (λ_ _=>rfl)) (jD (pv 1) (pv 4) jI))))))))
   (av (aL (pv 1))))),?_]
 refine #[_,rfl,a,_,rfl,.inl hS,λp hp=>?_];have k0:But p H (upd H p (.lst (xs.map nV))):=λb o n e=>by rw[ak n];exact e
 refine #[(by show 3<=sizeLine;decide),λt ht=>?_];have npt:p≠t:=au aj ht;refine #[t,rfl,#[_,SqT.of aj],?_];refine nK (xs:=[V.int 3,V.int 4,V.int 5]) (λi U H2=>∃ x2 x3 x4 x5:Option V,U=[some (.ref a),some (.ref p),x2,x3,x4,x5]/\H2 p=some (.lst ((colN xs i).map nV))/\H2 t=some (.tup [V.int 3,V.int 4,V.int 5])/\But p H H2) ?_ ?_ ?_ ?_
 .exact #[_,_,_,_,rfl,by rw[ak npt];exact aj,aj,k0.new ht _]
 .rintro i U H2 _ ⟨x2,x3,x4,x5,rfl,_,h2t,_⟩;exact SqT.of h2t
 .rintro i x U H2 hx ⟨x2,x3,x4,x5,rfl,h2,h2t,k2⟩;obtain ⟨hi,rfl⟩:i<3/\x=V.int ((3+i:Nat):Int):=by
   rcases i with _|_|_|i
   .exact #[by decide,(aK hx).symm]
   .exact #[by decide,(aK hx).symm]
   .exact #[by decide,(aK hx).symm]
   .cases hx
  have hyl:=Bk xs i;have hyu:=Bl hu i;have hnx:colN xs (i+1)=recL (3+i) (colN xs i):=rfl;rw[hnx];generalize colN xs i=ys at h2 hyl hyu ⊢;generalize 3+i=v;refine #[_,rfl,_,_,rfl,.inl (SqL.of h2),_,rfl,by rw[aq];lia,by rw[aq];lia,λD hD=>?_];have el:((((ys.map nV).length:Nat):Int)).toNat=ys.length:=by rw[aq,fm]
  rw[el];refine iZ (n:=ys.length) (λk U H3=>∃ x0:Option V,U=[x0,some (.ref p),some (.int v)]/\H3 D=some (.lst (((List.range k).filter λk=>decide (ys.getD k 0=v)).map nV))/\But D H2 H3) ?_ ?_ ?_
  .exact #[_,rfl,aj,λb o n e=>by rw[ak n];exact e]
  .rintro k m U H3 hm hk ⟨x0,rfl,h3,k3⟩;have h3p:H3 p=some (.lst (ys.map nV)):=k3 _ _ (au h2 hD) h2;have hat:atI (ys.map nV) (0+(k:Int))=some (nV (ys.getD k 0)):=by
    rw[fb];exact iy hk
   have hlen:=eP (λk=>decide (ys.getD k 0=v)) (List.range k);rw[cv]at hlen;refine #[_,rfl,_,rfl,_,_,_,_,rfl,rfl,SqL.of h3p,hat,_,rfl,rfl,_,rfl,?_];refine ite2 (λc=>?_) (λc=>?_)
   .have c':ys.getD k 0=v:=by
     have:=V.int.inj (bJ c);lia
    refine #[_,rfl,_,h3,bt (by rw[aq];lia),m-1,by lia,by lia,_,rfl,?_,λb o n e=>by rw[ak n];exact k3 b o n e];rw[aj,BI,af c',bo,fb];rfl
   .have c':ys.getD k 0≠v:=λz=>c (by rw[z];exact bg rfl);refine #[m-1,by lia,by lia,_,rfl,?_,k3];rw[h3,BI,ag c',bZ]
  .rintro U H3 ⟨x0,rfl,h3,k3⟩;have h3:H3 D=some (.lst ((atsL v ys).map nV)):=h3;have h3p:H3 p=some (.lst (ys.map nV)):=k3 _ _ (au h2 hD) h2;have h3t:=k3 _ _ (au h2t hD) h2t;have kk3:But p H H3:=λb o n e=>k3 b o (au (k2 b o n e) hD) (k2 b o n e);have npD:p≠D:=au h2 hD;have A:=mi v ys;refine #[_,rfl,D,rfl,#[_,SqL.of h3],?_];refine lz (xs:=(atsL v ys).map nV) (λj U H4=>∃ x4 x5:Option V,U=[some (.ref a),some (.ref p),some (.int v),some (.ref D),x4,x5]/\H4 p=some (.lst ((mixL v ys ((atsL v ys).getD j ys.length)).map nV))/\H4 D=some (.lst ((atsL v ys).map nV))/\H4 t=some (.tup [V.int 3,V.int 4,V.int 5])/\But p H H4) ?_ ?_ ?_ ?_
   .exact #[_,_,rfl,by rw[Hw];exact h3p,h3,h3t,kk3]
   .rintro j U H4 _ ⟨x4,x5,rfl,_,h4D,_⟩;exact SqL.of h4D
   .rintro j x U H4 hx ⟨x4,x5,rfl,h4,h4D,h4t,k4⟩;obtain ⟨hj,rfl⟩:=my hx;have eg:(atsL v ys).getD j 0=(atsL v ys)[j]:=by
     rw[aA,aw hj];rfl
    have eg2:(atsL v ys).getD j ys.length=(atsL v ys)[j]:=by
     rw[aA,aw hj];rfl
    obtain ⟨g1,g2⟩:=A.get hj;have nx:=Hx hj;rw[eg2]at h4;rw[eg];generalize (atsL v ys)[j]=k at h4 g1 g2 nx ⊢;have g2:ys.getD k 0=v:=bJ g2;have hb2:=Bf hyu g1 g2;have ml:=uY v ys k;refine Iz (k:=k) rfl rfl rfl h4 λg H5 hg s5 h5=>?_;rw[hb2]at h5;have h5p:=s5 _ _ h4;have npg:p≠g:=au h4 hg;refine #[3,rfl,by decide,by decide,λD2 hD2=>?_];refine iZ (n:=3) (λc U H6=>∃ x0:Option V,U=[x0,some (.ref g)]/\H6 D2=some (.lst (((List.range c).filter λc=>!decide (c∈bN ys k)).map nV))/\But D2 H5 H6) ?_ ?_ ?_
    .exact #[_,rfl,aj,λb o n e=>by rw[ak n];exact e]
    .rintro c m U H6 hm hc ⟨x0,rfl,h6,k6⟩;have h6g:=k6 _ _ (au h5 hD2) h5;have hlen:=eP (λc=>!decide (c∈bN ys k)) (List.range c);rw[cv]at hlen;refine #[_,rfl,_,rfl,_,_,rfl,.inl (SqL.of h6g),rfl,qT _,_,rfl,?_];show if (!inV (.int (0+(c:Int))) ((bN ys k).map nV))=true then _ else _
     rw[fb,qU];refine ite2 (λe=>?_) (λe=>?_)
     .have e':c∉bN ys k:=λz=>by
       rw[bg z]at e;cases e
      refine #[_,rfl,_,h6,bt (by rw[aq];lia),m-1,by lia,by lia,_,rfl,?_,λb o n e=>by rw[ak n];exact k6 b o n e];rw[aj,qX,ag e',bo];rfl
     .have e':c∈bN ys k:=jk λz=>e (by rw[bD z];rfl);refine #[m-1,by lia,by lia,_,rfl,?_,k6];rw[h6,qX,af e',bZ]
    .rintro U H6 ⟨x0,rfl,h6,k6⟩;have h6p:=k6 _ _ (au h5p hD2) h5p;have hff:=Hk (xs:=ys) (k:=k);have hat0:atI (((List.range 3).filter λc=>!decide (c∈bN ys k)).map nV) 0=some (nV (eA ys k)):=by
      rw[show (0:Int)=((0:Nat):Int) from rfl];refine cI ?_;rw[aY,<-List.head?_eq_getElem?,hff];rfl
     refine #[_,_,_,_,rfl,rfl,SqL.of h6,hat0,?_];refine #[_,rfl,_,rfl,_,_,_,k,rfl,rfl,h6p,kl (by rw[aq,ml];exact g1),?_];have same:∀ b o,b≠p->H4 b=some o->upd H6 p (.lst (((mixL v ys k).map nV).set k (nV (eA ys k)))) b=some o:=λb o n e=>by
      rw[ak n];exact k6 _ _ (au (s5 _ _ e) hD2) (s5 _ _ e)
     refine #[_,_,rfl,?_,same _ _ (aT npD) h4D,same _ _ (aT (qY h4 h4t)) h4t,λb o n e=>same _ _ n (k4 b o n e)];rw[aj,nx,jB]
   .rintro U H4 ⟨x4,x5,rfl,h4,h4D,h4t,k4⟩;rw[aq,Hy]at h4;exact #[_,_,_,_,rfl,h4,h4t,k4]
 .rintro U H2 ⟨x2,x3,x4,x5,rfl,h2,_,k2⟩;refine #[_,rfl,?_];exact q p H2 hp (λb o e=>k2 b o (au e hp) e) h2
def IS (T:Txt K mg)(wL:DF K mg "_law_marks" pe qt)(KG:FC P w K mg base 1 "_law_code" qo (mx K))(KH:FC P w K mg base 1 "_law_turned" qp (mz K))(KI:FC P w K mg base 1 "_law_colours" qr (mB K)):FC P w K mg base 2 "_law_marks" qt (mD K):=by
 refine wL.ok ip (λvs H Q E h=>?_) (λf cdv A outer s H vs Q E hr h=>?_)
 .obtain ⟨a,ws,es,rfl,_⟩:=h;rfl
 obtain ⟨a,ws,es,rfl,ha,hw,hz,he,hri,q⟩:=h;have hlen:=hw.length;refine #[_,(ay (iY (i:=1) (N:=["_law_entry"]) (own:=1) (cap:=[]) ip.nd rfl rfl rfl (dS (pv 0)) #[rfl,rfl,rfl,rfl,rfl,rfl] (λ_ _ _ _ _=>(aI (i:=0) (show List.Nodup (["_law_entry"]:List Str) by decide +kernel) rfl (ar rfl))) (λ_ _ _ _ _=>eR) (λ_ _ _ _ _=>(aG KG hr (aa (pv 0) ae))))
   (ay (bW PassesOwn.never rfl (eQ rfl T.c8 (aa ah ae)) (aI (i:=2) ip.nd rfl (ar rfl)) (av (aE (i:=1) ip.nd rfl (ar rfl) (aG KH hr (aa (pv 1) ae)))))
   (ay (aE (i:=3) ip.nd rfl (ar rfl) (aG KI hr (aa (pv 1) ae)))
   (ay (iY (i:=4) (N:=["_law_entry"]) (own:=1) (cap:=[]) ip.nd rfl rfl rfl (dS (pv 0)) #[rfl,rfl,rfl,rfl,rfl,rfl] (λ_ _ _ _ _=>(aI (i:=0) (show List.Nodup (["_law_entry"]:List Str) by decide +kernel) rfl (ar rfl))) (λ_ _ _ _ _=>eR) (λ_ _ _ _ _=>dC))
   (ay (bW PassesOwn.never rfl (gL (cN (aa ah (aa ah (aa ah ae))))) (aI (i:=5) ip.nd rfl (ar rfl)) (av (bW PassesOwn.never rfl (ly rfl T.c8 (aa ah (aa (bc (bU (K:=K)) rfl T.bQ bL (aa (pv 0) ae)) ae))) (aI (i:=2) ip.nd rfl (ar rfl)) (av (cg (PW.pt (iR (aZ c9 (aD (aQ (K:=K)) (pv 3) (pv 2) (λ_ _=>rfl)) (pv 5) (bp _)) (iQ (aZ (jS (K:=K)) dC (gb (jT (K:=K)) (pv 4) (eh (ax c4 (pv 2) ah)) (eh (ax bH (pv 2) ah))) (by with_unfolding_all rfl))))) (av (gK dC (jD (pv 4) (pv 2) jI))) cw)))))
   (av (aL (pv 4)))))))),?_]
 refine #[_,rfl,a,rfl,#[_,SqL.of ha],λD hD=>?_];have k0:But D H (upd H D (.lst [])):=λb o n e=>by rw[ak n];exact e
 refine fT (xs:=ws) (λi U H2=>∃ x0:Option V,U=[x0]/\H2 D=some (.lst (((cm es).take i).map nV))/\But D H H2) ?_ ?_ ?_ ?_
 .exact #[_,rfl,aj,k0]
 .rintro i U H2 _ ⟨x0,rfl,_,k2⟩;exact k2.sq (SqL.of ha) hD
 .rintro i m x U H2 hx hm ⟨x0,rfl,h2,k2⟩;obtain ⟨hi,hhas⟩:=By hD hw hx k2;refine gq ?_;refine #[_,rfl,x,es[i],rfl,hhas,?_];refine #[_,h2,bt (by rw[aq,aW,eS];lia),m-1,by lia,by lia,_,rfl,?_,λb o n e=>by rw[ak n];exact k2 b o n e];rw[aj,Bx hi,bo,<-mw (he _ (cG hi))];rfl
 rintro U H2 ⟨x0,rfl,h2,k2⟩;have e0:H2 D=some (.lst ((cm es).map nV)):=by
  rw[h2,bx (by rw[eS];lia)]
 have same0:Same H H2:=λb o e=>k2 b o (au e hD) e;refine #[5,rfl,by decide,by decide,?_];refine fB (n:=5) (λi U H3=>∃(p:Addr) (x2:Option V),U=[some (.ref a),some (.ref p),x2,none,none,none]/\Same H H3/\H3 p=some (.lst ((cK i (cm es)).map nV))) ?_ ?_ ?_
 .exact #[D,_,rfl,same0,e0]
 .rintro i U H3 hi ⟨p,x2,rfl,s3,h3⟩;refine #[_,rfl,p,_,rfl,SqL.of h3,i9 (qW he hri) i,by rw[i8,eS];exact hz,λp4 H4 hp4 s4 h4=>?_];exact #[p4,_,rfl,s3.trans s4,h4]
 rintro U H3 ⟨p,x2,rfl,s3,h3⟩;refine #[_,rfl,p,_,rfl,SqL.of h3,mC he hri,vf he hri,by rw[i8,eS];exact hz,λc H4 hc s4 h4=>?_];have cu:Unl (colL (cK 5 (cm es))):=uQ (uU (unlZ (mC he hri)));have cl:(colL (cK 5 (cm es))).length=es.length:=by rw[uT,i8,eS]
 have fin:cn es=mkN (colL (cK 5 (cm es))) 3:=(Bm _).symm;generalize colL (cK 5 (cm es))=cs at h4 cu cl fin;have s04:=s3.trans s4;have h4a:=s04 _ _ ha;refine #[_,rfl,a,rfl,#[_,SqL.of h4a],λF hF=>?_];refine fT (xs:=ws) (λi U H5=>∃ x0:Option V,U=[x0]/\H5 F=some (.lst ((List.replicate i false).map V.bl))/\But F H4 H5) ?_ ?_ ?_ ?_
 .exact #[_,rfl,aj,λb o n e=>by rw[ak n];exact e]
 .rintro i U H5 _ ⟨x0,rfl,_,k5⟩;exact k5.sq (SqL.of h4a) hF
 .rintro i m x U H5 hx hm ⟨x0,rfl,h5,k5⟩;have hi:=(aN.mp hx).1;refine gq ?_;refine #[_,h5,bt (by rw[aq,fk];lia),m-1,by lia,by lia,_,rfl,?_,λb o n e=>by rw[ak n];exact k5 b o n e];rw[aj,sP,bo];rfl
 rintro U H5 ⟨x0,rfl,h5,k5⟩;have s45:Same H4 H5:=λb o e=>k5 b o (au e hF) e;have h5c:=s45 _ _ h4;have h5a:=s45 _ _ h4a;have nFc:c≠F:=au h4 hF;have hF0:H F=none:=s04.free hF;have k05:But F H H5:=λb o _ e=>s45 _ _ (s04 _ _ e);have e5:H5 F=some (.lst ((mkN cs 0).map V.bl)):=by
  rw[h5,mkN,show List.replicate ws.length false=cs.map (λ_=>false) from by rw[List.map_const',cl,hlen]]
 refine #[(by show 3<=sizeLine;decide),λt ht=>?_];have st:=aF ht (.tup [V.int 2,V.int 1,V.int 0]);refine #[t,rfl,#[_,SqT.of aj],?_];refine nK (xs:=[V.int 2,V.int 1,V.int 0]) (λi U H6=>∃(x1 x2 x5:Option V),U=[some (.ref a),x1,x2,some (.ref c),some (.ref F),x5]/\H6 F=some (.lst ((mkN cs i).map V.bl))/\H6 c=some (.lst (cs.map nV))/\H6 t=some (.tup [V.int 2,V.int 1,V.int 0])/\But F H H6) ?_ ?_ ?_ ?_
 .exact #[_,_,_,rfl,st _ _ e5,st _ _ h5c,aj,k05.new ht _]
 .rintro i U H6 _ ⟨x1,x2,x5,rfl,_,_,h6t,_⟩;exact SqT.of h6t
 .rintro i x U H6 hx ⟨x1,x2,x5,rfl,h6,h6c,h6t,k6⟩;obtain ⟨hi,rfl⟩:i<3/\x=V.int ((2-i:Nat):Int):=by
   rcases i with _|_|_|i
   .exact #[by decide,(aK hx).symm]
   .exact #[by decide,(aK hx).symm]
   .exact #[by decide,(aK hx).symm]
   .cases hx
  have hml:=Bn cs i;have hnx:mkN cs (i+1)=d3 (2-i) cs (mkN cs i):=rfl;rw[hnx];generalize mkN cs i=ms at h6 hml ⊢;generalize 2-i=sh;have h6a:=k6 _ _ (au ha hF0) ha;refine #[_,rfl,_,_,rfl,.inl (SqL.of h6a),1,_,rfl,#[by lia,by lia,by lia,by lia],?_];have en:(((ws.length:Nat):Int)-1).toNat=cs.length-1:=by lia
  rw[en];have km:∀ k,(mixM sh cs ms k).length=cs.length:=qN hml;refine fB (n:=cs.length-1) (λj U H7=>∃(x2:Option V),U=[some (.ref a),x1,x2,some (.ref c),some (.ref F),some (.int sh)]/\H7 F=some (.lst ((mixM sh cs ms (1+j)).map V.bl))/\H7 c=some (.lst (cs.map nV))/\H7 t=some (.tup [V.int 2,V.int 1,V.int 0])/\But F H H7) ?_ ?_ ?_
  .exact #[_,rfl,by rw[Bo hml];exact h6,h6c,h6t,k6]
  .rintro j U H7 hj ⟨x2,rfl,h7,h7c,h7t,k7⟩;have ek:(1:Int)+(j:Int)=((1+j:Nat):Int):=by lia
   have hk1:1<=1+j:=by lia
   have hkl:1+j<cs.length:=by lia
   rw[ek];have es1:1+(j+1)=1+j+1:=by lia
   rw[es1];generalize 1+j=k at h7 hk1 hkl ⊢;have hat:=iy (xs:=cs) hkl;have mc:cs.getD k 0=sh->fV (mixM sh cs ms k) k=fV ms k:=λz=>Hr cu hml hkl hk1 z;refine #[_,rfl,_,rfl,_,_,_,_,rfl,rfl,SqL.of h7c,hat,_,rfl,rfl,_,rfl,?_];refine ite2 (λe=>?_) (λe=>?_)
   .have e':cs.getD k 0=sh:=by
     have:=V.int.inj (bJ e);lia
    refine #[_,rfl,_,rfl,_,_,rfl,rfl,_,rfl,_,rfl,_,_,rfl,rfl,_,rfl,_,_,rfl,SqL.of h7,λb hb=>?_];have sb:=aF hb (.lst (cutV ((mixM sh cs ms k).map V.bl) (some ((k:Int)-1)) (some ((k:Int)+2))));have hbb:upd H7 b (.lst (cutV ((mixM sh cs ms k).map V.bl) (some ((k:Int)-1)) (some ((k:Int)+2)))) b=some (.lst ((((mixM sh cs ms k).drop (k-1)).take 3).map V.bl)):=by
     rw[aj,IB hk1 rfl rfl]
    have kb:=k7.new hb (.lst (cutV ((mixM sh cs ms k).map V.bl) (some ((k:Int)-1)) (some ((k:Int)+2))));generalize upd H7 b (.lst (cutV ((mixM sh cs ms k).map V.bl) (some ((k:Int)-1)) (some ((k:Int)+2))))=H8 at sb hbb kb ⊢;refine #[_,_,rfl,.inl (SqL.of hbb),rfl,BE _,_,rfl,?_];show if (!inV (.bl true) ((((mixM sh cs ms k).drop (k-1)).take 3).map V.bl))=true then _ else _
    rw[BD,any3 _ hk1,mc e',Bool.not_not];refine ite2 (λy=>?_) (λy=>?_)
    .refine #[_,rfl,_,rfl,_,_,_,k,rfl,rfl,sb _ _ h7,kl (by rw[aq,km];exact hkl),?_];have same:∀ b o,b≠F->H8 b=some o->upd H8 F (.lst (((mixM sh cs ms k).map V.bl).set k (.bl true))) b=some o:=λb o n e=>by
      rw[ak n];exact e
     refine #[_,rfl,?_,same _ _ (λz=>?_) (sb _ _ h7c),same _ _ (aT (qY (sb _ _ h7) (sb _ _ h7t))) (sb _ _ h7t),λb o n e=>same _ _ n (kb b o n e)]
     .rw[aj,Ht hml hkl #[hk1,e',y],jB]
     .exact nFc z
    .exact #[_,rfl,by rw[uZ hml hkl (λz=>y z.2.2)];exact sb _ _ h7,sb _ _ h7c,sb _ _ h7t,kb]
   .have e':cs.getD k 0≠sh:=λz=>e (by rw[z];exact bg rfl);refine iteF ?_;exact #[_,rfl,by rw[uZ hml hkl (λz=>e' z.2.1)];exact h7,h7c,h7t,k7]
  .rintro U H7 ⟨x2,rfl,h7,h7c,h7t,k7⟩;rw[Bj hml (by lia)]at h7;exact #[_,_,_,rfl,h7,h7c,h7t,k7]
 .rintro U H6 ⟨x1,x2,x5,rfl,h6,_,_,k6⟩;refine #[_,rfl,?_];refine q F H6 hF0 (λb o e=>k6 b o (au e hF0) e) ?_;rw[fin];exact h6
set_option maxHeartbeats 1000000 in
def dG {K:Frag}{H:Hp}{q:Addr}{zs:List V}(hq:H q=some (.lst zs)){es:List (Int×Int)}{ws:List V}(h:aB K H es ws):aB K (upd H q o) es ws:=pImp (λ_ _ h=>by
  obtain ⟨a,x1,x2,rfl,hT,e1,e2⟩:=(show hasP K H _ _ from h);exact #[a,x1,x2,rfl,by rw[ak (xE hT hq (by intro z;cases z))];exact hT,e1,e2]) h
def Own (K:Frag)(H:Hp):List Addr->List (List (Int×Int))->Prop:=Paired λq l=>∃ ws,H q=some (.lst ws)/\aB K H l ws
section
variable {K:Frag}{H H':Hp}
def Own.length {qs:List Addr}{ls:List (List (Int×Int))}(h:Own K H qs ls):qs.length=ls.length:=Paired.length h
def Own.ext (e:Ext H H'){qs:List Addr}{ls:List (List (Int×Int))}(h:Own K H qs ls):Own K H' qs ls:=pImp (λ_ _ h=>by
 obtain ⟨ws,h1,h2⟩:=h;exact #[ws,e _ _ h1 nofun,aB.mono e h2]) h
def Own.get:∀{qs:List Addr} {ls:List (List (Int×Int))} {i:Nat} {x:V},Own K H qs ls->(qs.map V.ref)[i]?=some x->∃ q l ws,qs[i]?=some q/\x=.ref q/\ls[i]?=some l/\H q=some (.lst ws)/\aB K H l ws
 | _,_,_,_,.nil,e=>by simp at e
 | _,_,0,_,.cons ⟨ws,h1,h2⟩ _,e=>by
  simp at e;exact #[_,_,ws,rfl,e.symm,rfl,h1,h2]
 | _,_,i+1,x,.cons _ t,e=>by
  obtain ⟨q,l,ws,h1,h2,h3,h4,h5⟩:=Own.get (i:=i) (x:=x) t (by simpa using e);exact #[q,l,ws,by simpa using h1,h2,by simpa using h3,h4,h5]
def Own.append {qs qs':List Addr}{ls ls':List (List (Int×Int))}(h:Own K H qs ls)(g:Own K H qs' ls'):Own K H (qs++qs') (ls++ls'):=pApp h g
def Own.other {q:Addr}{zs:List V}(hq:H q=some (.lst zs)){qs:List Addr}{ls:List (List (Int×Int))}(h:Own K H qs ls)(hn:q∉qs):Own K (upd H q o) qs ls:=by
 unfold Own at h
 induction h with
 | nil=>exact .nil
 | cons h _ ih=>
  obtain ⟨ws,h1,h2⟩:=h;rw[aX,not_or]at hn;exact .cons #[ws,by rw[ak (aT hn.1)];exact h1,dG hq h2] (ih hn.2)
end
def BJ {ls:List (List (Int×Int))}{i:Nat}{l:List (Int×Int)}(h:ls[i]?=some l):(ls.take (i+1)).flatten=(ls.take i).flatten++l:=by
 have hi:=(aN.mp h).1;rw[cH hi,nC,(aN.mp h).2];simp
def IT {ls:List (List (Int×Int))}(i:Nat):(ls.take i).flatten.length<=ls.flatten.length:=by
 have e:ls.flatten=(ls.take i).flatten++(ls.drop i).flatten:=by rw[<-nC,eX]
 rw[e,aV];lia
inductive vk (K:Frag)(vs:List V)(H:Hp)(Q:VK)(w_1:XK):Prop
 | c:∀(a:Addr) (qs:List Addr) (ls:List (List (Int×Int))),vs=[.ref a]->H a=some (.lst (qs.map V.ref))->Own K H qs ls->ls.flatten.length<=1000->(∀(p:Addr) (ws:List V) (H':Hp),H p=none->Same H H'->H' p=some (.lst ws)->aB K H' (dE ls.flatten) ws->Q (.ref p) H')->vk K vs H Q w_1
def IU (T:Txt K mg)(wM:DF K mg "joined_up" ox pN):FC P w K mg base 1 "joined_up" pN (vk K):=by
 refine wM.ok uF (λvs H Q E h=>?_) (λf cdv A outer s H vs Q E hr h=>?_)
 .obtain ⟨a,qs,ls,rfl,_⟩:=h;rfl
 obtain ⟨a,qs,ls,rfl,ha,ho,hz,q⟩:=h;have hll:=ho.length;refine #[_,(ay (aE (i:=1) uF.nd rfl (ar rfl) (dn ae))
   (ay (bW PassesOwn.never rfl (dS (pv 0)) (aI (i:=2) uF.nd rfl (ar rfl)) (av (dR (dU F.plainAttrs_list F.slot_list_extend F.type_list_extend DY (pv 1) (aa (pv 2) ae)))))
   (av (aL (bc (oi (Int×Int)) rfl T.rK boot_sorted (aa (pv 1) ae)))))),?_]
 refine #[(by show 0<=sizeLine;decide),λt ht=>?_];have k0:But t H (upd H t (.lst [])):=λb o n e=>by rw[ak n];exact e
 refine #[_,rfl,a,rfl,#[_,SqL.of (k0 _ _ (au ha ht) ha)],?_];refine lz (xs:=qs.map V.ref) (λi U H2=>∃(zs:List V) (x2:Option V),U=[some (.ref a),some (.ref t),x2]/\H2 t=some (.lst zs)/\aB K H2 (ls.take i).flatten zs/\But t H H2/\Own K H2 qs ls) ?_ ?_ ?_ ?_
 .exact #[[],_,rfl,aj,.nil,k0,ho.ext (aF ht _).ext]
 .rintro i U H2 _ ⟨zs,x2,rfl,h2,_,k2,_⟩;exact SqL.of (k2 _ _ (au ha ht) ha)
 .rintro i x U H2 hx ⟨zs,x2,rfl,h2,hw,k2,o2⟩;obtain ⟨g,l,ws,e1,rfl,e3,e4,e5⟩:=o2.get hx;have hlen:zs.length+ws.length<=1000:=by
   have z1:=hw.length;have z2:=e5.length;have z3:=IT (ls:=ls) (i+1);rw[BJ e3,aV]at z3;lia
  have hgo:∀ b∈qs,b≠t:=λb hb z=>by
   obtain ⟨j,hj,rfl⟩:=dQ hb;obtain ⟨_,_,ws0,f1,f2,_,f4,_⟩:=ho.get (i:=j) (x:=.ref qs[j]) (by rw[aY,aw hj];rfl);cases f2
   rw[z,ht]at f4;cases f4
  refine #[_,rfl,.inl #[rfl,_,SqL.of h2],_,rfl,t,g,zs,ws,rfl,rfl,h2,e4,bf (bt hlen),?_];refine #[_,_,rfl,aj,?_,λb o n e=>by rw[ak n];exact k2 b o n e,o2.other h2 (λz=>hgo t z rfl)];rw[BJ e3];exact (dG h2 hw).append (dG h2 e5)
 .rintro U H2 ⟨zs,x2,rfl,h2,hw,k2,o2⟩;rw[bx (by rw[aq];lia)]at hw;refine #[_,rfl,t,zs,_,rfl,SqL.of h2,hw,λl ws hl hs=>?_];have e2:=aF hl (.lst ws);have s2:Same H H2:=λb o e=>k2 b o (au e ht) e;exact q l ws _ (s2.free hl) (s2.trans e2) aj (aB.mono e2.ext hs)
def cy (ps:List Nat):List V:=.non::ps.map nV
def parV (ps:List Nat)(k:Nat):V:=match par ps k with
 | none=>.non
 | some p=>nV p
def cO (ps:List Nat):(cy ps).length=ps.length+1:=by
 unfold cy;rw[cR,aq]
def q9 {ps:List Nat}{k:Nat}(h:k<ps.length+1):atI (cy ps) (k:Int)=some (parV ps k):=by
 refine cI ?_;unfold cy parV;cases k with
 | zero=>rfl
 | succ k=>
  show (ps.map nV)[k]?=some (match ps[k]? with|none=>_|some p=>nV p)
  rw[aY,aw (show k<ps.length by lia)];rfl
def rf {k p:Nat}(h:par ps k=some p):parV ps k=nV p:=by
 unfold parV;rw[h]
def BK {k:Nat}(h:par ps k=none):parV ps k=.non:=by
 unfold parV;rw[h]
def rg {k m:Nat}:parV ps k=.int (m:Int)↔par ps k=some m:=by
 cases e:par ps k with
 | none=>
  rw[BK e];exact #[nofun,nofun]
 | some p=>
  rw[rf e];constructor
  .intro z;have:=Int.ofNat.inj (V.int.inj z);rw[this]
  .intro z;rw[aK z]
def BL (ps:List Nat)(k:Nat)(i:Int):scal (parV ps k) (.int i)=true:=by
 cases e:par ps k with
 | none=>rw[BK e];rfl
 | some p=>rw[rf e];rfl
def But.new' {b:Addr}(k:But p H H2)(hb:H2 b=none)(o:HO):But p H (upd H2 b o):=λx o' n e=>(aF hb o) x o' (k x o' n e)
inductive vm (K:Frag)(vs:List V)(H:Hp)(Q:VK)(w_1:XK):Prop
 | c:∀(d L:Addr) (m:Int),vs=[.ref d,.int m]->(0<m/\m<=40)->LS K L d H->(∀(t:Addr) (ps:List Nat) (H':Hp),H t=none->aR ps->(ps.length:Int)<m->H' t=some (.tup (cy ps))->Keep d H H'->LS K L d H'->Q (.ref t) H')->vm K vs H Q w_1
def IV {u:Nat}(T:aR ps)(h:u<=ps.length):aR (ps++[u]):=by
 intro i hi;rw[aV,di]at hi;by_cases c:i<ps.length
 .rw[List.getElem_append_left c];exact T i c
 .have:i=ps.length:=by lia
  subst this;rw[List.getElem_append_right (ai _)];simp;exact h
def IW (T:Txt K mg)(wN:DF K mg "_law_tree" oY qh)(bR:FC P w K mg base 2 "_law_take" gw (gP K)):FC P w K mg base 3 "_law_tree" qh (vm K):=by
 refine wN.ok pI (λvs H Q E h=>?_) (λf cdv A outer s H vs Q E hr h=>?_)
 .obtain ⟨d,L,m,rfl,_⟩:=h;rfl
 obtain ⟨d,L,m,rfl,⟨hm0,hm1⟩,hs,q⟩:=h;refine #[_,(ay (aE (i:=2) pI.nd rfl (ar rfl) (aG bR hr (aa (pv 0) (aa ah ae))))
   (ay (aE (i:=3) pI.nd rfl (ar rfl) (dn (aa C9 ae)))
   (ay (bW PassesOwn.never rfl (ly rfl T.c8 (aa ah (aa (ax bH ah (aG bR hr (aa (pv 0) (aa (pv 1) ae)))) ae))) (aI (i:=4) pI.nd rfl (ar rfl)) (av (dR (dU F.plainAttrs_list F.slot_list_append F.type_list_append dD (pv 3) (aa (aD (aQ (K:=K)) (dn (aa (ax c4 (pv 4) ah) (aa ah (aa (aG bR hr (aa (pv 0) (aa (pv 4) ae))) (aa (bc (sV rfl) rfl T.wg boot_max (aa ah (aa (ax c4 (ax c4 (pv 4) ah) (aG bR hr (aa (pv 0) (aa ah ae)))) ae))) ae))))) (pv 2) (λ_ _=>rfl)) ae)))))
   (av (aL (ff (oo (K:=K)) rfl T.mO boot_tuple (aa (pv 3) ae))))))),?_]
 refine #[_,rfl,d,L,4,rfl,by decide,hs,λw1 H1 w0 w4 k1 s1=>?_];refine #[(by show 1<=sizeLine;decide),λp hp=>?_];have g0:=aF hp (.lst [V.non]);have hpd:p≠d:=by
  obtain ⟨ns,a,l,e,_⟩:=s1.ex;exact aT (au e hp)
 have hp0:H p=none:=by
  cases e:H p with
  | none=>rfl
  | some o=>
   have:=k1 p o hpd e;rw[hp]at this;cases this
 refine #[_,rfl,_,rfl,d,L,m,rfl,#[hm0,by lia],s1.same g0,λn H2 n0 n1 k2 s2=>#[_,_,rfl,rfl,1,_,rfl,#[by lia,by lia,by lia,by lia],?_]];have en:((1:Int)+n-1).toNat=n.toNat:=by lia
 rw[en];refine fB (n:=n.toNat) (λi U H3=>∃(ps:List Nat) (x4:Option V),U=[some (.ref d),some (.int m),some (.int w1),some (.ref p),x4]/\H3 p=some (.lst (cy ps))/\ps.length=i/\aR ps/\(∀ b o,b≠d->b≠p->H b=some o->H3 b=some o)/\LS K L d H3) ?_ ?_ ?_
 .exact #[[],_,rfl,k2 p _ hpd aj,rfl,λi hi=>absurd hi (by simp),λb o n1 n2 e=>k2 b o n1 (g0 b o (k1 b o n1 e)),s2]
 .rintro i U H3 hi ⟨ps,x4,rfl,h3,rfl,hT,k3,s3⟩;have ek:(1:Int)+((ps.length:Nat):Int)=((ps.length+1:Nat):Int):=by lia
  rw[ek];refine #[_,rfl,.inl #[rfl,_,SqL.of h3],?_];refine #[_,rfl,_,_,rfl,rfl,_,rfl,_,rfl,d,L,_,rfl,#[by lia,by lia],s3,λv1 H4 v10 v11 k4 s4=>?_];refine #[_,rfl,_,_,rfl,rfl,_,rfl,d,L,2,rfl,by decide,s4,λv2 H5 v20 v21 k5 s5=>#[_,_,rfl,rfl,_,_,rfl,(by show 4<=sizeLine;decide),λl hl=>?_]];have h4:=k4 p _ hpd h3;have h5:=k5 p _ hpd h4;obtain ⟨u,hat,hu⟩:∃ u:Nat,atI [V.int (((ps.length+1:Nat):Int)-1),V.int 0,V.int v1,V.int (if ((ps.length+1:Nat):Int)-1-v2>0 then ((ps.length+1:Nat):Int)-1-v2 else 0)] w1=some (nV u)/\u<=ps.length:=by
   have z:w1=0\/w1=1\/w1=2\/w1=3:=by lia
   rcases z with rfl|rfl|rfl|rfl
   .refine #[ps.length,?_,ai _];rw[show ((ps.length+1:Nat):Int)-1=((ps.length:Nat):Int) by lia];rfl
   .exact #[0,rfl,bG _]
   .obtain ⟨u,rfl⟩:=qS v10;exact #[u,rfl,by lia]
   .refine #[(if ((ps.length+1:Nat):Int)-1-v2>0 then ((ps.length+1:Nat):Int)-1-v2 else 0).toNat,?_,?_]
    .show some (V.int _)=some (V.int _);rw[Int.toNat_of_nonneg (by split<;>lia)]
    .split<;>lia
  refine #[_,rfl,_,_,_,_,rfl,rfl,SqL.of aj,hat,_,_,_,rfl,rfl,by rw[ak (au h5 hl)];exact h5,bt (by rw[cO];lia),?_];refine #[ps++[u],_,rfl,?_,by rw[aV,di],IV hT hu,λb o n1 n2 e=>?_,?_]
  .rw[aj];unfold cy;rw[bo];rfl
  .rw[ak n2];have e5:=k5 b o n1 (k4 b o n1 (k3 b o n1 n2 e));exact (aF hl _) _ _ e5
  .exact LS.put hs hp0 (λb o n1 n2 e=>(aF hl _) _ _ (k5 b o n1 (k4 b o n1 (k3 b o n1 n2 e)))) (s5.of_new hl _)
 .rintro U H3 ⟨ps,x4,rfl,h3,hl,hT,k3,s3⟩;refine #[_,rfl,p,_,rfl,.inl #[SqL.of h3,λt ht=>?_]];have sn:=aF ht (.tup (cy ps));have htp:t≠p:=aT (au h3 ht);have ht0:H t=none:=by
   cases e:H t with
   | none=>rfl
   | some o=>
    have htd:t≠d:=by
     obtain ⟨ns,a,l,e,_⟩:=s3.ex;exact aT (au e ht)
    have:=k3 t o htd htp e;rw[ht]at this;cases this
  exact q t ps _ ht0 hT (by lia) aj (λb o n e=>sn _ _ (k3 b o n (au e hp0) e)) (s3.of_new ht _)
inductive ko (K:Frag)(vs:List V)(H:Hp)(Q:VK)(w_1:XK):Prop
 | c:∀(t:Addr) (ps:List Nat) (k:Nat),vs=[.ref t,.int k]->H t=some (.tup (cy ps))->ps.length<=900->(∀(p:Addr) (H':Hp),H p=none->Same H H'->H' p=some (.lst ((bw ps k (ps.length+1)).map nV))->Q (.ref p) H')->ko K vs H Q w_1
def IX (T:Txt K mg)(wO:DF K mg "children" oH l9):FC P w K mg base 1 "children" l9 (ko K):=by
 refine wO.ok GL (λvs H Q E h=>?_) (λf cdv A outer s H vs Q E hr h=>?_)
 .obtain ⟨t,ps,k,rfl,_⟩:=h;rfl
 obtain ⟨t,ps,k,rfl,ht,hz,q⟩:=h;refine #[_,(av (aL (dY (N:=["other","tree","knot"]) (own:=1) (cap:=[0,1]) rfl (eQ rfl T.c8 (aa (bc (bU (K:=K)) rfl T.bQ bL (aa (pv 0) ae)) ae)) #[rfl,rfl,rfl,rfl,rfl,rfl] (λ_ _ _ _ _=>(aI (i:=0) (show List.Nodup (["other","tree","knot"]:List Str) by decide +kernel) rfl (ar rfl))) (λ_ _ _ _ _=>(gn (aZ c9 (aD (bI (K:=K)) (pv 1) (pv 0) (λ_ _=>rfl)) (pv 2) (bp _)))) (λ_ _ _ _ _=>(pv 0))))),?_];refine #[_,rfl,_,_,rfl,.inr (SqT.of ht),_,rfl,by lia,by rw[cO];lia,λD hD=>?_];have el:((((cy ps).length:Nat):Int)).toNat=ps.length+1:=by rw[cO,fm]
 rw[el];refine iZ (n:=ps.length+1) (λj U H3=>∃ x0:Option V,U=[x0,some (.ref t),some (.int k)]/\H3 D=some (.lst ((bw ps k j).map nV))/\But D H H3) ?_ ?_ ?_
 .exact #[_,rfl,aj,λb o n e=>by rw[ak n];exact e]
 .rintro j m U H3 hm hj ⟨x0,rfl,h3,k3⟩;rw[fb];have h3t:=k3 _ _ (au ht hD) ht;have hlen:=mj ps k j;refine #[_,rfl,_,rfl,_,_,_,_,rfl,rfl,SqT.of h3t,q9 hj,_,rfl,BL _ _ _,_,rfl,?_];refine ite2 (λc=>?_) (λc=>?_)
  .have c':par ps j=some k:=rg.mp (bJ c);refine #[_,rfl,_,h3,bt (by rw[aq];lia),m-1,by lia,by lia,_,rfl,?_,λb o n e=>by rw[ak n];exact k3 b o n e];rw[aj,qP,af c',bo];rfl
  .have c':¬ par ps j=some k:=λz=>c (bg (rg.mpr z));refine #[m-1,by lia,by lia,_,rfl,?_,k3];rw[h3,qP,ag c',bZ]
 .rintro U H3 ⟨x0,rfl,h3,k3⟩;exact q D H3 hD (λb o e=>k3 b o (au e hD) e) h3
inductive vn (K:Frag)(vs:List V)(H:Hp)(Q:VK)(w_1:XK):Prop
 | c:∀(t:Addr) (ps:List Nat) (k:Nat),vs=[.ref t,.int k]->H t=some (.tup (cy ps))->aR ps->k<ps.length+1->ps.length<=900->(∀(p:Addr) (H':Hp),H p=none->Same H H'->H' p=some (.lst ((benL ps k (ps.length+1)).map nV))->Q (.ref p) H')->vn K vs H Q w_1
def IY (T:Txt K mg)(wQ:DF K mg "beneath" oI pV):FC P w K mg base 1 "beneath" pV (vn K):=by
 refine wQ.ok uG (λvs H Q E h=>?_) (λf cdv A outer s H vs Q E hr h=>?_)
 .obtain ⟨t,ps,k,rfl,_⟩:=h;rfl
 obtain ⟨t,ps,k,rfl,ht,hT,hk,hz,q⟩:=h;refine #[_,(ay (aE (i:=2) uG.nd rfl (ar rfl) (dn (aa (pv 1) ae)))
   (ay (bW PassesOwn.never rfl (ly rfl T.c8 (aa (ax bH (pv 1) ah) (aa (bc (bU (K:=K)) rfl T.bQ bL (aa (pv 0) ae)) ae))) (aI (i:=3) uG.nd rfl (ar rfl)) (av (cg (aZ (Fn (K:=K)) (aD (bI (K:=K)) (pv 0) (pv 3) (λ_ _=>rfl)) (pv 2) (by with_unfolding_all rfl)) (av (dR (dU F.plainAttrs_list F.slot_list_append F.type_list_append dD (pv 2) (aa (pv 3) ae)))) cw)))
   (av (aL (pv 2))))),?_]
 refine #[_,rfl,(by show 1<=sizeLine;decide),λp hp=>?_];have k0:But p H (upd H p (.lst [.int (k:Int)])):=λb o n e=>by rw[ak n];exact e
 have ntp:t≠p:=au ht hp;refine #[_,rfl,_,_,rfl,rfl,_,rfl,_,_,rfl,.inr (SqT.of (k0 _ _ ntp ht)),_,_,rfl,#[by lia,by lia,by lia,by rw[cO];lia],?_];have en:((((cy ps).length:Nat):Int)-((k:Int)+1)).toNat=ps.length-k:=by rw[cO];lia
 rw[en];refine fB (n:=ps.length-k) (λi U H3=>∃ x3:Option V,U=[some (.ref t),some (.int k),some (.ref p),x3]/\H3 p=some (.lst ((benL ps k (k+1+i)).map nV))/\But p H H3) ?_ ?_ ?_
 .refine #[_,rfl,?_,k0];rw[aj,gG,HK hT];rfl
 .rintro i U H3 hi ⟨x3,rfl,h3,k3⟩;have ek:(k:Int)+1+(i:Int)=((k+1+i:Nat):Int):=by lia
  rw[ek];have hj:k+1+i<ps.length+1:=by lia
  have hj1:1<=k+1+i:=by lia
  have hjk:k+1+i≠k:=by lia
  have ei:k+1+(i+1)=k+1+i+1:=by lia
  rw[ei];generalize k+1+i=j at h3 hj hj1 hjk ⊢;obtain ⟨u,hu⟩:=u7 hj1 hj;have h3t:=k3 _ _ ntp ht;have hat:=q9 hj;rw[rf hu]at hat;have hlen:=Bs ps k j;refine #[_,rfl,_,rfl,_,_,_,_,rfl,rfl,SqT.of h3t,hat,_,rfl,_,_,rfl,.inl (SqL.of h3),rfl,qT _,_,rfl,?_];show if inV (.int (u:Int)) ((benL ps k j).map nV)=true then _ else _
  rw[qU];have hB:isB ps k j=isB ps k u:=gx hT hjk hu;have hult:=(bA hT hu).1;refine ite2 (λc=>?_) (λc=>?_)
  .have c':isB ps k u=true:=(gV.mp (bJ c)).2;refine #[_,rfl,.inl #[rfl,_,SqL.of h3],_,rfl,_,_,_,rfl,rfl,h3,bt (by rw[aq];lia),?_];refine #[_,rfl,?_,λb o n e=>by rw[ak n];exact k3 b o n e];rw[aj,Br,hB,af c',bo];rfl
  .have c':¬ isB ps k u=true:=λz=>c (bg (gV.mpr #[hult,z]));refine #[_,rfl,?_,k3];rw[h3,Br,hB,ag c',bZ]
 .rintro U H3 ⟨x3,rfl,h3,k3⟩;refine #[_,rfl,?_];rw[show k+1+(ps.length-k)=ps.length+1 by lia]at h3;exact q p H3 hp (λb o e=>k3 b o (au e hp) e) h3
def bX (es:List (Int×Int)):List (Int×Int):=cE es (cn es)
def bO (LH:List (List Int))(k:Nat):List Int:=LH.getD k []
def ownE (LH:List (List Int))(k:Nat):List (Int×Int):=(bO LH k).map λx=>(x,(k:Int))
def kq (ps:List Nat)(LH:List (List Int)):Nat->Nat->List (Int×Int)
 | 0,_=>[]
 | f+1,k=>dE (((bw ps k (ps.length+1)).map λc=>bX (kq ps LH f c)).flatten++ownE LH k)
def BM (T:aR ps):∀ f g k,k<ps.length+1->ps.length+1-k<=f->ps.length+1-k<=g->kq ps LH f k=kq ps LH g k
 | 0,_,k,hk,h,_=>by lia
 | _,0,k,hk,_,h=>by lia
 | f+1,g+1,k,hk,hf,hg=>by
  unfold kq;congr 3;refine sO λc hc=>?_;have h:=cW.mp hc;have:=bA T h.2;show bX _=bX _;rw[BM T f g c h.1 (by lia) (by lia)]
def ab (ps:List Nat)(LH:List (List Int))(k:Nat):List (Int×Int):=kq ps LH (ps.length+1-k) k
def gB (ps:List Nat)(LH:List (List Int))(k:Nat):List (List (Int×Int)):=((bw ps k (ps.length+1)).map λc=>bX (ab ps LH c))++[ownE LH k]
def iz (T:aR ps){k:Nat}(hk:k<ps.length+1):ab ps LH k=dE (gB ps LH k).flatten:=by
 unfold ab gB;obtain ⟨f,hf⟩:∃ f,ps.length+1-k=f+1:=#[ps.length-k,by lia];rw[hf,kq,nC,List.flatten_singleton];congr 3;refine sO λc hc=>?_;have h:=cW.mp hc;have:=bA T h.2;show bX _=bX _;rw[BM T f (ps.length+1-c) c h.1 (by lia) (by lia)];rfl
structure bP (LH:List (List Int)):Prop where
 up:∀ row∈LH,row.Pairwise (· < ·)
 key:∀ row∈LH,∀ x∈row,-(10^60)<x/\x<10^60
def bP.at_up (R:bP LH)(k:Nat):(bO LH k).Pairwise (· < ·):=by
 unfold bO
 rw[aA];cases e:LH[k]? with
 | none=>exact .nil
 | some row=>exact R.up row (cB e)
def bP.at_key (R:bP LH)(k:Nat):∀ x∈bO LH k,-(10^60)<x/\x<10^60:=by
 unfold bO
 rw[aA];cases e:LH[k]? with
 | none=>exact λx hx=>nomatch hx
 | some row=>exact R.key row (cB e)
def BN {α:Type}:∀(es:List α) (ms:List Bool),(cE es ms).Sublist es
 | [],_=>by
  unfold cE;exact List.Sublist.refl _
 | e::es,[]=>by
  unfold cE;exact List.nil_sublist _
 | e::es,m::ms=>by
  have ih:=BN es ms;unfold cE at ih ⊢;cases m with
  | false=>exact List.Sublist.cons e ih
  | true=>exact List.Sublist.cons₂ e ih
def eU (es:List (Int×Int)):(bX es).Sublist es:=BN _ _
def Of (ps:List Nat)(LH:List (List Int))(k:Nat)(e:Int×Int):Prop:=∃ j,j<ps.length+1/\isB ps k j=true/\e.2=(j:Int)/\e.1∈bO LH j
def mG {ps:List Nat}{k:Nat}(hk:k<ps.length+1){e:Int×Int}(h:e∈ownE LH k):Of ps LH k e/\e.2=(k:Int):=by
 obtain ⟨x,hx,rfl⟩:=bC.mp h;exact #[#[k,hk,i5,rfl,hx],rfl]
def BO (R:bP LH)(k:Nat):(ownE LH k).Nodup:=by
 unfold ownE;rw[List.nodup_iff_pairwise_ne,iM];exact List.Pairwise.imp (λ{a b} (h:a < b) z=>by
  have:=congrArg Prod.fst z;have:a=b:=this;lia) (R.at_up k)
def rh (T:aR ps)(R:bP LH):∀(m k:Nat),ps.length+1-k<=m->k<ps.length+1->(∀ e∈ab ps LH k,Of ps LH k e)/\(gB ps LH k).flatten.Nodup
 | 0,k,hm,hk=>by lia
 | m+1,k,hm,hk=>by
  have ih:∀ c,par ps c=some k->(∀ e∈ab ps LH c,Of ps LH c e)/\(ab ps LH c).Nodup:=λc hc=>by
   have:=bA T hc;have q:=rh T R m c (by lia) this.2;refine #[q.1,?_];rw[iz T this.2];exact (jR _).nodup_iff.mpr q.2
  have up:∀{c:Nat} {e:Int×Int},par ps c=some k->Of ps LH c e->Of ps LH k e:=λ{c e} hc h=>by
   obtain ⟨j,h1,h2,h3,h4⟩:=h;exact #[j,h1,(qQ T j j (ai _) h1).mpr (.inr #[c,hc,h2]),h3,h4]
  refine #[λe he=>?_,?_]
  .rw[iz T hk,og]at he;obtain ⟨l,hl,he⟩:=nA.mp he;rcases bj.mp hl with q|q
   .obtain ⟨c,hc,rfl⟩:=bC.mp q;have hp:=(cW.mp hc).2;exact up hp ((ih c hp).1 e ((eU _).mem he))
   .rw[aM.mp q]at he;exact (mG hk he).1
  .show List.Pairwise _ _;unfold gB;rw[List.pairwise_flatten];refine #[λl hl=>?_,?_]
   .rcases bj.mp hl with q|q
    .obtain ⟨c,hc,rfl⟩:=bC.mp q;exact (ih c (cW.mp hc).2).2.sublist (eU _)
    .rw[aM.mp q];exact BO R k
   .rw[cX];refine #[?_,List.pairwise_singleton _ _,?_]
    .rw[iM];refine List.Pairwise.imp_of_mem (λ{c d} hc hd hcd=>?_) (Bu ps k _);intro x hx y hy z;subst z;have pc:=(cW.mp hc).2;have pd:=(cW.mp hd).2;obtain ⟨j,_,h2,h3,_⟩:=(ih c pc).1 x ((eU _).mem hx);obtain ⟨i,_,g2,g3,_⟩:=(ih d pd).1 x ((eU _).mem hy);have:j=i:=by lia
     subst this;exact mn T pc pd (bh hcd) j j (ai _) h2 g2
    .intro l hl l' hl' x hx y hy z;subst z;obtain ⟨c,hc,rfl⟩:=bC.mp hl;rw[aM.mp hl']at hy;have pc:=(cW.mp hc).2;obtain ⟨j,_,h2,h3,_⟩:=(ih c pc).1 x ((eU _).mem hx);have h4:=(mG hk hy).2;have:j=k:=by lia
     subst this;rw[gU T (bA T pc).1]at h2;cases h2
def ku (T:aR ps)(R:bP LH){k:Nat}(hk:k<ps.length+1):∀ e∈ab ps LH k,Of ps LH k e:=(rh T R _ k (ai _) hk).1
def vo (T:aR ps)(R:bP LH){k:Nat}(hk:k<ps.length+1):(ab ps LH k).Nodup:=by
 rw[iz T hk];exact (jR _).nodup_iff.mpr (rh T R _ k (ai _) hk).2
def fj (T:aR ps)(R:bP LH){k:Nat}(hk:k<ps.length+1):Rise (ab ps LH k):=by
 rw[iz T hk];exact t8 (rh T R _ k (ai _) hk).2
def rj (T:aR ps)(R:bP LH)(hz:ps.length<=40){k:Nat}(hk:k<ps.length+1):∀ e∈ab ps LH k,eB 64 e:=λe he=>by
 obtain ⟨j,h1,h2,h3,h4⟩:=ku T R hk e he;have:=R.at_key j _ h4;exact #[this.1,this.2,by lia,by lia]
def wtR (ps:List Nat)(LH:List (List Int))(k:Nat):Nat:=((benL ps k (ps.length+1)).map λj=>(bO LH j).length).sum
def IZ {l m:List Nat}(h:l.Perm m):l.sum=m.sum:=by
 induction h with
 | nil=>rfl
 | cons x _ ih=>rw[dB,dB,ih]
 | swap x y l=>rw[dB,dB,dB,dB];lia
 | trans _ _ h1 h2=>rw[h1,h2]
def BP (f:Nat->Nat):∀(ls:List (List Nat)),(ls.flatten.map f).sum=(ls.map λl=>(l.map f).sum).sum
 | []=>rfl
 | l::ls=>by
  rw[List.flatten_cons,bo,List.sum_append,BP f ls,bS,dB]
def BQ (T:aR ps)(f:Nat->Nat){k:Nat}(hk:k<ps.length+1):((benL ps k (ps.length+1)).map f).sum=f k+((bw ps k (ps.length+1)).map λc=>((benL ps c (ps.length+1)).map f).sum).sum:=by
 have h:=IZ ((HM T hk).map f);rw[bS,dB,BP,hG]at h;exact h.symm
def BR {f g:Nat->Nat}:∀{l:List Nat},(∀ x∈l,f x<=g x)->(l.map f).sum<=(l.map g).sum
 | [],_=>ai _
 | x::l,h=>by
  rw[bS,dB,bS,dB];have h1:=h x bu;have h2:=BR (f:=f) (g:=g) (l:=l) λy hy=>h y (bE _ hy);lia
def BS {α:Type}:∀(ls:List (List α)),ls.flatten.length=(ls.map List.length).sum
 | []=>rfl
 | l::ls=>by
  rw[List.flatten_cons,aV,BS ls,bS,dB]
def I0 (T:aR ps){k:Nat}(hk:k<ps.length+1):(ab ps LH k).length=(bO LH k).length+((bw ps k (ps.length+1)).map λc=>(bX (ab ps LH c)).length).sum:=by
 rw[iz T hk,oh];unfold gB;rw[nC,aV,List.flatten_singleton,BS,hG];unfold ownE;rw[aq,gE];rfl
def BU (T:aR ps):∀(m k:Nat),ps.length+1-k<=m->k<ps.length+1->(ab ps LH k).length<=wtR ps LH k
 | 0,k,hm,hk=>by lia
 | m+1,k,hm,hk=>by
  unfold wtR;rw[I0 T hk,BQ T _ hk];refine cp (BR λc hc=>?_) _;have h:=cW.mp hc;have:=bA T h.2;exact az (eU _).length_le (BU T m c (by lia) h.1)
def BV (f:Nat->Nat)(P:Nat->Bool):∀(l:List Nat),((l.filter P).map f).sum<=(l.map f).sum
 | []=>ai _
 | x::l=>by
  have ih:=BV f P l;rw[bS,dB];by_cases h:P x=true
  .rw[ef h,bS,dB];lia
  .rw[fz h];lia
def cP (LH:List (List Int)):Nat:=(LH.map List.length).sum
def Ja (LH:List (List Int)):((List.range LH.length).map λj=>(bO LH j).length).sum=cP LH:=by
 unfold cP;congr 1;apply f7;intro i;rw[aY,aY];by_cases h:i<LH.length
 .rw[gH h,aw h];show some (bO LH i).length=some LH[i].length;unfold bO
  rw[aA,aw h];rfl
 .rw[d9 (by rw[cv];lia),d9 (by lia)];rfl
def BW {ps:List Nat}{LH:List (List Int)}(hl:LH.length=ps.length+1)(k:Nat):wtR ps LH k<=cP LH:=by
 unfold wtR benL;refine az (BV _ _ _) ?_;rw[<-hl,Ja];exact ai _
def jc (T:aR ps){LH:List (List Int)}(hl:LH.length=ps.length+1){k:Nat}(hk:k<ps.length+1):(ab ps LH k).length<=cP LH:=az (BU T _ k (ai _) hk) (BW hl k)
def bK (H:Hp)(as:List Addr)(LH:List (List Int)):Prop:=Paired (λa row=>H a=some (.tup (row.map V.int))) as LH
def bK.ext {H H':Hp}(e:∀ b o,H b=some o->H' b=some o)(h:bK H as LH):bK H' as LH:=pImp (λ_ _=>e _ _) h
def bK.keep {d p:Addr}{H H':Hp}(hd:∀ a row,H a=some (.tup row)->a≠d)(e:∀ b o,b≠d->H b=some o->H' b=some o)(h:bK H as LH):bK H' as LH:=pImp (λ_ _ h=>e _ _ (hd _ _ h) h) h
def bK.length (h:bK H as LH):as.length=LH.length:=Paired.length h
def bK.get :∀{as:List Addr} {LH:List (List Int)} {k:Nat},bK H as LH->k<LH.length->∃ a,as[k]?=some a/\H a=some (.tup ((bO LH k).map V.int))
 | _,_,_,.nil,hk=>by simp at hk
 | a::as,row::LH,0,.cons h t,_=>#[a,rfl,h]
 | a::as,row::LH,k+1,.cons h t,hk=>by
  obtain ⟨b,h1,h2⟩:=bK.get (k:=k) t (by simpa using hk);refine #[b,by rw[kR];exact h1,?_];have:bO (row::LH) (k+1)=bO LH k:=by
   unfold bO
   rw[aA,aA,kR]
  rw[this];exact h2
def bK.snoc {a:Addr}{row:List Int}(h:bK H as LH)(g:H a=some (.tup (row.map V.int))):bK H (as++[a]) (LH++[row]):=pApp h (.cons g .nil)
structure dH (H:Hp)(st:Addr)(ps:List Nat)(LH:List (List Int))(t rs:Addr)(as:List Addr):Prop where
 st:H st=some (.tup [.ref t,.ref rs])
 tr:H t=some (.tup (cy ps))
 rs:H rs=some (.tup (as.map V.ref))
 at_:bK H as LH
 len:LH.length=ps.length+1
 T:aR ps
 R:bP LH
 few:ps.length<=40
 keys:cP LH<=400
def dH.same {st t rs:Addr}(S:dH H st ps LH t rs as)(e:Same H H'):dH H' st ps LH t rs as:=
 #[e _ _ S.st,e _ _ S.tr,e _ _ S.rs,S.at_.ext e,S.len,S.T,S.R,S.few,S.keys]
def d4 {as:List Addr}{k:Nat}{a:Addr}(h:as[k]?=some a):atI (as.map V.ref) (k:Int)=some (.ref a):=cI (by rw[aY,h];rfl)
def BX {α:Type}{l:List α}(h:l.Nodup):l.reverse.Nodup:=(List.reverse_perm l).nodup_iff.mpr h
def jd (K:Frag)(H:Hp)(ps:List Nat)(LH:List (List Int))(j:Nat)(q:Addr):Prop:=∃ ws,H q=some (.lst ws)/\aB K H (ab ps LH j) ws
def bq (K:Frag)(H:Hp)(ps:List Nat)(LH:List (List Int)):List Nat->List Addr->Prop:=Paired (jd K H ps LH)
def jd.same {K:Frag}(h:jd K H ps LH j q)(e:Same H H'):jd K H' ps LH j q:=by
 obtain ⟨ws,h1,h2⟩:=h;exact #[ws,e _ _ h1,h2.mono e.ext]
def bq.same {K:Frag}(e:Same H H'){js:List Nat}{qs:List Addr}(h:bq K H ps LH js qs):bq K H' ps LH js qs:=pImp (λ_ _ h=>jd.same h e) h
def bq.ext {K:Frag}(e:Ext H H'){js:List Nat}{qs:List Addr}(h:bq K H ps LH js qs):bq K H' ps LH js qs:=pImp (λ_ _ h=>by
  obtain ⟨ws,a1,a2⟩:=h;exact #[ws,e _ _ a1 nofun,a2.mono e]) h
def bq.length {K:Frag}{js:List Nat}{qs:List Addr}(h:bq K H ps LH js qs):js.length=qs.length:=Paired.length h
def bq.snoc {K:Frag}{js:List Nat}{qs:List Addr}(h:bq K H ps LH js qs)(g:jd K H ps LH j q):bq K H ps LH (js++[j]) (qs++[q]):=pApp h (.cons g .nil)
def bq.get {K:Frag}:∀{js:List Nat} {qs:List Addr} {i j:Nat},bq K H ps LH js qs->js[i]?=some j->∃ q,qs[i]?=some q/\jd K H ps LH j q
 | _,_,i,j,.nil,h=>by simp at h
 | _::_,q::_,0,j,.cons h t,e=>by
  have:=aK (show some _=some j from e);subst this;exact #[q,rfl,h]
 | _::_,_::_,i+1,j,.cons h t,e=>by
  obtain ⟨q,h1,h2⟩:=bq.get (i:=i) t (by simpa using e);exact #[q,by simpa using h1,h2]
def bq.rev {K:Frag}{js:List Nat}{qs:List Addr}(h:bq K H ps LH js qs):bq K H ps LH js.reverse qs.reverse:=by
 unfold bq at h
 induction h with
 | nil=>exact .nil
 | cons h _ ih=>
  rw[nv,nv];exact bq.snoc ih h
def bq.alloc {K:Frag}:∀{js:List Nat} {qs:List Addr},bq K H ps LH js qs->∀ q∈qs,∃ ws,H q=some (.lst ws)
 | _,_,.nil=>λq hq=>nomatch hq
 | _::_,_::_,.cons h t=>λq hq=>by
  rcases aX.mp hq with e|e
  .obtain ⟨ws,h1,_⟩:=h;exact #[ws,e ▸ h1]
  .exact bq.alloc t q e
abbrev kN (j:Nat):Key:=Sum.inl (j:Int)
def dI:List Nat->List Addr->List (Key×V)
 | j::js,q::qs=>(kN j,.ref q)::dI js qs
 | _,_=>[]
def BY :∀{js:List Nat} {qs:List Addr},j∉js->valV (dI js qs) (kN j)=none
 | [],_,_=>rfl
 | _::_,[],_=>rfl
 | i::js,q::qs,h=>by
  have h1:¬ kN i=kN j:=λz=>h (by
   have:=Int.ofNat.inj (Sum.inl.inj z);rw[this];exact bu)
  show valV ((kN i,V.ref q)::dI js qs) (kN j)=none;rw[fF h1];exact BY λz=>h (bE _ z)
def vp {q:Addr}:∀{js:List Nat} {qs:List Addr} {i:Nat},js.Nodup->js[i]?=some j->qs[i]?=some q->valV (dI js qs) (kN j)=some (.ref q)
 | [],_,_,_,h,_=>by simp at h
 | _::_,[],_,_,_,h=>by simp at h
 | a::js,b::qs,0,_,h1,h2=>by
  have:=aK (show some a=some j from h1);subst this;have:=aK (show some b=some q from h2);subst this;exact ij (p:=(kN a,V.ref b)) rfl
 | a::js,b::qs,i+1,hn,h1,h2=>by
  have g1:js[i]?=some j:=by simpa using h1
  have hne:¬ kN a=kN j:=λz=>by
   have e:=Int.ofNat.inj (Sum.inl.inj z);exact (dN.mp hn).1 (e ▸ cB g1)
  show valV ((kN a,V.ref b)::dI js qs) (kN j)=_;rw[fF hne];exact vp (dN.mp hn).2 g1 (by simpa using h2)
def BZ {q:Addr}:∀{js:List Nat} {qs:List Addr},js.length=qs.length->dI (js++[j]) (qs++[q])=dI js qs++[(kN j,.ref q)]
 | [],[],_=>rfl
 | [],_::_,h=>by cases h
 | _::_,[],h=>by cases h
 | a::js,b::qs,h=>by
  show (kN a,V.ref b)::dI (js++[j]) (qs++[q])=(kN a,V.ref b)::(dI js qs++[(kN j,V.ref q)]);rw[BZ (Nat.succ.inj h)]
def Jb {j:Nat}{q:Addr}{js:List Nat}{qs:List Addr}(hl:js.length=qs.length)(h:j∉js):putK (dI js qs) (kN j) (.ref q)=dI (js++[j]) (qs++[q]):=by
 rw[lF _ (BY h),BZ hl]
def B1:∀{js:List Nat} {qs:List Addr},js.length=qs.length->(dI js qs).length=js.length
 | [],[],_=>rfl
 | [],_::_,h=>by cases h
 | _::_,[],h=>by cases h
 | a::js,b::qs,h=>by
  show (dI js qs).length+1=js.length+1;rw[B1 (Nat.succ.inj h)]
def Jc {l:List Nat}(h:l.Pairwise (· > ·)){i j c:Nat}(hj:l[i]?=some j)(hc:c∈l)(hcj:j<c):c∈l.take i:=by
 obtain ⟨u,hu,rfl⟩:=dQ hc;obtain ⟨hi,rfl⟩:=aN.mp hj;have:u<i:=by
  refine eW λz=>?_;by_cases e:i=u
  .subst e;lia
  .have:=cM.mp h i u hi hu (by lia);lia
 rw[List.mem_iff_getElem?];exact #[u,by rw[jx,af this,aw hu]]
def Jd (T:aR ps){k c:Nat}(h:isB ps k j=true)(hc:par ps c=some j):isB ps k c=true:=by
 by_cases e:c=k
 .rw[e];exact i5
 .rw[gx T e hc];exact h
inductive vq (K:Frag)(vs:List V)(H:Hp)(Q:VK)(w_1:XK):Prop
 | c:∀(st:Addr) (ps:List Nat) (LH:List (List Int)) (t rs:Addr) (as:List Addr) (j:Nat),vs=[.ref st,.int j]->dH H st ps LH t rs as->j<ps.length+1->(∀(D:Addr) (us:List V) (H':Hp),H D=none->Same H H'->H' D=some (.lst us)->aB K H' (ownE LH j) us->Q (.ref D) H')->vq K vs H Q w_1
def Je (T:Txt K mg)(wR:DF K mg "own_entries" oJ pW):FC P w K mg base 1 "own_entries" pW (vq K):=by
 refine wR.ok GM (λvs H Q E h=>?_) (λf cdv A outer s H vs Q E hr h=>?_)
 .obtain ⟨st,ps,LH,t,rs,as,k,rfl,_⟩:=h;rfl
 obtain ⟨st,ps,LH,t,rs,as,j,rfl,S4,hjn,q⟩:=h;refine #[_,(av (aL (dY (N:=["key","knot"]) (own:=1) (cap:=[1]) rfl (gL (aD (bI (K:=K)) (aD (bI (K:=K)) (pv 0) ah (λ_ _=>rfl)) (pv 1) (λ_ _=>rfl))) #[rfl,rfl,rfl,rfl,rfl,rfl] (λ_ _ _ _ _=>(aI (i:=0) (show List.Nodup (["key","knot"]:List Str) by decide +kernel) rfl (ar rfl))) (λ_ _ _ _ _=>eR) (λ_ _ _ _ _=>(cN (aa (pv 0) (aa (pv 1) ae))))))),?_];obtain ⟨a,ha1,ha4⟩:=S4.at_.get (k:=j) (by rw[S4.len];exact hjn);have hkeys:=S4.keys;refine #[_,rfl,_,_,_,_,rfl,rfl,SqT.of S4.st,rfl,_,rfl,_,_,_,_,rfl,rfl,SqT.of S4.rs,d4 ha1,a,rfl,#[_,SqT.of ha4],λD3 hD3=>?_];refine lT (xs:=(bO LH j).map V.int) (λm U H5=>∃(us:List V) (x0:Option V),U=[x0,some (.int j)]/\H5 D3=some (.lst us)/\aB K H5 ((ownE LH j).take m) us/\But D3 H H5) ?_ ?_ ?_ ?_
 .exact #[[],_,rfl,aj,.nil,λb o n e=>by rw[ak n];exact e]
 .rintro m U H5 _ ⟨us,x0,rfl,_,_,k5⟩;exact SqT.of (k5 _ _ (au ha4 hD3) ha4)
 .rintro m r x U H5 hx hm ⟨us,x0,rfl,h5,hw5,k5⟩;rw[aY]at hx;obtain ⟨y,hy,rfl⟩:=eV.mp hx;have hlow:=(aN.mp hy).1;have htk3:(ownE LH j).take (m+1)=(ownE LH j).take m++[(y,(j:Int))]:=by
   unfold ownE;rw[<-hZ,<-hZ,cH hlow,bo];rw[(aN.mp hy).2];rfl
  have hul:=hw5.length;rw[aW]at hul;rw[aq]at hm;have hrl:(bO LH j).length<=cP LH:=by
   have:=BW S4.len (k:=j) (ps:=ps);have e2:wtR ps LH j=(bO LH j).length+_:=BQ S4.T _ hjn;lia
  refine gq ?_;refine #[_,rfl,_,rfl,(by show 2<=sizeLine;decide),λu hu=>?_];have su:=aF hu (.tup [.int y,.int (j:Int)]);have h6:=su _ _ h5;have hut:upd H5 u (.tup [.int y,.int (j:Int)]) u=some (.tup [.int y,.int (j:Int)]):=aj;have k6:=k5.new' hu (.tup [.int y,.int (j:Int)]);have hw6:=hw5.mono su.ext;generalize upd H5 u (.tup [.int y,.int (j:Int)])=H6 at su h6 hut k6 hw6 ⊢;refine #[_,h6,bt (by lia),r-1,by lia,by rw[aq];lia,us++[.ref u],_,rfl,aj,?_,λb o n e=>by rw[ak n];exact k6 b o n e];rw[htk3];exact (dG h6 hw6).append (dG h6 (.cons #[u,.int y,.int (j:Int),rfl,hut,rfl,rfl] .nil))
 .rintro U H5 ⟨us,x0,rfl,h5,hw5,k5⟩;rw[aq,bx (by unfold ownE;rw[aq];exact ai _)]at hw5;exact q D3 us H5 hD3 (λx o e=>k5 x o (au e hD3) e) h5 hw5
inductive vt (K:Frag)(vs:List V)(H:Hp)(Q:VK)(w_1:XK):Prop
 | c:∀(st:Addr) (ps:List Nat) (LH:List (List Int)) (t rs:Addr) (as:List Addr) (k:Nat),vs=[.ref st,.int k]->dH H st ps LH t rs as->k<ps.length+1->(∀(D:Addr) (qs:List Addr) (H':Hp),H D=none->Same H H'->H' D=some (.dK (dI (benL ps k (ps.length+1)).reverse qs))->qs.Nodup->(∀ q∈qs,H q=none)->bq K H' ps LH (benL ps k (ps.length+1)).reverse qs->Q (.ref D) H')->vt K vs H Q w_1
def Jf (T:Txt K mg)(wU:DF K mg "full_rows_beneath" oK pX)(KJ:FC P w K mg base 1 "beneath" pV (vn K))(wV:FC P w K mg base 1 "children" l9 (ko K))(KL:FC P w K mg base 6 "handed" pU (vg K))(KM:FC P w K mg base 1 "own_entries" pW (vq K))(KN:FC P w K mg base 1 "joined_up" pN (vk K)):FC P w K mg base 7 "full_rows_beneath" pX (vt K):=by
 refine wU.ok lZ (λvs H Q E h=>?_) (λf cdv A outer s H vs Q E hr h=>?_)
 .obtain ⟨st,ps,LH,t,rs,as,k,rfl,_⟩:=h;rfl
 obtain ⟨st,ps,LH,t,rs,as,k,rfl,S,hk,q⟩:=h;refine #[_,(ay (aE (i:=2) lZ.nd rfl (ar rfl) (aD (bI (K:=K)) (pv 0) ah (λ_ _=>rfl)))
   (ay (aE (i:=3) lZ.nd rfl (dh rfl) yR)
   (ay (bW PassesOwn.never rfl (Fs rfl T.Kt (aa (aG KJ hr (aa (pv 2) (aa (pv 1) ae))) ae)) (aI (i:=4) lZ.nd rfl (ar rfl)) (ay (iY (i:=5) (N:=["child","told"]) (own:=1) (cap:=[3]) lZ.nd rfl rfl rfl (dS (aG wV hr (aa (pv 2) (aa (pv 4) ae)))) #[rfl,rfl,rfl,rfl,rfl,rfl] (λ_ _ _ _ _=>(aI (i:=0) (show List.Nodup (["child","told"]:List Str) by decide +kernel) rfl (ar rfl))) (λ_ _ _ _ _=>eR) (λ_ _ _ _ _=>(aG KL hr (aa (gO (dW hr) (pv 1) (pv 0) (λ_ _=>rfl)) ae))))
   (ay (dR (dU F.plainAttrs_list F.slot_list_append F.type_list_append dD (pv 5) (aa (aG KM hr (aa (pv 0) (aa (pv 4) ae))) ae)))
   (av (jK (dW hr) (pv 3) (pv 4) (aG KN hr (aa (pv 5) ae)) rfl)))))
   (av (aL (pv 3)))))),?_]
 refine #[_,rfl,_,_,_,_,rfl,rfl,SqT.of S.st,rfl,λD hD=>?_];have s0:=aF hD (.dK []);have hD0:upd H D (.dK []) D=some (.dK []):=aj;generalize upd H D (.dK [])=H0 at s0 hD0 ⊢;refine #[_,rfl,_,rfl,t,ps,k,rfl,s0 _ _ S.tr,S.T,hk,by have:=S.few;lia,λb H1 hb s1 h1=>?_];refine #[b,_,rfl,SqL.of h1,?_];have hup:=u9 ps k (ps.length+1);have hmem:=λj=>gV (ps:=ps) (k:=k) (n:=ps.length+1) (j:=j);have hbl:=Bs ps k (ps.length+1);generalize benL ps k (ps.length+1)=bs at h1 q hup hmem hbl ⊢;have hdn:bs.reverse.Pairwise (· > ·):=by
  rw[List.pairwise_reverse];exact hup
 have hnd:bs.reverse.Nodup:=List.Pairwise.imp (λ{a b} (q:a>b)=>iE q) hdn;refine Ft (xs:=bs.map nV) (λi U H2=>∃(qs:List Addr) (x5 x6:Option V),U=[some (.ref st),some (.int k),some (.ref t),some (.ref D),x5,x6]/\H2 D=some (.dK (dI (bs.reverse.take i) qs))/\qs.Nodup/\(∀ q∈qs,H q=none)/\bq K H2 ps LH (bs.reverse.take i) qs/\H2 b=some (.lst (bs.map nV))/\But D H H2) ?_ ?_ ?_ ?_
 .exact #[[],_,_,rfl,s1 _ _ hD0,gD,(λq hq=>nomatch hq),.nil,h1,λx o _ e=>s1 _ _ (s0 _ _ e)]
 .rintro i U H2 _ ⟨qs,x5,x6,rfl,_,_,_,_,h2b,_⟩;exact SqL.of h2b
 .rintro i x U H2 hx ⟨qs,x5,x6,rfl,h2,hqn,hqf,hF,h2b,k2⟩;rw[<-List.map_reverse]at hx;obtain ⟨hi,hxe⟩:=my hx;have hji:bs.reverse[i]?=some (bs.reverse.getD i 0):=by
   rw[aA,aw hi];rfl
  subst hxe;have htk:bs.reverse.take (i+1)=bs.reverse.take i++[bs.reverse.getD i 0]:=by
   rw[cH hi,aA,aw hi];rfl
  rw[htk];generalize bs.reverse.getD i 0=j at hji htk ⊢;have hjm:j∈bs:=kW.mp (cB hji);obtain ⟨hjn,hjB⟩:=(hmem j).mp hjm;have hjnot:j∉bs.reverse.take i:=λz=>by
   have hnd':=hnd;rw[<-eX (i+1) bs.reverse,htk]at hnd';have:=(fO.mp hnd').1;exact (fO.mp this).2.2 j z j (aM.mpr rfl) rfl
  have noD:∀{p:Addr} {o:HO},H p=some o->p≠D:=λ{p o} e=>au e hD;have S2:dH H2 st ps LH t rs as:=#[k2 _ _ (noD S.st) S.st,k2 _ _ (noD S.tr) S.tr,k2 _ _ (noD S.rs) S.rs,bK.keep (p:=D) (d:=D) (λa row e=>noD e) k2 S.at_,S.len,S.T,S.R,S.few,S.keys];have hkeys:=S.keys;have hfew:=S.few;refine #[_,rfl,_,rfl,t,ps,j,rfl,S2.tr,by lia,λc H3 hc s3 h3=>?_];refine #[c,rfl,#[_,SqL.of h3],λD2 hD2=>?_];have hcmem:=λm=>cW (ps:=ps) (k:=j) (n:=ps.length+1) (j:=m);have hcl:=mj ps j (ps.length+1);have hparts:gB ps LH j=((bw ps j (ps.length+1)).map λc=>bX (ab ps LH c))++[ownE LH j]:=rfl;generalize bw ps j (ps.length+1)=cs at h3 hcmem hcl hparts ⊢;have h3D:=s3 _ _ h2;have nDD2:D≠D2:=au h3D hD2;have F3:bq K H3 ps LH (bs.reverse.take i) qs:=hF.same s3;refine fT (xs:=cs.map nV) (λm U H4=>∃(gs:List Addr) (x0:Option V),U=[x0,some (.ref D)]/\H4 D2=some (.lst (gs.map V.ref))/\Own K H4 gs ((cs.take m).map λc=>bX (ab ps LH c))/\D2∉gs/\But D2 H3 H4) ?_ ?_ ?_ ?_
  .exact #[[],_,rfl,aj,.nil,nofun,λb o n e=>by rw[ak n];exact e]
  .rintro m U H4 _ ⟨gs,x0,rfl,_,_,_,k4⟩;exact k4.sq (SqL.of h3) hD2
  .rintro m r x U H4 hx hm ⟨gs,x0,rfl,h4,hO,hg,k4⟩;obtain ⟨hmi,rfl⟩:=my hx;have hcm:cs[m]?=some (cs.getD m 0):=by
    rw[aA,aw hmi];rfl
   have htk2:cs.take (m+1)=cs.take m++[cs.getD m 0]:=by
    rw[cH hmi,aA,aw hmi];rfl
   rw[htk2];generalize cs.getD m 0=ch at hcm ⊢;obtain ⟨hchn,hchp⟩:=(hcmem ch).mp (cB hcm);have hlt:=(bA S.T hchp).1;have hin:ch∈bs.reverse.take i:=Jc hdn hji (kW.mpr ((hmem ch).mpr #[hchn,Jd S.T hjB hchp])) hlt;obtain ⟨u,hu,hue⟩:=dQ hin;have hu2:(bs.reverse.take i)[u]?=some ch:=by rw[aw hu,hue]
   obtain ⟨qq,hq1,ws,hq2,hq3⟩:=F3.get hu2;have hnd2:(bs.reverse.take i).Nodup:=hnd.sublist (List.take_sublist _ _);have hv:=vp hnd2 hu2 hq1;have k4D:=k4 _ _ nDD2 h3D;have hq4:=k4 _ _ (au hq2 hD2) hq2;have hq5:aB K H4 (ab ps LH ch) ws:=by
    have key:∀{es:List (Int×Int)} {vs:List V},aB K H3 es vs->aB K H4 es vs:=by
     intro es vs hh
     induction hh with
     | nil=>exact .nil
     | cons a _ ih=>
      obtain ⟨b,x1,x2,rfl,q,e1,e2⟩:=(show hasP K H3 _ _ from a);exact .cons #[b,x1,x2,rfl,k4 _ _ (au q hD2) q,e1,e2] ih
    exact key hq3
   have hlen:=jc S.T S.len (LH:=LH) hchn;refine gq ?_;have hdg:DGet H4 D (.int (ch:Int)) (some (.ref qq)):=by
    rw[<-hv];exact DGet.k (k:=kN ch) k4D
   refine #[_,rfl,_,rfl,D,_,rfl,hdg,?_];refine #[qq,ws,ab ps LH ch,rfl,hq4,hq5,by lia,rj S.T S.R hfew hchn,fj S.T S.R hchn,λg H5 hg5 s5 h5=>?_];have hgl:=hO.length;rw[aq,aW]at hgl;have h5D2:=s5 _ _ h4;have ngD2:D2≠g:=au h4 hg5;rw[aq]at hm;refine #[_,h5D2,bt (by rw[aq];lia),r-1,by lia,by rw[aq];lia,gs++[g],_,rfl,?_,?_,?_,λx o n e=>by rw[ak n];exact s5 _ _ (k4 x o n e)]
   .rw[aj,bo];rfl
   .rw[bo];refine Own.other h5D2 (Own.append (hO.ext s5.ext) (.cons #[_,h5,?_] .nil)) ?_
    .exact BG (hq5.mono s5.ext)
    .intro z;rcases bj.mp z with z|z
     .exact hg z
     .exact ngD2 (aM.mp z)
   .intro z;rcases bj.mp z with z|z
    .exact hg z
    .exact ngD2 (aM.mp z)
  .rintro U H4 ⟨gs,x0,rfl,h4,hO,hg,k4⟩;rw[aq,bx (ai _)]at hO;have hgl:=hO.length;rw[aq]at hgl;have s34:Same H3 H4:=λx o e=>k4 x o (au e hD2) e;have s24:Same H2 H4:=s3.trans s34;have S4:=S2.same s24;refine #[_,rfl,.inl #[rfl,_,SqL.of h4],_,rfl,_,rfl,st,ps,LH,t,rs,as,j,rfl,S4,hjn,λD3 us H5 hD3 s45 h5 hw5=>?_];have h5D2:=s45 _ _ h4;have n23:D2≠D3:=au h4 hD3;refine #[_,_,_,rfl,rfl,h5D2,bt (by rw[aq];lia),?_];have O5:Own K H5 (gs++[D3]) (gB ps LH j):=by
    rw[hparts];exact Own.append (hO.ext s45.ext) (.cons #[us,h5,hw5] .nil)
   have nin:D2∉gs++[D3]:=λz=>by
    rcases bj.mp z with z|z
    .exact hg z
    .exact n23 (aM.mp z)
   have O6:=O5.other (o:=.lst (gs.map V.ref++[.ref D3])) h5D2 nin;have h6:upd H5 D2 (.lst (gs.map V.ref++[.ref D3])) D2=some (.lst ((gs++[D3]).map V.ref)):=by
    rw[aj,bo];rfl
   have k26:∀ x o,H2 x=some o->upd H5 D2 (.lst (gs.map V.ref++[.ref D3])) x=some o:=λx o e=>by
    rw[ak (au (s3 _ _ e) hD2)];exact s45 _ _ (s24 _ _ e)
   generalize upd H5 D2 (.lst (gs.map V.ref++[.ref D3]))=H6 at O6 h6 k26 ⊢;have hfl:(gB ps LH j).flatten.length<=1000:=by
    have:=jc S.T S.len (LH:=LH) hjn;rw[iz S.T hjn,oh]at this;lia
   refine #[_,rfl,D2,gs++[D3],gB ps LH j,rfl,h6,O6,hfl,λp ws H7 hp s7 h7 hw7=>?_];rw[<-iz S.T hjn]at hw7;have s27:Same H2 H7:=λx o e=>s7 _ _ (k26 x o e);have h7D:=s27 _ _ h2;have hql:=hF.length;have hpD:p≠D:=aT (au (k26 _ _ h2) hp);refine #[_,rfl,_,rfl,D,_,rfl,DPut.k (k:=kN j) h7D (bt (by rw[B1 hql,aW,lh];lia)),?_];rw[Jb hql hjnot];have e78:Ext H7 (upd H7 D (.dK (dI (bs.reverse.take i++[j]) (qs++[p])))):=λx o e n=>by
    rw[ak (λz=>by
     rw[z,h7D]at e;cases e
     exact n _ rfl)]
    exact e
   have F8:bq K (upd H7 D (.dK (dI (bs.reverse.take i++[j]) (qs++[p])))) ps LH (bs.reverse.take i++[j]) (qs++[p]):=by
    exact bq.ext e78 (bq.snoc (hF.same s27) #[ws,h7,hw7])
   refine #[qs++[p],_,_,rfl,aj,?_,?_,F8,?_,λx o n e=>?_]
   .rw[fO];refine #[hqn,dN.mpr #[nofun,gD],λa ha b hb z=>?_];rw[aM.mp hb]at z;subst z;obtain ⟨ws',hws⟩:=hF.alloc a ha;have:=k26 _ _ hws;rw[hp]at this;cases this
   .intro x hx;rcases bj.mp hx with z|z
    .exact hqf x z
    .rw[aM.mp z];cases e:H p with
     | none=>rfl
     | some o=>
      have:=k26 _ _ (k2 p o hpD e);rw[hp]at this;cases this
   .rw[ak (λz=>by rw[z,h2]at h2b;cases h2b)]
    exact s27 _ _ h2b
   .rw[ak n];exact s27 _ _ (k2 x o n e)
 .rintro U H2 ⟨qs,x5,x6,rfl,h2,hqn,hqf,hF,h2b,k2⟩;refine #[_,rfl,?_];rw[aq,bx (by rw[lh];exact ai _)]at h2 hF;exact q D qs H2 hD (λx o e=>k2 x o (au e hD) e) h2 hqn hqf hF
inductive vw (K:Frag)(vs:List V)(H:Hp)(Q:VK)(w_1:XK):Prop
 | c:∀(st:Addr) (ps:List Nat) (LH:List (List Int)) (t rs:Addr) (as:List Addr),vs=[.ref st]->dH H st ps LH t rs as->(∀(p:Addr) (qs:List Addr) (H':Hp),H p=none->Same H H'->H' p=some (.lst (qs.map V.ref))->qs.Nodup->(∀ q∈qs,H q=none)->p∉qs->bq K H' ps LH (List.range (ps.length+1)) qs->Q (.ref p) H')->vw K vs H Q w_1
def Jg {n i:Nat}(h:i<n):(List.range n).reverse[n-1-i]?=some i:=by
 rw[sM (by rw[cv];lia),cv,gH (by lia)];congr 1;lia
def Jh (T:Txt K mg)(wW:DF K mg "full_rows" oM pY)(KO:FC P w K mg base 7 "full_rows_beneath" pX (vt K)):FC P w K mg base 8 "full_rows" pY (vw K):=by
 refine wW.ok AN (λvs H Q E h=>?_) (λf cdv A outer s H vs Q E hr h=>?_)
 .obtain ⟨st,ps,LH,t,rs,as,rfl,_⟩:=h;rfl
 obtain ⟨st,ps,LH,t,rs,as,rfl,S,q⟩:=h;refine #[_,(ay (aE (i:=1) AN.nd rfl (dh rfl) (aG KO hr (aa (pv 0) (aa ah ae))))
   (av (aL (dY (N:=["knot","told"]) (own:=1) (cap:=[1]) rfl (eQ rfl T.c8 (aa (bc (bU (K:=K)) rfl T.bQ bL (aa (aD (bI (K:=K)) (pv 0) ah (λ_ _=>rfl)) ae)) ae)) #[rfl,rfl,rfl,rfl,rfl,rfl] (λ_ _ _ _ _=>(aI (i:=0) (show List.Nodup (["knot","told"]:List Str) by decide +kernel) rfl (ar rfl))) (λ_ _ _ _ _=>eR) (λ_ _ _ _ _=>(gO (dW hr) (pv 1) (pv 0) (λ_ _=>rfl))))))),?_]
 refine #[_,rfl,st,ps,LH,t,rs,as,0,rfl,S,by lia,λD qs H1 hD s1 h1 hqn hqf hF=>?_];rw[HL S.T]at h1 hF;have S1:=S.same s1;have hfew:=S.few;have hql:=hF.length;rw[lh,cv]at hql;refine #[_,rfl,_,_,_,_,rfl,rfl,SqT.of S1.st,rfl,_,_,rfl,.inr (SqT.of S1.tr),_,rfl,by lia,by rw[cO];lia,λp hp=>?_];have el:((((cy ps).length:Nat):Int)).toNat=ps.length+1:=by rw[cO,fm]
 rw[el];refine iZ (n:=ps.length+1) (λi U H2=>∃ x0:Option V,U=[x0,some (.ref D)]/\H2 p=some (.lst ((qs.reverse.take i).map V.ref))/\But p H1 H2) ?_ ?_ ?_
 .exact #[_,rfl,aj,λb o n e=>by rw[ak n];exact e]
 .rintro i m U H2 hm hi ⟨x0,rfl,h2,k2⟩;rw[fb];have hi2:i<qs.reverse.length:=by rw[lh];lia
  have hq1:qs[ps.length+1-1-i]?=some qs.reverse[i]:=by
   have:=sM (l:=qs) (i:=i) (by lia);rw[aw hi2]at this;rw[this];congr 1;lia
  have hv:=vp (BX List.nodup_range) (Jg hi) hq1;have h2D:=k2 _ _ (au h1 hp) h1;have hdg:DGet H2 D (.int (i:Int)) (some (.ref qs.reverse[i])):=by
   rw[<-hv];exact DGet.k (k:=kN i) h2D
  refine gq ?_;refine #[_,rfl,_,rfl,D,_,rfl,hdg,?_];refine #[_,h2,bt (by rw[aq,aW];lia),m-1,by lia,by lia,_,rfl,?_,λb o n e=>by rw[ak n];exact k2 b o n e];rw[aj,cH hi2,bo];rfl
 .rintro U H2 ⟨x0,rfl,h2,k2⟩;rw[bx (by rw[lh];lia)]at h2;have s2:Same H1 H2:=λb o e=>k2 b o (au e hp) e;have F2:=(hF.same s2).rev;rw[sI]at F2;refine q p qs.reverse H2 ?_ (s1.trans s2) h2 (BX hqn) (λx hx=>hqf x (kW.mp hx)) (λz=>?_) F2
  .cases e:H p with
   | none=>rfl
   | some o=>
    have:=s1 _ _ e;rw[hp]at this;cases this
  .obtain ⟨ws,hws⟩:=hF.alloc p (kW.mp z);rw[hp]at hws;cases hws
def kx (x:Key):Prop:=∃ a:Int,x=.inl a/\-(10^60)<a/\a<10^60
def toI:Key->Int
 | .inl a=>a
 | _=>0
def Ji {kvs:List (Key×V)}{v:V}(h1:(kvs.map (·.1)).Nodup)(h2:∀ y∈kvs.map (·.1),kx y)(hx:kx x):((putK kvs x v).map (·.1)).Nodup/\∀ y∈(putK kvs x v).map (·.1),kx y:=by
 rw[Ib];split
 .exact #[h1,h2]
 .rename_i c;refine #[?_,λy hy=>?_]
  .rw[fO];refine #[h1,dN.mpr #[nofun,gD],λa ha b hb z=>?_];rw[aM.mp hb]at z;subst z;obtain ⟨p,hp,e⟩:=bC.mp ha;exact c (List.any_eq_true.mpr #[p,hp,bg e])
  .rcases bj.mp hy with z|z
   .exact h2 y z
   .rw[aM.mp z];exact hx
def B2:∀{l:List Key},(∀ y∈l,kx y)->l.map kV=(l.map toI).map V.int
 | [],_=>rfl
 | x::l,h=>by
  obtain ⟨a,rfl,_⟩:=h x bu;show V.int a::l.map kV=V.int a::(l.map toI).map V.int;rw[B2 λy hy=>h y (bE _ hy)]
def B3:∀{l:List Key},l.Nodup->(∀ y∈l,kx y)->(l.map toI).Nodup
 | [],_,_=>gD
 | x::l,hn,h=>by
  rw[bS,dN];have hc:=dN.mp hn;refine #[λz=>?_,B3 hc.2 λy hy=>h y (bE _ hy)];obtain ⟨y,hy,e⟩:=bC.mp z;obtain ⟨a,rfl,_⟩:=h x bu;obtain ⟨b,rfl,_⟩:=h y (bE _ hy);have:b=a:=e;subst this;exact hc.1 hy
inductive vx (K:Frag)(vs:List V)(H:Hp)(Q:VK)(w_1:XK):Prop
 | c:∀(d L:Addr) (m:Int),vs=[.ref d,.int m]->(0<=m/\m<=40)->LS K L d H->(∀(a:Addr) (row:List Int) (H':Hp),H a=none->row.Pairwise (· < ·)->(∀ x∈row,-(10^60)<x/\x<10^60)->(row.length:Int)<=m->H' a=some (.tup (row.map V.int))->Keep d H H'->LS K L d H'->Q (.ref a) H')->vx K vs H Q w_1
def Jj (T:Txt K mg)(wX:DF K mg "_law_row" oZ qi)(bR:FC P w K mg base 2 "_law_take" gw (gP K))(wY:FC P w K mg base 3 "_law_key" ma (qR K)):FC P w K mg base 4 "_law_row" qi (vx K):=by
 refine wX.ok uJ (λvs H Q E h=>?_) (λf cdv A outer s H vs Q E hr h=>?_)
 .obtain ⟨d,L,m,rfl,_⟩:=h;rfl
 obtain ⟨d,L,m,rfl,⟨hm0,hm1⟩,hs,q⟩:=h;refine #[_,(ay (aE (i:=2) uJ.nd rfl (ar rfl) yR)
   (ay (bW PassesOwn.never rfl (eQ rfl T.c8 (aa (aG bR hr (aa (pv 0) (aa (ax bH (pv 1) ah) ae))) ae)) (aI (i:=3) uJ.nd rfl (ar rfl)) (av (jK (dW hr) (pv 2) (aG wY hr (aa (pv 0) ae)) dC rfl)))
   (av (aL (ff (oo (K:=K)) rfl T.mO boot_tuple (aa (bc (oi Int) rfl T.rK boot_sorted (aa (ff (Fv rfl) rfl T.jh boot_list (aa (pv 2) ae)) ae)) ae)))))),?_]
 intro g hg;have ngd:g≠d:=λz=>by
  obtain ⟨_,_,_,e,_⟩:=hs.ex;rw[<-z,hg]at e;cases e
 refine #[_,rfl,_,rfl,_,_,rfl,rfl,d,L,m+1,rfl,#[by lia,by lia],hs.of_new hg _,λn H1 n0 n1 k1 s1=>#[_,rfl,by lia,by lia,?_]];refine fB (n:=n.toNat) (λi U H2=>∃(kvs:List (Key×V)) (x3:Option V),U=[some (.ref d),some (.int m),some (.ref g),x3]/\H2 g=some (.dK kvs)/\kvs.length<=i/\(kvs.map (·.1)).Nodup/\(∀ y∈kvs.map (·.1),kx y)/\(∀ b o,b≠d->b≠g->H b=some o->H2 b=some o)/\LS K L d H2) ?_ ?_ ?_
 .exact #[[],_,rfl,k1 g _ ngd aj,ai _,gD,λy hy=>(by simp at hy),λb o b1 b2 e=>k1 b o b1 (by rw[ak b2];exact e),s1]
 .rintro i U H2 hi ⟨kvs,x3,rfl,h2,hl,hn,hy,kk,s2⟩;refine #[_,rfl,_,rfl,d,L,rfl,s2,λv H3 v0 v1 k3 s3=>?_];have h3:H3 g=some (.dK kvs):=k3 g _ ngd h2;obtain ⟨p1,p2⟩:=Ji (v:=.bl true) hn hy (x:=.inl v) #[v,rfl,v0,v1];refine #[g,_,rfl,DPut.k (k:=.inl v) (kvs:=kvs) h3 (bt (by lia)),?_];refine #[putK kvs (.inl v) (.bl true),_,rfl,aj,?_,p1,p2,?_,?_]
  .have:=nN kvs (Sum.inl v:Key) (.bl true);lia
  .intro b o b1 b2 e;rw[ak b2];exact k3 b o b1 (kk b o b1 b2 e)
  .exact LS.put hs hg (λb o b1 b2 e=>k3 b o b1 (kk b o b1 b2 e)) s3
 .rintro U H2 ⟨kvs,x3,rfl,h2,hl,hn,hy,kk,s2⟩;refine #[_,rfl,g,kvs,rfl,h2,λl hl1=>?_];have ei:kvs.map (λkv=>kV kv.1)=((kvs.map (·.1)).map toI).map V.int:=by
   rw[<-B2 hy,hG];rfl
  rw[ei];have e1:=aF hl1 (.lst (((kvs.map (·.1)).map toI).map V.int));refine #[l,_,_,rfl,SqL.of aj,aB.ints,λl2 ws hl2 hw=>?_];rw[hw.toInts];have e2:=aF hl2 (.lst ((dE ((kvs.map (·.1)).map toI)).map V.int));refine #[l2,_,rfl,.inl #[SqL.of aj,λa ha=>?_]];have e3:=aF ha (.tup ((dE ((kvs.map (·.1)).map toI)).map V.int));have e13:=e1.trans (e2.trans e3);have free:H a=none:=by
   have z2:H2 a=none:=e1.free (e2.free ha);cases z:H a with
   | none=>rfl
   | some o=>
    by_cases c1:a=d
    .obtain ⟨_,_,_,e,_⟩:=s2.ex;rw[<-c1,z2]at e;cases e
    .by_cases c2:a=g
     .rw[c2,h2]at z2;cases z2
     .rw[kk a o c1 c2 z]at z2;cases z2
  refine q a _ _ free ?_ (λx hx=>?_) ?_ aj (λb o b1 e=>e13 _ _ (kk b o b1 (au e hg) e)) (s2.same e13)
  .exact List.Pairwise.imp (λ{a b} (h:Srt.blt a b=true)=>bJ h) (t8 (B3 hn hy))
  .rw[og]at hx;obtain ⟨y,hy2,rfl⟩:=bC.mp hx;obtain ⟨a,rfl,h1,h2⟩:=hy y hy2;exact #[h1,h2]
  .rw[oh,aq,aq];lia
inductive vy (K:Frag)(vs:List V)(H:Hp)(Q:VK)(w_1:XK):Prop
 | c:∀(d L:Addr) (n m:Nat),vs=[.ref d,.int n,.int m]->n<=40->m<=40->LS K L d H->(∀(r:Addr) (as:List Addr) (LH:List (List Int)) (H':Hp),H r=none->bK H' as LH->LH.length=n->bP LH->(∀ row∈LH,row.length<=m)->H' r=some (.tup (as.map V.ref))->Keep d H H'->LS K L d H'->Q (.ref r) H')->vy K vs H Q w_1
def bP.snoc {row:List Int}(R:bP LH)(h1:row.Pairwise (· < ·))(h2:∀ x∈row,-(10^60)<x/\x<10^60):bP (LH++[row]):=by
 refine #[λr hr=>?_,λr hr=>?_]
 .rcases bj.mp hr with z|z
  .exact R.up r z
  .rw[aM.mp z];exact h1
 .rcases bj.mp hr with z|z
  .exact R.key r z
  .rw[aM.mp z];exact h2
def Jk (T:Txt K mg)(wZ:DF K mg "_law_rows" o4 qj)(bR:FC P w K mg base 2 "_law_take" gw (gP K))(KP:FC P w K mg base 4 "_law_row" qi (vx K)):FC P w K mg base 5 "_law_rows" qj (vy K):=by
 refine wZ.ok j6 (λvs H Q E h=>?_) (λf cdv A outer s H vs Q E hr h=>?_)
 .obtain ⟨d,L,n,m,rfl,_⟩:=h;rfl
 obtain ⟨d,L,n,m,rfl,hn,hm,hs,q⟩:=h;refine #[_,(ay (aE (i:=3) j6.nd rfl (ar rfl) (dn ae))
   (ay (bW PassesOwn.never rfl (eQ rfl T.c8 (aa (pv 1) ae)) (aI (i:=4) j6.nd rfl (ar rfl)) (ay (aE (i:=5) j6.nd rfl (ar rfl) (aG KP hr (aa (pv 0) (aa (pv 2) ae))))
   (fG (cg (aZ c9 (aG bR hr (aa (pv 0) (aa ah ae))) ah (bp _)) (av (aE (i:=5) j6.nd rfl (ar rfl) (cN ae))) cw)
   (fG (cg (PW.pt (iR (aZ lA (pv 4) ah (bp _)) (iQ (aZ c9 (aG bR hr (aa (pv 0) (aa ah ae))) ah (bp _))))) (av (aE (i:=5) j6.nd rfl (ar rfl) (aD (aQ (K:=K)) (pv 3) (ax c4 (pv 4) ah) (λ_ _=>rfl)))) cw)
   (av (dR (dU F.plainAttrs_list F.slot_list_append F.type_list_append dD (pv 3) (aa (pv 5) ae))))))))
   (av (aL (ff (oo (K:=K)) rfl T.mO boot_tuple (aa (pv 3) ae)))))),?_]
 refine #[(by show 0<=sizeLine;decide),λp hp=>?_];have g0:=aF hp (.lst []);have ndT:∀{H':Hp} {a:Addr} {o:List V},LS K L d H'->H' a=some (.tup o)->a≠d:=λ{H' a o} s e z=>by
  obtain ⟨_,_,_,e2,_⟩:=s.ex;rw[<-z,e]at e2;cases e2
 have nd:∀{H':Hp} {a:Addr},LS K L d H'->H' a=none->a≠d:=λ{H' a} s e z=>by
  obtain ⟨_,_,_,e2,_⟩:=s.ex;rw[<-z,e]at e2;cases e2
 have hpd:p≠d:=nd hs hp;refine #[_,rfl,_,rfl,by lia,by lia,?_];rw[fm];refine fB (n:=n) (λi U H2=>∃(as:List Addr) (LH:List (List Int)) (x4 x5:Option V),U=[some (.ref d),some (.int n),some (.int m),some (.ref p),x4,x5]/\H2 p=some (.lst (as.map V.ref))/\bK H2 as LH/\LH.length=i/\bP LH/\(∀ row∈LH,row.length<=m)/\(∀ b o,b≠d->b≠p->H b=some o->H2 b=some o)/\LS K L d H2) ?_ ?_ ?_
 .exact #[[],[],_,_,rfl,aj,.nil,rfl,#[(λr hr=>nomatch hr),(λr hr=>nomatch hr)],(λr hr=>nomatch hr),λb o _ n e=>g0 b o e,hs.same g0]
 .rintro i U H2 hi ⟨as,LH,x4,x5,rfl,h2,hA,hl,hR,hlen,k2,s2⟩;rw[fb];have hal:=hA.length;have old:∀{H3:Hp} {b:Addr} {o:HO},(∀ b o,b≠d->H2 b=some o->H3 b=some o)->b≠d->b≠p->H b=some o->H3 b=some o:=λk n1 n2 e=>k _ _ n1 (k2 _ _ n1 n2 e);refine #[_,rfl,_,rfl,d,L,m,rfl,#[by lia,by lia],s2,λa row H3 ha hup hky hlr h3 k3 s3=>?_];refine #[λU' H'=>∃(a:Addr) (row:List Int),U'=[some (.ref d),some (.int n),some (.int m),some (.ref p),some (.int i),some (.ref a)]/\H' a=some (.tup (row.map V.int))/\row.Pairwise (· < ·)/\(∀ x∈row,-(10^60)<x/\x<10^60)/\row.length<=m/\(∀ b o,b≠d->H2 b=some o->H' b=some o)/\LS K L d H',?_,?_]
  .refine #[_,rfl,d,L,4,rfl,by decide,s3,λv H4 _ _ k4 s4=>#[rfl,_,rfl,?_]];have h4:=k4 _ _ (ndT s3 h3) h3;refine ite2 (λ_=>?_) (λ_=>?_)
   .refine #[(by show 0<=sizeLine;decide),λu hu=>?_];have su:=aF hu (.tup []);exact #[u,[],rfl,aj,.nil,(λx hx=>nomatch hx),bG _,λb o n1 e=>su _ _ (k4 _ _ n1 (k3 _ _ n1 e)),s4.same su]
   .exact #[a,row,rfl,h4,hup,hky,by lia,λb o n1 e=>k4 _ _ n1 (k3 _ _ n1 e),s4]
  rintro U' H4 ⟨a,row,rfl,h4,hup,hky,hlr,k4,s4⟩;refine #[λU' H'=>∃(a:Addr) (row:List Int),U'=[some (.ref d),some (.int n),some (.int m),some (.ref p),some (.int i),some (.ref a)]/\H' a=some (.tup (row.map V.int))/\row.Pairwise (· < ·)/\(∀ x∈row,-(10^60)<x/\x<10^60)/\row.length<=m/\(∀ b o,b≠d->H2 b=some o->H' b=some o)/\LS K L d H',?_,?_]
  .refine #[_,rfl,_,_,rfl,rfl,_,rfl,?_];refine ite2 (λc=>?_) (λc=>?_)
   .have c':(0:Int)<(i:Int):=bJ c;refine #[_,rfl,d,L,4,rfl,by decide,s4,λv H5 _ _ k5 s5=>#[rfl,_,rfl,?_]];have h5:=k5 _ _ (ndT s4 h4) h4;refine ite2 (λ_=>?_) (λ_=>?_)
    .have h5p:H5 p=some (.lst (as.map V.ref)):=k5 _ _ hpd (k4 _ _ hpd h2);obtain ⟨b,hb1,hb2⟩:=hA.get (k:=i-1) (by lia);have hb5:=k5 _ _ (ndT s4 (k4 _ _ (ndT s2 hb2) hb2)) (k4 _ _ (ndT s2 hb2) hb2);have hat:atI (as.map V.ref) ((i:Int)-1)=some (.ref b):=by
      rw[show (i:Int)-1=((i-1:Nat):Int) by lia];exact d4 hb1
     refine #[_,rfl,_,rfl,_,_,rfl,rfl,_,_,_,_,rfl,rfl,SqL.of h5p,hat,?_];have hmem:bO LH (i-1)∈LH:=by
      unfold bO
      rw[aA,aw (show i-1<LH.length by lia)];exact cG _
     exact #[b,bO LH (i-1),rfl,hb5,hR.up _ hmem,hR.key _ hmem,hlen _ hmem,λb o n1 e=>k5 _ _ n1 (k4 _ _ n1 e),s5]
    .exact #[a,row,rfl,h5,hup,hky,hlr,λb o n1 e=>k5 _ _ n1 (k4 _ _ n1 e),s5]
   .refine iteF ?_;exact #[a,row,rfl,h4,hup,hky,hlr,k4,s4]
  rintro U' H5 ⟨a,row,rfl,h5,hup,hky,hlr,k5,s5⟩;have h5p:H5 p=some (.lst (as.map V.ref)):=k5 _ _ hpd h2;have keep:∀ b o,b≠p->H5 b=some o->upd H5 p (.lst (as.map V.ref++[.ref a])) b=some o:=λb o n e=>by rw[ak n];exact e
  have ntp:∀{b:Addr} {o:List V},H5 b=some (.tup o)->b≠p:=λ{b o} e z=>by
   rw[z,h5p]at e;cases e
  refine #[_,rfl,.inl #[rfl,_,SqL.of h5p],_,rfl,_,_,_,rfl,rfl,h5p,bt (by rw[aq];lia),?_];refine #[as++[a],LH++[row],_,_,rfl,?_,?_,by rw[aV,di,hl],hR.snoc hup hky,λr hr=>?_,λb o n1 n2 e=>keep _ _ n2 (k5 _ _ n1 (k2 _ _ n1 n2 e)),?_]
  .rw[aj,bo];rfl
  .refine bK.snoc ?_ (keep _ _ (ntp h5) h5);have hA5:bK H5 as LH:=bK.keep (p:=d) (λa row e=>ndT s2 e) k5 hA;exact bK.keep (p:=p) (d:=p) (λa row e=>ntp e) keep hA5
  .rcases bj.mp hr with z|z
   .exact hlen r z
   .rw[aM.mp z];exact hlr
  .exact LS.put hs hp (λb o n1 n2 e=>k5 _ _ n1 (k2 _ _ n1 n2 e)) s5
 .rintro U H2 ⟨as,LH,x4,x5,rfl,h2,hA,hl,hR,hlen,k2,s2⟩;refine #[_,rfl,p,_,rfl,.inl #[SqL.of h2,λt ht=>?_]];have sn:=aF ht (.tup (as.map V.ref));have ht0:H t=none:=by
   cases e:H t with
   | none=>rfl
   | some o=>
    have:=k2 t o (nd s2 ht) (aT (au h2 ht)) e;rw[ht]at this;cases this
  exact q t as LH _ ht0 (hA.ext sn) hl hR hlen aj (λb o n e=>sn _ _ (k2 b o n (au e hp) e)) (s2.same sn)
abbrev En:=Int×Int
def dJ (k:Nat)(es:List En):Nat:=(es.filter λe=>decide (e.2=(k:Int))).length
def fX (k:Nat)(es:List En):List Nat:=(List.range (es.length+1)).map λp=>dJ k (es.take p)
def rl (cs:List En)(s:Nat)(e:En):Nat:=if e∈cs then cs.idxOf e+1 else s
def stN (cs es:List En):Nat:=es.foldl (rl cs) 0
def fK (es cs:List En):List Nat:=(List.range (es.length+1)).map λp=>stN cs (es.take p)
def inN (cs es:List En):Nat:=(es.filter λe=>decide (e∈cs)).length
def B5 (h:Rise l):l.Nodup:=List.Pairwise.imp (λ{a b} (q:pLt a b=true) z=>by
 subst z;have:=gp.mp q;lia) h
def vz (h1:Rise l)(h2:Rise m)(h:∀ e,e∈l↔e∈m):l=m:=by
 refine List.Perm.eq_of_pairwise (le:=λa b=>pLt a b=true) (λa b _ _ q1 q2=>?_) h1 h2 ((List.perm_ext_iff_of_nodup (B5 h1) (B5 h2)).mpr h);have:=gp.mp q1;have:=gp.mp q2;lia
def mH (T:aR ps){k:Nat}(hk:k<ps.length+1){e:En}:e∈ab ps LH k↔e∈ownE LH k\/∃ c,par ps c=some k/\e∈bX (ab ps LH c):=by
 rw[iz T hk,og,nA];unfold gB;constructor
 .rintro ⟨l,hl,he⟩;rcases bj.mp hl with q|q
  .obtain ⟨c,hc,rfl⟩:=bC.mp q;exact .inr #[c,(cW.mp hc).2,he]
  .rw[aM.mp q]at he;exact .inl he
 .rintro (h|⟨c,hc,h⟩)
  .exact #[_,bj.mpr (.inr (aM.mpr rfl)),h]
  .exact #[_,bj.mpr (.inl (bC.mpr #[c,cW.mpr #[(bA T hc).2,hc],rfl])),h]
def Jl (T:aR ps)(R:bP LH){k c:Nat}(hk:k<ps.length+1)(hc:par ps c=some k){e:En}:(e∈ab ps LH k/\e∈ab ps LH c)↔e∈bX (ab ps LH c):=by
 have hcn:=(bA T hc).2;constructor
 .rintro ⟨h1,h2⟩;obtain ⟨j,g1,g2,g3,_⟩:=ku T R hcn e h2;rcases (mH T hk).mp h1 with h|⟨d,hd,h⟩
  .have h4:=(mG hk h).2;have:j=k:=by lia
   subst this;rw[gU T (bA T hc).1]at g2;cases g2
  .by_cases z:d=c
   .rw[z]at h;exact h
   .obtain ⟨i,_,f2,f3,_⟩:=ku T R (bA T hd).2 e ((eU _).mem h);have:i=j:=by lia
    subst this;exact (mn T hd hc z i i (ai _) f2 g2).elim
 .intro h;exact #[(mH T hk).mpr (.inr #[c,hc,h]),(eU _).mem h]
def B6 (T:aR ps)(R:bP LH){k c:Nat}(hk:k<ps.length+1)(hc:par ps c=some k):((ab ps LH k).filter λe=>decide (e∈ab ps LH c))=bX (ab ps LH c):=by
 refine vz (List.Pairwise.filter _ (fj T R hk)) ((fj T R (bA T hc).2).sublist (eU _)) λe=>?_;rw[eD,decide_eq_true_eq];exact Jl T R hk hc
def Jm {l:List En}{p:Nat}(h:p<l.length):l.take (p+1)=l.take p++[l[p]]:=cH h
def Jn (k:Nat)(es:List En)(e:En):dJ k (es++[e])=dJ k es+if e.2=(k:Int) then 1 else 0:=by
 unfold dJ;rw[cZ,aV];congr 1;by_cases h:e.2=(k:Int)
 .rw[af h,ef (by exact bg h)];rfl
 .rw[ag h,fz (by rw[bD h];decide)];rfl
def Jo (cs es:List En)(e:En):inN cs (es++[e])=inN cs es+if e∈cs then 1 else 0:=by
 unfold inN;rw[cZ,aV];congr 1;by_cases h:e∈cs
 .rw[af h,ef (by exact bg h)];rfl
 .rw[ag h,fz (by rw[bD h];decide)];rfl
def B7 (cs es:List En)(e:En):stN cs (es++[e])=if e∈cs then cs.idxOf e+1 else stN cs es:=by
 unfold stN;rw[List.foldl_append];rfl
def spL (es:List En):List Nat:=(List.range es.length).filter λj=>(cn es).getD j false
def rm (es:List En):dF (cn es) (spL es):=by
 have:=Hu (cn es);rw[jb]at this;exact this
def B8 {es:List En}{ms:List Bool}(hl:es.length=ms.length):∀ i,i<=ms.length->cE (es.take i) (ms.take i)=((List.range i).filter λj=>ms.getD j false).map λj=>es.getD j (0,0)
 | 0,_=>rfl
 | i+1,h=>by
  have ft:((List.range (i+1)).filter λj=>ms.getD j false)=((List.range i).filter λj=>ms.getD j false)++(if ms.getD i false=true then [i] else []):=by
   rw[fP,cZ];congr 1;by_cases h:ms.getD i false=true
   .rw[af h,ef (p:=λj=>ms.getD j false) (a:=i) h];rfl
   .rw[ag h,fz (p:=λj=>ms.getD j false) (a:=i) h];rfl
  rw[qZ (show i<es.length by lia),qZ (show i<ms.length by lia),vi (by rw[aW,aW];lia),B8 hl i (by lia),ft,bo];congr 1;have e:ms.getD i false=ms[i]'(by lia):=by
   rw[aA,aw (show i<ms.length by lia)];rfl
  rw[e];split
  .rw[List.map_singleton,aA,aw (show i<es.length by lia)];rfl
  .rfl
def B9 (es:List En):bX es=(spL es).map λj=>es.getD j (0,0):=by
 have hl:=jb es;have:=B8 (es:=es) (ms:=cn es) hl.symm (cn es).length (ai _);rw[bx (ai _),bx (by lia),hl]at this;exact this
def stAt (sp:List Nat)(t:Nat):Nat:=if t=0 then 0 else sp.getD (t-1) 0+1
def Jp {l:List En}(h:l.Nodup){j:Nat}(hj:j<l.length):l.idxOf (l.getD j (0,0))=j:=by
 rw[aA,aw hj];exact List.Nodup.idxOf_getElem h j hj
def Jq {P:En->Bool}:∀(l:List En) (p:Nat),(l.take p).filter P=(l.filter P).take ((l.take p).filter P).length:=by
 intro l p;have e:l.filter P=(l.take p).filter P++(l.drop p).filter P:=by rw[<-cZ,eX]
 rw[e,List.take_append_of_le_length (ai _),bx (ai _)]
def Ca (T:aR ps)(R:bP LH){k c:Nat}(hk:k<ps.length+1)(hc:par ps c=some k):∀ p,p<=(ab ps LH k).length->stN (ab ps LH c) ((ab ps LH k).take p)=stAt (spL (ab ps LH c)) (inN (ab ps LH c) ((ab ps LH k).take p))
 | 0,_=>rfl
 | p+1,h=>by
  have ih:=Ca T R hk hc p (by lia);have hp:p<(ab ps LH k).length:=by lia
  have hft:=Jq (P:=λe=>decide (e∈ab ps LH c)) (ab ps LH k) (p+1);rw[B6 T R hk hc]at hft;rw[Jm hp]at hft ⊢;rw[B7,Jo];by_cases z:(ab ps LH k)[p]∈ab ps LH c
  .rw[af z,af z];unfold stAt;rw[ag (by lia),iL];congr 1;rw[cZ,ef (by exact bg z),nD,aV,di]at hft;have hin:((ab ps LH k).take p |>.filter λe=>decide (e∈ab ps LH c)).length=inN (ab ps LH c) ((ab ps LH k).take p):=rfl;generalize inN (ab ps LH c) ((ab ps LH k).take p)=t at hin ⊢;have hg:(bX (ab ps LH c))[t]?=some (ab ps LH k)[p]:=by
    have h2:(((ab ps LH k).take p |>.filter λe=>decide (e∈ab ps LH c))++[(ab ps LH k)[p]])[t]?=some (ab ps LH k)[p]:=by
     rw[eF (by lia),hin,iK];rfl
    rw[hft,jx]at h2;split at h2
    .exact h2
    .cases h2
   rw[B9,aY]at hg;obtain ⟨j,hj,he⟩:=eV.mp hg;have hjl:j<(ab ps LH c).length:=by
    have:=(rm (ab ps LH c)).lt (cB hj);rw[jb]at this;exact this
   rw[<-he,Jp (vo T R (bA T hc).2) hjl,aA,hj];rfl
  .rw[ag z,ag z,gG];exact ih
def Jr {es:List En}(he:∀ e∈es,eB 64 e)(hri:Rise es){t:Nat}(ht:t<(spL es).length):stAt (spL es) (t+1)=stAt (spL es) t+2\/stAt (spL es) (t+1)=stAt (spL es) t+3:=by
 have M:=BC he hri;have S:=rm es;have g:∀ i (h:i<(spL es).length),(spL es).getD i 0=(spL es)[i]:=λi h=>by
  rw[aA,aw h];rfl
 unfold stAt;rw[ag (by lia),iL];by_cases z:t=0
 .subst z;rw[af rfl,g 0 ht];have hlen:2<=(cn es).length:=by
   refine cf λy=>?_;have:=S.none M (by lia);rw[this]at ht;simp at ht
  obtain ⟨_,h1,h2⟩:=S.first M hlen;lia
 .rw[ag z,g t ht,g (t-1) (by lia)];have:=S.step M (t:=t-1) (by lia);have e:t-1+1=t:=by lia
  have e2:(spL es)[t-1+1]'(by lia)=(spL es)[t]:=by congr 1
  rw[e2]at this;lia
def Js {es:List En}(he:∀ e∈es,eB 64 e)(hri:Rise es):stAt (spL es) (spL es).length<=es.length/\es.length<=stAt (spL es) (spL es).length+1:=by
 have M:=BC he hri;have S:=rm es;have hl:=jb es;unfold stAt;by_cases z:(spL es).length=0
 .rw[af z];refine #[bG _,?_];refine cf λy=>?_;obtain ⟨h,_⟩:=S.first M (by lia);lia
 .have g:(spL es).getD ((spL es).length-1) 0=(spL es)[(spL es).length-1]'(by lia):=by
   rw[aA,aw (by lia)];rfl
  rw[ag z,g];have h1:=S.lt (cG (show (spL es).length-1<(spL es).length by lia));refine #[by lia,?_];have hlen:2<=(cn es).length:=cf λy=>z (by rw[S.none M y];rfl);have h2:=S.last M hlen (by lia);lia
def kz {f:Nat->Nat}{i:Nat}:((List.range (i+1)).map f).map nV=(((List.range i).map f)++[f i]).map nV:=by
 rw[fP,bo];rfl
def vA {us:List Nat}:atI ((us++[c]).map nV) (-1)=some (nV c):=by
 unfold atI ixN;rw[bo];simp;rw[af (by lia)];show (List.map nV us++[nV c])[(-1+((us.length:Int)+1)).toNat]?=_;rw[show (-1+((us.length:Int)+1)).toNat=us.length by lia,eF (by rw[aq];exact ai _),aq,iK];rfl
inductive vB (K:Frag)(vs:List V)(H:Hp)(Q:VK)(w_1:XK):Prop
 | c:∀(a:Addr) (ws:List V) (es:List En) (k:Nat),vs=[.ref a,.int k]->H a=some (.lst ws)->aB K H es ws->es.length<=900->(∀(p:Addr) (H':Hp),H p=none->Same H H'->H' p=some (.lst ((fX k es).map nV))->Q (.ref p) H')->vB K vs H Q w_1
def Jt (T:Txt K mg)(w9:DF K mg "owns_of" oN pZ):FC P w K mg base 1 "owns_of" pZ (vB K):=by
 refine w9.ok uH (λvs H Q E h=>?_) (λf cdv A outer s H vs Q E hr h=>?_)
 .obtain ⟨a,ws,es,k,rfl,_⟩:=h;rfl
 obtain ⟨a,ws,es,k,rfl,ha,hw,hz,q⟩:=h;have hwl:=hw.length;refine #[_,(ay (aE (i:=2) uH.nd rfl (ar rfl) (dn (aa ah ae)))
   (ay (bW PassesOwn.never rfl (dS (pv 0)) (aI (i:=3) uH.nd rfl (ar rfl)) (av (dR (dU F.plainAttrs_list F.slot_list_append F.type_list_append dD (pv 2) (aa (xK (aZ c9 (aD (bI (K:=K)) (pv 3) ah (λ_ _=>rfl)) (pv 1) (bp _)) (ax bH (aD (aQ (K:=K)) (pv 2) (fc fe ah) (λ_ _=>rfl)) ah) (aD (aQ (K:=K)) (pv 2) (fc fe ah) (λ_ _=>rfl))) ae)))))
   (av (aL (pv 2))))),?_]
 refine #[(by show 1<=sizeLine;decide),λp hp=>?_];have k0:But p H (upd H p (.lst [V.int 0])):=λb o n e=>by rw[ak n];exact e
 have nap:a≠p:=au ha hp;refine #[_,rfl,a,rfl,#[_,SqL.of (k0 _ _ nap ha)],?_];refine lz (xs:=ws) (λi U H2=>∃ x3:Option V,U=[some (.ref a),some (.int k),some (.ref p),x3]/\H2 p=some (.lst (((List.range (i+1)).map λp=>dJ k (es.take p)).map nV))/\But p H H2) ?_ ?_ ?_ ?_
 .exact #[_,rfl,aj,k0]
 .rintro i U H2 _ ⟨x3,rfl,_,k2⟩;exact SqL.of (k2 _ _ nap ha)
 .rintro i x U H2 hx ⟨x3,rfl,h2,k2⟩;obtain ⟨e,he,hhas⟩:=hw.get hx;obtain ⟨b,y1,y2,rfl,hb,hy1,hy2⟩:=(show hasP K H e x from hhas);have hy1:y1=.int e.1:=hy1;have hy2:y2=.int e.2:=hy2;subst hy1 hy2;have h2b:=k2 _ _ (au hb hp) hb;have hi:=(aN.mp he).1;have htk:es.take (i+1)=es.take i++[e]:=by
   rw[cH hi,(aN.mp he).2]
  have hon:=Jn k (es.take i) e;rw[<-htk]at hon;rw[kz]at h2;have hlen:((((List.range i).map λp=>dJ k (es.take p))++[dJ k (es.take i)]).map nV).length < sizeLine:=bt (by
   rw[aq,aV,aq,cv,di];lia)
  have fin:∀ v:Nat,v=dJ k (es.take (i+1))->upd H2 p (.lst ((((List.range i).map λp=>dJ k (es.take p))++[dJ k (es.take i)]).map nV++[nV v])) p=some (.lst (((List.range (i+1+1)).map λp=>dJ k (es.take p)).map nV)):=λv hv=>by
   rw[aj,kz,bo (l₂:=[dJ k (es.take (i+1))]),kz,hv];rfl
  refine #[_,rfl,.inl #[rfl,_,SqL.of h2],?_];refine #[_,rfl,_,_,_,_,rfl,rfl,SqT.of h2b,rfl,_,rfl,rfl,_,rfl,?_];refine ite2 (λc=>?_) (λc=>?_)
  .have c':e.2=(k:Int):=V.int.inj (bJ c);rw[af c']at hon;refine #[_,rfl,_,rfl,_,_,_,_,rfl,rfl,SqL.of h2,vA,_,_,rfl,rfl,_,_,_,rfl,rfl,h2,hlen,?_];refine #[_,rfl,?_,λb o n e=>by rw[ak n];exact k2 b o n e];have:=fin (dJ k (es.take i)+1) hon.symm;rw[<-this];rfl
  .have c':¬ e.2=(k:Int):=λz=>c (by rw[z];exact bg rfl);rw[ag c',gG]at hon;refine #[_,rfl,_,rfl,_,_,_,_,rfl,rfl,SqL.of h2,vA,_,_,_,rfl,rfl,h2,hlen,?_];exact #[_,rfl,fin _ hon.symm,λb o n e=>by rw[ak n];exact k2 b o n e]
 .rintro U H2 ⟨x3,rfl,h2,k2⟩;refine #[_,rfl,?_];rw[<-hwl]at h2;exact q p H2 hp (λb o e=>k2 b o (au e hp) e) h2
def kvT:Nat->List En->List (List Key×V)
 | _,[]=>[]
 | o,e::es=>([.inl e.1,.inl e.2],nV (o+1))::kvT (o+1) es
abbrev kE (e:En):List Key:=[.inl e.1,.inl e.2]
def Ju (h:kE e=kE f):e=f:=by
 obtain ⟨a,b⟩:=e;obtain ⟨c,d⟩:=f;injection h with h1 h2;injection h2 with h2 _;have h1:a=c:=Sum.inl.inj h1;have h2:b=d:=Sum.inl.inj h2;rw[h1,h2]
def vC (e:En):∀(o:Nat) (es:List En),valV (kvT o es) (kE e)=if e∈es then some (nV (o+es.idxOf e+1)) else none
 | _,[]=>rfl
 | o,f::es=>by
  show valV ((kE f,nV (o+1))::kvT (o+1) es) (kE e)=_;by_cases z:f=e
  .subst z;rw[ij rfl,af bu,List.idxOf_cons_self]
  .rw[fF (λy=>z (Ju y)),vC e (o+1) es];have hm:(e∈f::es)=(e∈es):=propext #[λh=>(aX.mp h).resolve_left λy=>z y.symm,λh=>bE _ h];by_cases y:e∈es
   .have ei:(f::es).idxOf e=es.idxOf e+1:=by
     rw[List.idxOf_cons,beq_false_of_ne z];rfl
    rw[af y,af (by rw[hm];exact y),ei];congr 2;have:o+1+es.idxOf e+1=o+(es.idxOf e+1)+1:=by lia
    rw[this]
   .rw[ag y,ag (by rw[hm];exact y)]
def Cb (e:En):∀(o:Nat) (es:List En),kvT o (es++[e])=kvT o es++[(kE e,nV (o+es.length+1))]
 | _,[]=>rfl
 | o,f::es=>by
  show (kE f,nV (o+1))::kvT (o+1) (es++[e])=(kE f,nV (o+1))::(kvT (o+1) es++_);rw[Cb e (o+1) es,cR,show o+1+es.length+1=o+(es.length+1)+1 by lia]
def Cc:∀(o:Nat) (es:List En),(kvT o es).length=es.length
 | _,[]=>rfl
 | o,e::es=>by
  show (kvT (o+1) es).length+1=es.length+1;rw[Cc (o+1) es]
inductive vD (K:Frag)(vs:List V)(H:Hp)(Q:VK)(w_1:XK):Prop
 | c:∀(a c:Addr) (ws vs':List V) (es cs:List En),vs=[.ref a,.ref c]->H a=some (.lst ws)->aB K H es ws->es.length<=900->H c=some (.lst vs')->aB K H cs vs'->cs.length<=900->cs.Nodup->(∀(p:Addr) (H':Hp),H p=none->Same H H'->H' p=some (.lst ((fK es cs).map nV))->Q (.ref p) H')->vD K vs H Q w_1
def Jv (T:Txt K mg)(xa:DF K mg "starts_of" oO p7):FC P w K mg base 1 "starts_of" p7 (vD K):=by
 refine xa.ok jZ (λvs H Q E h=>?_) (λf cdv A outer s H vs Q E hr h=>?_)
 .obtain ⟨a,c,ws,us,es,cs,rfl,_⟩:=h;rfl
 obtain ⟨a,c,ws,us,es,cs,rfl,ha,hw,hz,hc,hu,hzc,hnd,q⟩:=h;have hwl:=hw.length;have hul:=hu.length;refine #[_,(ay (aE (i:=2) jZ.nd rfl (ar rfl) Eb)
   (ay (bW PassesOwn.never rfl (tW rfl T.we (aa (pv 1) ae)) (fR rfl (cD (aI (i:=3) jZ.nd rfl (ar rfl)) (cD (aI (i:=4) jZ.nd rfl (ar rfl)) fA))) (av (jK (dW hr) (pv 2) (pv 4) (ax bH (pv 3) ah) rfl)))
   (ay (aE (i:=5) jZ.nd rfl (ar rfl) (dn (aa ah ae)))
   (ay (bW PassesOwn.never rfl (dS (pv 0)) (aI (i:=4) jZ.nd rfl (ar rfl)) (av (dR (dU F.plainAttrs_list F.slot_list_append F.type_list_append dD (pv 5) (aa (Ei (dW hr) (pv 2) (pv 4) (aD (aQ (K:=K)) (pv 5) (fc fe ah) (λ_ _=>rfl)) #[rfl,rfl,rfl,rfl]) ae)))))
   (av (aL (pv 5))))))),?_]
 intro D hD;have k0:But D H (upd H D (.dT [])):=λb o n e=>by rw[ak n];exact e
 have naD:a≠D:=au ha hD;have ncD:c≠D:=au hc hD;refine #[_,rfl,c,rfl,#[_,SqL.of (k0 _ _ ncD hc)],?_];refine tX (xs:=us) (λi U H2=>∃ x3 x4:Option V,U=[some (.ref a),some (.ref c),some (.ref D),x3,x4,none]/\H2 D=some (.dT (kvT 0 (cs.take i)))/\But D H H2) ?_ ?_ ?_ ?_
 .exact #[_,_,rfl,aj,k0]
 .rintro i U H2 _ ⟨x3,x4,rfl,_,k2⟩;exact SqL.of (k2 _ _ ncD hc)
 .rintro i x U H2 r hx ⟨x3,x4,rfl,h2,k2⟩ hr;obtain ⟨e,he,hhas⟩:=hu.get hx;obtain ⟨b,y1,y2,rfl,hb,hy1,hy2⟩:=(show hasP K H e x from hhas);have hy1:y1=.int e.1:=hy1;have hy2:y2=.int e.2:=hy2;subst hy1 hy2;have hi:=(aN.mp he).1;have htk:cs.take (i+1)=cs.take i++[e]:=by
   rw[cH hi,(aN.mp he).2]
  refine #[r,_,rfl,SqT.of aj,rfl,_,_,rfl,_,_,rfl,rfl,?_];have sr:=aF hr (.tup [.int (i:Int),.ref b]);have h3:=sr _ _ h2;have k3:But D H (upd H2 r (.tup [.int (i:Int),.ref b])):=λb o n e=>sr b o (k2 b o n e);clear sr;generalize upd H2 r (.tup [.int (i:Int),.ref b])=H3 at h3 k3 ⊢;have h3b:=k3 _ _ (au hb hD) hb;have hnot:e∉cs.take i:=λz=>by
   have hn2:=hnd;rw[<-eX (i+1) cs,htk]at hn2;have:=(fO.mp (fO.mp hn2).1).2.2 e z e (aM.mpr rfl);exact this rfl
  refine #[_,rfl,_,_,rfl,rfl,_,rfl,_,rfl,D,_,rfl,DPut.t (k:=kE e) h3 h3b (bt (by rw[Cc,aW];lia)),?_];refine #[_,_,rfl,?_,λb o n e=>by rw[ak n];exact k3 b o n e];rw[aj,lF _ (by rw[vC,ag hnot]),htk,Cb,aW,d8 (by lia),fw];rfl
 .rintro U H2 ⟨x3,x4,rfl,h2,k2⟩;rw[bx (by lia)]at h2;refine #[(by show 1<=sizeLine;decide),λp hp=>?_];have nDp:D≠p:=au h2 hp;have s2:Same H H2:=λb o e=>k2 b o (au e hD) e;have k3:But p H2 (upd H2 p (.lst [V.int 0])):=λb o n e=>by rw[ak n];exact e
  have h2a:=s2 _ _ ha;refine #[_,rfl,a,rfl,#[_,SqL.of (k3 _ _ (au h2a hp) h2a)],?_];refine lz (xs:=ws) (λi U H4=>∃ x4:Option V,U=[some (.ref a),some (.ref c),some (.ref D),x3,x4,some (.ref p)]/\H4 p=some (.lst (((List.range (i+1)).map λp=>stN cs (es.take p)).map nV))/\But p H2 H4) ?_ ?_ ?_ ?_
  .exact #[_,rfl,aj,k3]
  .rintro i U H4 _ ⟨x4,rfl,_,k4⟩;exact SqL.of (k4 _ _ (au h2a hp) h2a)
  .rintro i x U H4 hx ⟨x4,rfl,h4,k4⟩;obtain ⟨e,he,hhas⟩:=hw.get hx;obtain ⟨b,y1,y2,rfl,hb,hy1,hy2⟩:=(show hasP K H e x from hhas);have hy1:y1=.int e.1:=hy1;have hy2:y2=.int e.2:=hy2;subst hy1 hy2;have h2b:=s2 _ _ hb;have h4b:=k4 _ _ (au h2b hp) h2b;have h4D:=k4 _ _ nDp h2;have hi:=(aN.mp he).1;have htk:es.take (i+1)=es.take i++[e]:=by
    rw[cH hi,(aN.mp he).2]
   have hon:=B7 cs (es.take i) e;rw[<-htk]at hon;rw[kz]at h4;have hlen:((((List.range i).map λp=>stN cs (es.take p))++[stN cs (es.take i)]).map nV).length < sizeLine:=bt (by
    rw[aq,aV,aq,cv,di];lia)
   refine #[_,rfl,.inl #[rfl,_,SqL.of h4],?_];refine #[_,rfl,D,rfl,.inr #[_,.inl h4D],_,rfl,_,rfl,_,rfl,_,_,_,_,rfl,rfl,SqL.of h4,vA,_,DGet.t (k:=kE e) h4D h4b,?_];have ev:(valV (kvT 0 cs) (kE e)).getD (nV (stN cs (es.take i)))=nV (stN cs (es.take (i+1))):=by
    rw[vC,hon];by_cases z:e∈cs
    .rw[af z,af z,fw];rfl
    .rw[ag z,ag z];rfl
   rw[ev];refine #[_,_,_,rfl,rfl,h4,hlen,?_];refine #[_,rfl,?_,λb o n e=>by rw[ak n];exact k4 b o n e];rw[aj,kz,bo (l₂:=[stN cs (es.take (i+1))]),kz];rfl
  .rintro U H4 ⟨x4,rfl,h4,k4⟩;refine #[_,rfl,?_];rw[<-hwl]at h4;refine q p H4 (s2.free hp) (s2.trans λb o e=>k4 b o (au e hp) e) h4
def cz {α β:Type}{F G:α->β->Prop}(h:∀ a b,F a b->G a b):∀{l:List α} {m:List β},Paired F l m->Paired G l m
 | _,_,.nil=>.nil
 | _,_,.cons a t=>.cons (h _ _ a) (cz h t)
def mI {α β:Type}{F:α->β->Prop}{a:α}{b:β}:∀{l:List α} {m:List β},Paired F l m->F a b->Paired F (l++[a]) (m++[b])
 | _,_,.nil,h=>.cons h .nil
 | _,_,.cons a t,h=>.cons a (mI t h)
def rp {α β:Type}{F:α->β->Prop}:∀{l:List α} {m:List β} {i:Nat} {a:α},Paired F l m->l[i]?=some a->∃ b,m[i]?=some b/\F a b
 | _,_,i,a,.nil,h=>by simp at h
 | _::_,b::_,0,a,.cons h t,e=>by
  have:=aK (show some _=some a from e);subst this;exact #[b,rfl,h]
 | _::_,_::_,i+1,a,.cons h t,e=>by
  obtain ⟨q,h1,h2⟩:=rp (i:=i) t (by simpa using e);exact #[q,by simpa using h1,h2]
def je {α β:Type}{F:α->β->Prop}:∀{l:List α} {m:List β} {i:Nat} {b:β},Paired F l m->m[i]?=some b->∃ a,l[i]?=some a/\F a b
 | _,_,i,a,.nil,h=>by simp at h
 | a::_,_::_,0,b,.cons h t,e=>by
  have:=aK (show some _=some b from e);subst this;exact #[a,rfl,h]
 | _::_,_::_,i+1,a,.cons h t,e=>by
  obtain ⟨q,h1,h2⟩:=je (i:=i) t (by simpa using e);exact #[q,by simpa using h1,h2]
def cj (Av:List Addr)(H:Hp)(es:List En)(ps:List Nat)(LH:List (List Int))(c:Nat)(x:V):Prop:=∃ j s,x=.ref j/\s∉Av/\H j=some (.tup [.int (c:Int),.ref s])/\H s=some (.lst ((fK es (ab ps LH c)).map nV))
def BrAt (Av:List Addr)(H:Hp)(ps:List Nat)(LH:List (List Int))(k:Nat)(x:V):Prop:=∃ b o j xs,x=.ref b/\o∉Av/\j∉Av/\H b=some (.tup [.int ((ab ps LH k).length:Nat),.ref o,.ref j])/\H o=some (.lst ((fX k (ab ps LH k)).map nV))/\H j=some (.lst xs)/\Paired (cj Av H (ab ps LH k) ps LH) (bw ps k (ps.length+1)) xs
def cj.same {c:Nat}(e:Same H H')(h:cj Av H es ps LH c x):cj Av H' es ps LH c x:=by
 obtain ⟨j,s,h1,h2,h3,h4⟩:=h;exact #[j,s,h1,h2,e _ _ h3,e _ _ h4]
def cj.but {Av:List Addr}{c:Nat}{zs:List V}(k:But p H H')(hp:p∈Av)(hz:H p=some (.lst zs))(h:cj Av H es ps LH c x):cj Av H' es ps LH c x:=by
 obtain ⟨j,s,h1,h2,h3,h4⟩:=h;exact #[j,s,h1,h2,k _ _ (λz=>by rw[z,hz]at h3;cases h3) h3,k _ _ (λz=>h2 (z ▸ hp)) h4]
def cj.less {Av Av':List Addr}{c:Nat}(s:∀ a∈Av',a∈Av)(h:cj Av H es ps LH c x):cj Av' H es ps LH c x:=by
 obtain ⟨j,q,h1,h2,h3,h4⟩:=h;exact #[j,q,h1,λz=>h2 (s _ z),h3,h4]
def BrAt.same {k:Nat}(e:Same H H')(h:BrAt Av H ps LH k x):BrAt Av H' ps LH k x:=by
 obtain ⟨b,o,j,xs,h1,h2,h3,h4,h5,h6,h7⟩:=h;exact #[b,o,j,xs,h1,h2,h3,e _ _ h4,e _ _ h5,e _ _ h6,cz (λa b=>cj.same e) h7]
def BrAt.but {Av:List Addr}{k:Nat}{zs:List V}(kk:But p H H')(hp:p∈Av)(hz:H p=some (.lst zs))(h:BrAt Av H ps LH k x):BrAt Av H' ps LH k x:=by
 obtain ⟨b,o,j,xs,h1,h2,h3,h4,h5,h6,h7⟩:=h;exact #[b,o,j,xs,h1,h2,h3,kk _ _ (λz=>by rw[z,hz]at h4;cases h4) h4,kk _ _ (λz=>h2 (z ▸ hp)) h5,kk _ _ (λz=>h3 (z ▸ hp)) h6,cz (λa b=>cj.but kk hp hz) h7]
def BrAt.less {k:Nat}(h:BrAt Av H ps LH k x):BrAt [] H ps LH k x:=by
 obtain ⟨b,o,j,xs,h1,h2,h3,h4,h5,h6,h7⟩:=h;exact #[b,o,j,xs,h1,nofun,nofun,h4,h5,h6,cz (λa b=>cj.less (λa z=>absurd z ee)) h7]
inductive spBr (K:Frag)(vs:List V)(H:Hp)(Q:VK)(w_1:XK):Prop
 | c:∀(st:Addr) (ps:List Nat) (LH:List (List Int)) (t rs:Addr) (as:List Addr),vs=[.ref st]->dH H st ps LH t rs as->(∀(p:Addr) (xs:List V) (H':Hp),H p=none->Same H H'->H' p=some (.lst xs)->Paired (BrAt [] H' ps LH) (List.range (ps.length+1)) xs->Q (.ref p) H')->spBr K vs H Q w_1
inductive vE (K:Frag)(vs:List V)(H:Hp)(Q:VK)(w_1:XK):Prop
 | c:∀(st:Addr) (ps:List Nat) (LH:List (List Int)) (t rs:Addr) (as:List Addr) (pf:Addr) (qs:List Addr),vs=[.ref t,.ref pf]->dH H st ps LH t rs as->H pf=some (.lst (qs.map V.ref))->bq K H ps LH (List.range (ps.length+1)) qs->(∀(p:Addr) (xs:List V) (H':Hp),H p=none->Same H H'->H' p=some (.lst xs)->Paired (BrAt [] H' ps LH) (List.range (ps.length+1)) xs->Q (.ref p) H')->vE K vs H Q w_1
def Jw (T:Txt K mg)(xb:DF K mg "bridges_of" oP p8)(wV:FC P w K mg base 1 "children" l9 (ko K))(KQ:FC P w K mg base 1 "starts_of" p7 (vD K))(KR:FC P w K mg base 1 "owns_of" pZ (vB K)):FC P w K mg base 2 "bridges_of" p8 (vE K):=by
 refine xb.ok l4 (λvs H Q E h=>?_) (λf cdv A outer s H vs Q E hr h=>?_)
 .obtain ⟨st,ps,LH,t,rs,as,pf,qs,rfl,_⟩:=h;rfl
 obtain ⟨st,ps,LH,t,rs,as,pf,qs,rfl,S,h1,hF,q⟩:=h;refine #[_,(ay (aE (i:=2) l4.nd rfl (ar rfl) (dn ae))
   (ay (bW PassesOwn.never rfl (tW rfl T.we (aa (pv 1) ae)) (fR rfl (cD (aI (i:=3) l4.nd rfl (ar rfl)) (cD (aI (i:=4) l4.nd rfl (dh rfl)) fA))) (ay (iY (i:=5) (N:=["child","full","fulls"]) (own:=1) (cap:=[4,1]) l4.nd rfl rfl rfl (dS (aG wV hr (aa (pv 0) (aa (pv 3) ae)))) #[rfl,rfl,rfl,rfl,rfl,rfl] (λ_ _ _ _ _=>(aI (i:=0) (show List.Nodup (["child","full","fulls"]:List Str) by decide +kernel) rfl (ar rfl))) (λ_ _ _ _ _=>eR) (λ_ _ _ _ _=>(cN (aa (pv 0) (aa (aG KQ hr (aa (pv 1) (aa (aD (aQ (K:=K)) (pv 2) (pv 0) (λ_ _=>rfl)) ae))) ae)))))
   (av (dR (dU F.plainAttrs_list F.slot_list_append F.type_list_append dD (pv 2) (aa (cN (aa (bc (bU (K:=K)) rfl T.bQ bL (aa (pv 4) ae)) (aa (aG KR hr (aa (pv 4) (aa (pv 3) ae))) (aa (pv 5) ae)))) ae))))))
   (av (aL (pv 2))))),?_]
 have hfew:=S.few;have hkeys:=S.keys;have hql:=hF.length;rw[cv]at hql;refine #[(by show 0<=sizeLine;decide),λp hp=>?_];have k0:But p H (upd H p (.lst [])):=λb o n e=>by rw[ak n];exact e
 have npf:pf≠p:=au h1 hp;refine #[_,rfl,pf,rfl,#[_,SqL.of (k0 _ _ npf h1)],?_];refine tX (xs:=qs.map V.ref) (λi U H2=>∃(xs:List V) (x4 x5 x6:Option V),U=[some (.ref t),some (.ref pf),some (.ref p),x4,x5,x6]/\H2 p=some (.lst xs)/\Paired (BrAt [p] H2 ps LH) (List.range i) xs/\But p H H2) ?_ ?_ ?_ ?_
 .exact #[[],_,_,_,rfl,aj,.nil,k0]
 .rintro i U H2 _ ⟨xs,x4,x5,x6,rfl,_,_,k2⟩;exact SqL.of (k2 _ _ npf h1)
 .rintro i x U H2 r hx ⟨xs,x4,x5,x6,rfl,h2,hB,k2⟩ hr;rw[aY]at hx;obtain ⟨qq,hqi,rfl⟩:=eV.mp hx;have hi:i<ps.length+1:=by
   have:=(aN.mp hqi).1;lia
  have hxl:xs.length=i:=by
   have:=Paired.length hB;rw[cv]at this;exact this.symm
  have noP:∀{b:Addr} {o:HO},H b=some o->b≠p:=λe=>au e hp;have s12:Same H H2:=λb o e=>k2 b o (noP e) e;have S2:=S.same s12;have F2:=hF.same s12;have h2f:=s12 _ _ h1;obtain ⟨q2,hq2,ws,hq3,hw3⟩:=F2.get (i:=i) (j:=i) (gH hi);rw[hqi]at hq2;have:=aK hq2;subst this;refine #[r,_,rfl,SqT.of aj,rfl,_,_,rfl,_,_,rfl,rfl,?_];have sr:=aF hr (.tup [.int (i:Int),.ref qq]);generalize upd H2 r (.tup [.int (i:Int),.ref qq])=H3 at sr ⊢;refine #[_,rfl,_,rfl,t,ps,i,rfl,sr _ _ S2.tr,by lia,λc H4 hc s4 h4=>?_];have s24:Same H2 H4:=sr.trans s4;refine #[c,rfl,#[_,SqL.of h4],λD hD=>?_];have hpD:p≠D:=au (s24 _ _ h2) hD;have F4:=F2.same s24;have h4q:=s24 _ _ hq3;have h4w:=hw3.mono s24.ext;have hfl:=jc S.T S.len (LH:=LH) hi;refine fT (xs:=(bw ps i (ps.length+1)).map nV) (λm U H5=>∃(ys:List V) (x0:Option V),U=[x0,some (.ref qq),some (.ref pf)]/\H5 D=some (.lst ys)/\Paired (cj [p,D] H5 (ab ps LH i) ps LH) ((bw ps i (ps.length+1)).take m) ys/\But D H4 H5) ?_ ?_ ?_ ?_
  .exact #[[],_,rfl,aj,.nil,λb o n e=>by rw[ak n];exact e]
  .rintro m U H5 _ ⟨ys,x0,rfl,_,_,k5⟩;exact k5.sq (SqL.of h4) hD
  .rintro m u x U H5 hx hm ⟨ys,x0,rfl,h5,hJ,k5⟩;obtain ⟨hmi,rfl⟩:=my hx;have hcl:=mj ps i (ps.length+1);have hyl:=Paired.length hJ;rw[aW]at hyl;rw[aq]at hm;have hcm:(bw ps i (ps.length+1))[m]?=some ((bw ps i (ps.length+1)).getD m 0):=by
    rw[aA,aw hmi];rfl
   have htk2:(bw ps i (ps.length+1)).take (m+1)=(bw ps i (ps.length+1)).take m++[(bw ps i (ps.length+1)).getD m 0]:=by
    rw[cH hmi,aA,aw hmi];rfl
   rw[htk2];generalize (bw ps i (ps.length+1)).getD m 0=ch at hcm ⊢;obtain ⟨hchn,hchp⟩:=cW.mp (cB hcm);have s45:Same H4 H5:=λb o e=>k5 b o (au e hD) e;have F5:=F4.same s45;obtain ⟨qc,hqc,wc,hqc3,hwc⟩:=F5.get (i:=ch) (j:=ch) (gH hchn);have hfc:=jc S.T S.len (LH:=LH) hchn;refine gq ?_;refine #[_,rfl,_,rfl,_,rfl,_,rfl,_,_,_,_,rfl,rfl,SqL.of (s45 _ _ (s24 _ _ h2f)),d4 hqc,?_];refine #[qq,qc,ws,wc,ab ps LH i,ab ps LH ch,rfl,s45 _ _ h4q,h4w.mono s45.ext,by lia,hqc3,hwc,by lia,vo S.T S.R hchn,λsa H6 hsa s6 h6=>?_];refine #[(by show 2<=sizeLine;decide),λj hj=>?_];have sj:=aF hj (.tup [.int (ch:Int),.ref sa]);have hjj:upd H6 j (.tup [.int (ch:Int),.ref sa]) j=some (.tup [.int (ch:Int),.ref sa]):=aj;generalize upd H6 j (.tup [.int (ch:Int),.ref sa])=H7 at sj hjj ⊢;have s57:=s6.trans sj;have h7D:=s57 _ _ h5;have nsaD:sa≠D:=aT (au h5 hsa);have nsap:sa≠p:=aT (au (s45 _ _ (s24 _ _ h2)) hsa);have kD:But D H7 (upd H7 D (.lst (ys++[.ref j]))):=λb o n e=>by rw[ak n];exact e
   refine #[_,h7D,bt (by lia),u-1,by lia,by rw[aq];lia,ys++[.ref j],_,rfl,aj,?_,λb o n e=>by rw[ak n];exact s57 _ _ (k5 b o n e)];refine mI (cz (λa b h=>cj.but kD (bE _ bu) h7D (cj.same s57 h)) hJ) ?_;refine cj.but kD (bE _ bu) h7D #[j,sa,rfl,?_,hjj,sj _ _ h6];intro z;rcases aX.mp z with z|z
   .exact nsap z
   .exact nsaD (aM.mp z)
  .rintro U H5 ⟨ys,x0,rfl,h5,hJ,k5⟩;rw[aq,bx (ai _)]at hJ;have s45:Same H4 H5:=λb o e=>k5 b o (au e hD) e;have s25:=s24.trans s45;refine #[_,rfl,.inl #[rfl,_,SqL.of (s25 _ _ h2)],_,rfl,_,_,rfl,.inl (SqL.of (s45 _ _ h4q)),?_];have hwl:=h4w.length;refine #[_,rfl,_,rfl,qq,ws,ab ps LH i,i,rfl,s45 _ _ h4q,h4w.mono s45.ext,by lia,λo H6 ho s6 h6=>?_];refine #[_,rfl,(by show 3<=sizeLine;decide),λb hb=>?_];have sb:=aF hb (.tup [.int ((ws.length:Nat):Int),.ref o,.ref D]);have hbb:upd H6 b (.tup [.int ((ws.length:Nat):Int),.ref o,.ref D]) b=some (.tup [.int ((ws.length:Nat):Int),.ref o,.ref D]):=aj;generalize upd H6 b (.tup [.int ((ws.length:Nat):Int),.ref o,.ref D])=H7 at sb hbb ⊢;have s57:=s6.trans sb;have s27:=s25.trans s57;have h7p:=s27 _ _ h2;have kp:But p H7 (upd H7 p (.lst (xs++[.ref b]))):=λb o n e=>by rw[ak n];exact e
   have nop:o≠p:=aT (au (s25 _ _ h2) ho);refine #[_,_,_,rfl,rfl,h7p,bt (by lia),?_];refine #[xs++[.ref b],_,_,_,rfl,aj,?_,λb o n e=>by rw[ak n];exact s27 _ _ (k2 b o n e)];rw[fP];refine mI (cz (λa b h=>BrAt.but kp bu h7p (BrAt.same s27 h)) hB) ?_;refine BrAt.but kp bu h7p #[b,o,D,ys,rfl,λz=>nop (aM.mp z),λz=>hpD (aM.mp z).symm,?_,sb _ _ h6,s57 _ _ h5,?_]
   .rw[hbb,hwl]
   .exact cz (λa b h=>cj.same s57 (cj.less (λa z=>by rw[aM.mp z];exact bu) h)) hJ
 .rintro U H2 ⟨xs,x4,x5,x6,rfl,h2,hB,k2⟩;refine #[_,rfl,?_];rw[aq,<-hql]at hB;refine q p xs H2 hp (λb o e=>k2 b o (au e hp) e) h2 (cz (λa b=>BrAt.less) hB)
def Jx (T:Txt K mg)(xc:DF K mg "bridges" oQ p9)(KS:FC P w K mg base 8 "full_rows" pY (vw K))(KU:FC P w K mg base 2 "bridges_of" p8 (vE K)):FC P w K mg base 9 "bridges" p9 (spBr K):=by
 refine xc.ok GN (λvs H Q E h=>?_) (λf cdv A outer s H vs Q E hr h=>?_)
 .obtain ⟨st,ps,LH,t,rs,as,rfl,_⟩:=h;rfl
 obtain ⟨st,ps,LH,t,rs,as,rfl,S,q⟩:=h;refine #[_,(av (aL (aG KU hr (aa (aD (bI (K:=K)) (pv 0) ah (λ_ _=>rfl)) (aa (aG KS hr (aa (pv 0) ae)) ae))))),?_];refine #[_,rfl,_,_,_,_,rfl,rfl,SqT.of S.st,rfl,?_];refine #[_,rfl,st,ps,LH,t,rs,as,rfl,S,λpf qs H1 hpf s1 h1 hqn hqf hpq hF=>?_];exact #[st,ps,LH,t,rs,as,pf,qs,rfl,S.same s1,h1,hF,λp xs H2 hp s2 h2 hB=>q p xs H2 (s1.free hp) (s1.trans s2) h2 hB]
def Jy {LH:List (List Int)}{row:List Int}(h:row∈LH):row.length<=cP LH:=by
 unfold cP
 induction LH with
 | nil=>cases h
 | cons r LH ih=>
  rw[bS,dB];rcases aX.mp h with e|e
  .rw[e];lia
  .have:=ih e;lia
def aS (es:List (Int×Int))(key:Int):Nat:=(es.filter λe=>decide (e.1<key)).length
def Jz {es:List (Int×Int)}{key:Int}{m:Nat}(hm:m<=es.length)(h1:∀ i,i<m->decide ((es.getD i (0,0)).1<key)=true)(h2:∀ i,m<=i->i<es.length->decide ((es.getD i (0,0)).1<key)=false):aS es key=m:=by
 unfold aS
 conv=>lhs;rw[<-eX m es]
 rw[cZ,aV];have e1:(es.take m).filter (λe=>decide (e.1<key))=es.take m:=by
  rw[sN];intro x hx;obtain ⟨i,hi,rfl⟩:=dQ hx;rw[aW]at hi;have:=h1 i (by lia);rw[aA,aw (by lia)]at this;rw[List.getElem_take];exact this
 have e2:(es.drop m).filter (λe=>decide (e.1<key))=[]:=by
  rw[lg];intro x hx;obtain ⟨i,hi,rfl⟩:=dQ hx;rw[eG]at hi;have:=h2 (m+i) (by lia) (by lia);rw[aA,aw (by lia)]at this;rw[List.getElem_drop];intro z;rw[show decide (es[m+i].1<key)=false from this]at z;cases z
 rw[e1,e2,aW,mV];lia
def mJ (h:Rise es):es.Pairwise (λa b=>a.1<=b.1):=h.imp λ{a b} h=>by
 have:=gp.mp h;lia
def jf (es:List (Int×Int))(key:Int):aS es key<=es.length:=eP _ _
def rq {key:Int}:∀{es:List (Int×Int)},es.Pairwise (λa b=>a.1<=b.1)->(∀ e∈es.take (aS es key),e.1<key)/\∀ e∈es.drop (aS es key),¬ e.1<key
 | [],_=>#[λe he=>(by simp at he),λe he=>(by simp at he)]
 | a::es,h=>by
  rw[so]at h;obtain ⟨h1,h2⟩:=rq (key:=key) h.2;by_cases c:a.1<key
  .have e:aS (a::es) key=aS es key+1:=by
    unfold aS;rw[ef (by simpa using c),cR]
   rw[e,List.take_succ_cons,List.drop_succ_cons];refine #[λx hx=>?_,h2];rcases aX.mp hx with z|z
   .rw[z];exact c
   .exact h1 x z
  .have all:∀ x∈a::es,¬ x.1<key:=λx hx=>by
    rcases aX.mp hx with z|z
    .rw[z];exact c
    .have:=h.1 x z;lia
   have e:aS (a::es) key=0:=by
    unfold aS;rw[lg.mpr λx hx=>by simpa using all x hx];rfl
   rw[e];exact #[λx hx=>(by simp at hx),λx hx=>all x (by simpa using hx)]
def Cd {es:List (Int×Int)}{key:Int}(h:es.Pairwise (λa b=>a.1<=b.1)):es.take (aS es key)=es.filter λe=>decide (e.1<key):=by
 obtain ⟨h1,h2⟩:=rq (key:=key) h
 conv=>rhs;rw[<-eX (aS es key) es]
 rw[cZ,sN.mpr λe he=>bg (h1 e he),lg.mpr λe he z=>h2 e he (bJ z),bZ]
def vF {es:List (Int×Int)}{key:Int}(h:es.Pairwise (λa b=>a.1<=b.1)){i:Nat}(hi:i<es.length):(i<aS es key->es[i].1<key)/\(aS es key<=i->¬ es[i].1<key):=by
 obtain ⟨h1,h2⟩:=rq (key:=key) h;refine #[λz=>h1 _ ?_,λz=>h2 _ ?_]
 .exact ny.mpr #[i,by lia,rfl]
 .refine List.mem_drop_iff_getElem.mpr #[i-aS es key,by lia,?_];congr 1;lia
structure JA (C F hd:List (Int×Int))(key:Int)(st:Nat):Prop where
 lo:st<=aS C key
 hi:aS C key<=st+2
 none:st=0->∀ e∈hd,¬ e.1<key
 some:st≠0->∃ h:st-1<C.length,C[st-1]∈hd/\C[st-1].1<key/\C[st-1]∈F
def JB (T:aR ps)(R:bP LH)(few:ps.length<=40){k c:Nat}(hk:k<ps.length+1)(hc:par ps c=some k)(key:Int) :
  JA (ab ps LH c) (ab ps LH k) (bX (ab ps LH c)) key (stN (ab ps LH c) ((ab ps LH k).take (aS (ab ps LH k) key))):=by
 have hcn:=(bA T hc).2;have hst:=Ca T R hk hc (LH:=LH) (aS (ab ps LH k) key) (jf _ _);have hF:=mJ (fj T R hk);have hC:=mJ (fj T R hcn);have hcome:=B6 T R hk hc (LH:=LH);have hgr:=λt=>Jr (rj T R few hcn) (fj T R hcn) (t:=t);have hla:=Js (rj T R few hcn) (fj T R hcn);have hsub:=eU (ab ps LH c);have hpick:=B9 (ab ps LH c);have hspl:∀ j∈spL (ab ps LH c),j<(ab ps LH c).length:=λj hj=>by
  have:=(rm (ab ps LH c)).lt hj;rw[jb]at this;exact this
 have ht:inN (ab ps LH c) ((ab ps LH k).take (aS (ab ps LH k) key))=aS (bX (ab ps LH c)) key:=by
  unfold inN;rw[Cd hF,<-hcome];unfold aS;rw[nE,nE];congr 2
  funext e
  rw[Bool.and_comm]
 rw[hst,ht];have hmem:∀ e∈bX (ab ps LH c),e∈ab ps LH k:=λe he=>by
  rw[<-hcome]at he;exact (eD.mp he).1
 clear hst ht hcome hF;generalize ab ps LH k=F at hmem ⊢;generalize ab ps LH c=C at *;have hhd:(bX C).Pairwise (λa b=>a.1<=b.1):=hC.sublist hsub;have hlen:(bX C).length=(spL C).length:=by rw[hpick,aq]
 have hti:=jf (bX C) key;have hat:∀ i (h:i<(spL C).length),∃(h1:(spL C)[i]<C.length) (h2:i<(bX C).length),(bX C)[i]=C[(spL C)[i]]:=λi h=>by
  have h1:=hspl _ (cG h);refine #[h1,by lia,?_];have e:(bX C)[i]?=some C[(spL C)[i]]:=by
   rw[hpick,aY,aw h];show some (C.getD (spL C)[i] (0,0))=_;rw[aA,aw h1];rfl
  exact (aN.mp e).2
 have bat:=λi h=>vF (key:=key) hhd (i:=i) h;have cat:=λi h=>vF (key:=key) hC (i:=i) h;have hall:=rq (key:=key) hhd;generalize aS (bX C) key=t at *;have hsp:∀ i (h:i<(spL C).length),stAt (spL C) (i+1)=(spL C)[i]+1:=λi h=>by
  unfold stAt;rw[ag (by lia),iL,aA,aw h];rfl
 have before:∀ t',t=t'+1->∃(h:t'<(spL C).length) (h1:(spL C)[t']<C.length),stAt (spL C) t=(spL C)[t']+1/\C[(spL C)[t']]∈bX C/\C[(spL C)[t']].1<key:=λt' e=>by
  have h:t'<(spL C).length:=by lia
  obtain ⟨h1,h2,h3⟩:=hat t' h;refine #[h,h1,by rw[e];exact hsp t' h,?_,?_]
  .rw[<-h3];exact cG h2
  .rw[<-h3];exact (bat t' h2).1 (by lia)
 refine #[?_,?_,?_,?_]
 .cases t with
  | zero=>exact bG _
  | succ t'=>
   obtain ⟨h,h1,e,_,hlt⟩:=before t' rfl;rw[e];refine Nat.succ_le_of_lt (eW λz=>(cat _ h1).2 z hlt)
 .rcases jw t (spL C).length with z|z
  .obtain ⟨h1,h2,h3⟩:=hat t z;have hge:¬ C[(spL C)[t]].1<key:=by
    rw[<-h3];exact (bat t h2).2 (ai _)
   have hle:aS C key<=(spL C)[t]:=cf λy=>hge ((cat _ h1).1 y);have:=hgr t z;rw[hsp t z]at this;lia
  .have e:t=(spL C).length:=by lia
   rw[e];have:=jf C key;lia
 .intro z;cases t with
  | zero=>exact λe he=>hall.2 e (by simpa using he)
  | succ t'=>
   obtain ⟨_,_,e,_⟩:=before t' rfl;lia
 .intro z;cases t with
  | zero=>exact absurd rfl z
  | succ t'=>
   obtain ⟨h,h1,e,hm,hlt⟩:=before t' rfl;have e2:stAt (spL C) (t'+1)-1=(spL C)[t']:=by lia
   refine #[by lia,?_];have e3:C[stAt (spL C) (t'+1)-1]'(by lia)=C[(spL C)[t']]:=by
    congr 1
   rw[e3];exact #[hm,hlt,hmem _ hm]
def fY {β:Type}{F:Nat->β->Prop}{n:Nat}{l:List β}{k:Nat}(h:Paired F (List.range n) l)(hk:k<n):∃ b,l[k]?=some b/\F k b:=rp h (gH hk)
def vG :∀{cs:List Nat} {xs:List V},Paired (cj Av H es ps LH) cs xs->∃ kvs:List (Key×V),Paired (λ(z:V) (kv:Key×V)=>∃ b,z=.ref b/\H b=some (.tup [kV kv.1,kv.2])) xs kvs/\kvs.map (·.1)=cs.map (λc:Nat=>(Sum.inl (c:Int):Key))/\
  ∀ c∈cs,cs.Nodup->∃ s,valV kvs (.inl (c:Int))=some (.ref s)/\H s=some (.lst ((fK es (ab ps LH c)).map nV))
 | _,_,.nil=>#[[],.nil,rfl,λc hc=>nomatch hc]
 | c0::cs,_,.cons ⟨j,s,e1,_,e3,e4⟩ t=>by
  obtain ⟨kvs,h1,h2,h3⟩:=vG t;refine #[(.inl (c0:Int),.ref s)::kvs,.cons #[j,e1,e3] h1,by rw[bS,h2];rfl,λc hc hn=>?_];rw[dN]at hn;unfold valV;by_cases z:c=c0
  .subst z;exact #[s,by rw[List.find?_cons_of_pos (by simp)];rfl,e4]
  .rw[List.find?_cons_of_neg (by simp;lia)];rcases aX.mp hc with y|y
   .exact absurd y z
   .exact h3 c y hn.2
def rA (ps:List Nat)(k n:Nat):(bw ps k n).Nodup:=by
 unfold bw;exact List.Pairwise.filter _ List.nodup_range
def figN (n:Nat):Nat:=if h:n=0 then 0 else figN (n/2)+1
termination_by n
decreasing_by exact Nat.div_lt_self (eN h) (by decide)
def rB:figN 0=0:=by
 unfold figN;rfl
def mK {n:Nat}(h:n≠0):figN n=figN (n/2)+1:=by
 rw[figN,dif_neg h]
def Ce:∀(n a b:Nat),b<=n->a<=b->figN a<=figN b
 | 0,a,b,hb,ha=>by
  have e1:a=0:=by lia
  have e2:b=0:=by lia
  rw[e1,e2];exact ai _
 | n+1,a,b,hb,ha=>by
  by_cases z:a=0
  .rw[z,rB];exact bG _
  .rw[mK z,mK (show b≠0 by lia)];exact iJ (Ce n _ _ (by lia) (by lia))
def vH:∀(n m:Nat),m<=n->figN m<=m
 | 0,m,h=>by
  rw[show m=0 by lia,rB];exact ai _
 | n+1,m,h=>by
  by_cases z:m=0
  .rw[z,rB];exact ai _
  .rw[mK z];have:=vH n (m/2) (by lia);lia
inductive vI (P:Program)(w:World)(K:Frag)(mg:Str->Option Value)(base:Heap)(vs:List V)(H:Hp)(Q:VK)(w_1:XK):Prop
 | c:∀(n:Nat) (f:Addr) (ps:List Str) (sp:Sp) (b:Nat->Bool) (R:List Nat->Hp->Prop),vs=[.int n,.ref f]->FV P w K mg base 3 f ps sp->R [] H->(∀(i:Nat) (L:List Nat) (H1:Hp) (Q1:VK),i<n->L.length<=figN n->R L H1->(∀ H2,R (L++[i]) H2->Q1 (.bl (b i)) H2)->sp [.int i] H1 Q1 E0)->(∀ i j,i<=j->j<n->b j=true->b i=true)->(∀(m:Nat) (L:List Nat) (H':Hp),m<=n->(∀ i,i<m->b i=true)->(∀ i,m<=i->i<n->b i=false)->L.length<=figN n->L.Nodup->(∀ x∈L,x<n)->R L H'->Q (.int m) H')->vI P w K mg base vs H Q w_1
def JC:L2.St->Hp->Nat:=λU _=>match U with
 | [_,_,some (.int lo),some (.int hi),_]=>(hi-lo).toNat
 | _=>0
def JD (T:Txt K mg)(xf:DF K mg "how_many_below" ow pM):FC P w K mg base 4 "how_many_below" pM (vI P w K mg base):=by
 refine xf.ok jY (λvs H Q E h=>?_) (λf cdv A outer s H vs Q E hr h=>?_)
 .obtain ⟨n,f,ps,sp,b,R,rfl,_⟩:=h;rfl
 obtain ⟨n,f,ps,sp,b,R,rfl,hF,hR,hask,hmono,q⟩:=h;refine #[_,(ay (aE (i:=2) jY.nd rfl (ar rfl) ah)
   (ay (aE (i:=3) jY.nd rfl (ar rfl) (pv 0))
   (ay (lr PassesOwn.never (aZ fS (pv 2) (pv 3) (bp _)) (ay (aE (i:=4) jY.nd rfl (ar rfl) (ax jG (ax bH (pv 2) (pv 3)) ah))
   (av (cg (ig (ur (kr:=3) hr (pv 1) (aa (pv 4) ae))) (av (aE (i:=2) jY.nd rfl (ar rfl) (ax bH (pv 4) ah))) (av (aE (i:=3) jY.nd rfl (ar rfl) (pv 4)))))))
   (av (aL (pv 2)))))),?_]
 refine #[_,rfl,?_];refine ue (λU H2=>∃(lo hi:Nat) (x4:Option V) (L:List Nat),U=[some (.int n),some (.ref f),some (.int lo),some (.int hi),x4]/\lo<=hi/\hi<=n/\(∀ i,i<lo->b i=true)/\(∀ i,hi<=i->i<n->b i=false)/\L.length+figN (hi-lo)<=figN n/\(L.Nodup/\∀ x∈L,x<n/\(x<lo\/hi<=x))/\R L H2) (λU H2=>∃(lo:Nat) (x4:Option V) (L:List Nat),U=[some (.int n),some (.ref f),some (.int lo),some (.int lo),x4]/\lo<=n/\(∀ i,i<lo->b i=true)/\(∀ i,lo<=i->i<n->b i=false)/\L.length<=figN n/\(L.Nodup/\∀ x∈L,x<n)/\R L H2) JC ?_ ?_ ?_ ?_
 .exact #[0,n,_,[],rfl,bG _,ai _,λi h=>absurd h (kL _),λi h1 h2=>absurd h2 (hW.mpr h1),by rw[mV,Nat.sub_zero,fw];exact ai _,#[gD,λ_ z=>nomatch z],hR]
 .rintro U H2 ⟨lo,hi,x4,L,rfl,h1,h2,hb1,hb2,hL,⟨hN,hM⟩,hR2⟩;refine #[_,rfl,_,rfl,_,_,rfl,rfl,_,rfl,?_];refine ite2 (λc=>?_) (λc=>?_)
  .have c1:(lo:Int)<(hi:Int):=bJ c;have em:((lo:Int)+(hi:Int))/2=(((lo+hi)/2:Nat):Int):=by lia
   have m1:lo<=(lo+hi)/2:=by lia
   have m2:(lo+hi)/2<hi:=by lia
   have fst:figN (hi-lo)=figN ((hi-lo)/2)+1:=mK (by lia);have fle:∀ d,d<=(hi-lo)/2->(L++[(lo+hi)/2]).length+figN d<=figN n:=λd hd=>by
    have:=Ce _ d _ (ai _) hd;rw[aV,di];lia
   have hN2:(L++[(lo+hi) / 2]).Nodup:=fO.mpr #[hN,List.pairwise_singleton _ _,λa ha b hb z=>by
    rw[aM.mp hb]at z;have:=(hM a ha).2;lia]
   have hM2:∀ x∈L++[(lo+hi)/2],x<n/\(x<lo\/hi<=x\/x=(lo+hi)/2):=λx hx=>by
    rcases bj.mp hx with z|z
    .have:=hM x z;lia
    .have:=aM.mp z;lia
   refine #[_,rfl,_,rfl,_,_,rfl,rfl,_,_,rfl,rfl,#[by decide,by decide],?_];refine #[_,rfl,f,3,ps,sp,rfl,hF,ai _,_,rfl,?_];show sp [V.int (((lo:Int)+(hi:Int))/2)] H2 _ E0;rw[em];refine hask ((lo+hi)/2) L H2 _ (by lia) (by lia) hR2 λH3 hR3=>#[_,rfl,?_];cases hbm:b ((lo+hi)/2) with
   | true=>
    refine iteT ?_;refine #[_,rfl,_,_,rfl,rfl,#[(lo+hi)/2+1,hi,some (V.int (((lo:Int)+(hi:Int))/2)),_,?_,by lia,h2,λi hi'=>hmono i ((lo+hi)/2) (by lia) (by lia) hbm,hb2,fle _ (by lia),#[hN2,λx hx=>by have:=hM2 x hx;lia],hR3],?_]
    .show [some (V.int n),some (V.ref f),some (V.int (((lo:Int)+(hi:Int))/2+1)),some (V.int hi),some (V.int (((lo:Int)+(hi:Int))/2))]=_;rw[em,Int.natCast_add];rfl
    .show ((hi:Int)-(((lo:Int)+(hi:Int))/2+1)).toNat<((hi:Int)-(lo:Int)).toNat;lia
   | false=>
    refine iteF ?_;refine #[_,rfl,#[lo,(lo+hi)/2,some (V.int (((lo:Int)+(hi:Int))/2)),_,?_,m1,by lia,hb1,λi hi' hin=>?_,fle _ (by lia),#[hN2,λx hx=>by have:=hM2 x hx;lia],hR3],?_]
    .show [some (V.int n),some (V.ref f),some (V.int lo),some (V.int (((lo:Int)+(hi:Int))/2)),some (V.int (((lo:Int)+(hi:Int))/2))]=_;rw[em]
    .cases hbi:b i with
     | false=>rfl
     | true=>
      have:=hmono ((lo+hi)/2) i hi' hin hbi;rw[hbm]at this;cases this
    .show ((((lo:Int)+(hi:Int))/2)-(lo:Int)).toNat<((hi:Int)-(lo:Int)).toNat;lia
  .have c1:¬ (lo:Int)<(hi:Int):=iO (iN.mpr c);have e:hi=lo:=by lia
   subst e;exact #[hi,_,L,rfl,h2,hb1,hb2,by lia,#[hN,λx hx=>(hM x hx).1],hR2]
 .intro U H Q Q' m h;obtain ⟨y1,e3,y2,e4,i2,j2,f2,g2,b2,e5,q⟩:=h;exact #[y1,e3,y2,e4,i2,j2,f2,g2,b2,e5,m _ _ q]
 rintro U H2 ⟨lo,x4,L,rfl,h2,hb1,hb2,hL,⟨hN,hM⟩,hR2⟩;refine #[_,rfl,?_];exact q lo L H2 h2 hb1 hb2 hL hN hM hR2
abbrev rC:Str:=(envOfC ("first_place" : Str) (aH jW) 0 0 .none).qual ++ "<lambda>"
abbrev rD:Pos:=#[111,44,111,73]
structure fL (H:Hp)(wa:Addr)(ps w:List Nat):Prop where
 at_:H wa=some (.lst (w.map nV))
 len:w.length<=900
 ne:w≠[]
 ch:ix ps w
 kn:∀ x∈w,x<ps.length+1
def vJ {α:Type}{f:α->V}{us:List α}{c:α}:atI ((us++[c]).map f) (-1)=some (f c):=by
 unfold atI ixN;rw[bo];simp;rw[af (by lia)];show (List.map f us++[f c])[(-1+((us.length:Int)+1)).toNat]?=_;rw[show (-1+((us.length:Int)+1)).toNat=us.length by lia,eF (by rw[aq];exact ai _),aq,iK];rfl
def fL.same {w:List Nat}(h:fL H wa ps w)(e:Same H H'):fL H' wa ps w:=#[e _ _ h.at_,h.len,h.ne,h.ch,h.kn]
def Cf {w:List Nat}{i:Nat}(h:i<w.length):w.take (i+1)=w.take i++[w.getD i 0]:=by
 rw[cH h,aA,aw h];rfl
def JE (xs:List V)(a:Nat):cutV xs none (some (a:Int))=xs.take a:=by
 unfold cutV;rw[iS,show HT.sIx xs.length 0 none=0 from rfl,nk,Nat.sub_zero];by_cases h:a<=xs.length
 .rw[d8 h]
 .rw[iI (by lia),bx (ai _),bx (by lia)]
def Cg (xs:List V)(a:Nat):cutV xs (some (a:Int)) none=xs.drop a:=by
 unfold cutV;rw[iS,show HT.sIx xs.length xs.length none=xs.length from rfl];by_cases h:a<=xs.length
 .rw[d8 h,bx (by rw[eG];exact ai _)]
 .rw[iI (by lia),eL (ai _),eL (show xs.length<=a by lia),List.take_nil]
def JF {w:List Nat}(T:aR ps)(h:ix ps w):w.Pairwise (· < ·):=by
 have key:∀ d i,i+d+1<w.length->w.getD i 0<w.getD (i+d+1) 0:=by
  intro d
  induction d with
  | zero=>intro i hi;exact (bA T (h i hi)).1
  | succ d ih=>
   intro i hi;have a:=ih i (by lia);have b:=(bA T (h (i+d+1) (by lia))).1;have e:i+(d+1)+1=i+d+1+1:=by lia
   rw[e];lia
 rw[cM];intro i j hi hj hij;have:=key (j-i-1) i (by lia);rw[show i+(j-i-1)+1=j by lia,aA,aA,aw hi,aw hj]at this;exact this
def ownB (LH:List (List Int))(k:Nat)(key:Int):Nat:=((bO LH k).filter λx=>decide (x<key)).length
def JG (T:aR ps)(R:bP LH){k:Nat}(hk:k<ps.length+1):((ab ps LH k).filter λe=>decide (e.2=(k:Int)))=ownE LH k:=by
 have hup:=R.at_up k;refine vz ((fj T R hk).filter _) ?_ λe=>?_
 .unfold ownE;refine List.Pairwise.map _ (R:=λa b:Int=>a<b) (λa b (h:a<b)=>gp.mpr (.inl h)) hup
 .rw[eD];refine #[λzq0=>?_,λh=>#[(mH T hk).mpr (.inl h),bg (mG hk h).2]];obtain ⟨h1,h2⟩:=zq0;rcases (mH T hk).mp h1 with h|⟨c,hc,h⟩
  .exact h
  .exfalso;have h2:=bJ h2;have hcn:=(bA T hc);obtain ⟨j,hj,hb,e2,_⟩:=ku T R hcn.2 e ((eU _).subset h);have ej:j=k:=by lia
   subst ej;have:=gU T hcn.1;rw[hb]at this;cases this
def JH (T:aR ps)(R:bP LH){k:Nat}(hk:k<ps.length+1)(key:Int):dJ k ((ab ps LH k).take (aS (ab ps LH k) key))=ownB LH k key:=by
 rw[Cd (mJ (fj T R hk))];unfold dJ;have e:((ab ps LH k).filter λe=>decide (e.1<key)).filter (λe=>decide (e.2=(k:Int)))=(ownE LH k).filter λe=>decide (e.1<key):=by
  rw[<-JG T R hk,nE,nE];congr 1
  funext e
  rw[Bool.and_comm]
 rw[e];unfold ownE ownB;rw[List.filter_map,aq];rfl
def KpV (Av:List Addr)(H H':Hp):Prop:=∀ b o,b∉Av->H b=some o->H' b=some o
def KpA (Av:List Addr)(mp:Addr)(H H':Hp):Prop:=∀ b o,b∉Av->b≠mp->H b=some o->H' b=some o
def KpA.trans (a:KpA Av mp H H1)(b:KpA Av mp H1 H2):KpA Av mp H H2:=λc o n1 n2 h=>b c o n1 n2 (a c o n1 n2 h)
def KpV.a (a:KpV Av H H1):KpA Av mp H H1:=λc o n1 _ h=>a c o n1 h
def KpA.of (a:Same H H1):KpA Av mp H H1:=λc o _ _ h=>a c o h
def KpA.gro (a:Gro mp H H1):KpA Av mp H H1:=λc o _ n h=>a c o n h
structure AskF (P:Program)(w:World)(K:Frag)(mg:Str->Option Value)(base:Heap)(f:Addr)(Av:List Addr)(mp:Addr)(fp:Addr->Prop)(R:List (Nat×Nat)->Hp->Prop)(ps:List Nat)(LH:List (List Int))(key:Int):Prop where
 keep:∀ L H H',R L H->(∀ b o,(fp b\/∃ us,o=HO.tup us)->H b=some o->H' b=some o)->R L H'
 alloc:∀ L H b,R L H->fp b->H b≠none
 avl:∀ L H,R L H->∀ a∈Av,∃ zs,H a=some (.lst zs)
 nmp:¬ fp mp
 ask:∃(pn:List Str) (sp:Sp),FV P w K mg base 2 f pn sp/\∀(kn i:Nat) (L:List (Nat×Nat)) (H:Hp) (Q:VK),kn<ps.length+1->i<(ab ps LH kn).length->L.length<=9000->R L H->
  (∀ H',R (L++[(kn,i)]) H'->KpV Av H H'->Q (.bl (decide (((ab ps LH kn).getD i (0,0)).1<key))) H')->sp [.int kn,.int i] H Q E0
def AskF.lift {w:World}{K:Frag}{mg:Str->Option Value}{f:Addr}{R:List (Nat×Nat)->Hp->Prop}{key:Int}(A:AskF P w K mg b1 f Av mp fp R ps LH key)(S:Sub K mg b1 b2):AskF P w K mg b2 f Av mp fp R ps LH key:=by
 obtain ⟨a,b,c,d,pn,sp,hF,r⟩:=A;exact #[a,b,c,d,pn,sp,hF.lift S,r]
structure cA (Av:List Addr)(mp:Addr)(R:List (Nat×Nat)->Hp->Prop)(ps:List Nat)(LH:List (List Int))(br:Addr)(xs:List V)(L:List (Nat×Nat))(H:Hp):Prop where
 r:R L H
 avs:∀ a∈Av,∃ zs,H a=some (.lst zs)
 at_:H br=some (.lst xs)
 nb:br∉Av
 ba:Paired (BrAt Av H ps LH) (List.range (ps.length+1)) xs
 tb:cU H mp rD rC
section
variable {Av:List Addr}{mp:Addr}{R:List (Nat×Nat)->Hp->Prop}{ps:List Nat}{LH:List (List Int)}{br:Addr}{xs:List V}{L L':List (Nat×Nat)}{H H':Hp}
def cA.nm (S:cA Av mp R ps LH br xs L H){b:Addr}{o:HO}(h:H b=some o)(n:∀ tab,o≠.tbl tab):b≠mp:=λz=>by
 obtain ⟨tab,e,_⟩:=S.tb.ex;rw[<-z,h]at e;exact n _ (aK e)
def cA.na (S:cA Av mp R ps LH br xs L H){b:Addr}{o:HO}(h:H b=some o)(n:∀ zs,o≠.lst zs):b∉Av:=λz=>by
 obtain ⟨zs,e⟩:=S.avs b z;rw[h]at e;exact n _ (aK e)
def cA.tup (S:cA Av mp R ps LH br xs L H)(k:KpA Av mp H H'){b:Addr}{us:List V}(h:H b=some (.tup us)):H' b=some (.tup us):=k _ _ (S.na h nofun) (S.nm h nofun) h
def cA.lst (S:cA Av mp R ps LH br xs L H)(k:KpA Av mp H H'){b:Addr}{us:List V}(h:H b=some (.lst us))(n:b∉Av):H' b=some (.lst us):=k _ _ n (S.nm h nofun) h
def cA.kp (S:cA Av mp R ps LH br xs L H)(k:KpA Av mp H H')(hT:cU H' mp rD rC)(hR:R L' H')(ha:∀ a∈Av,∃ zs,H' a=some (.lst zs)):cA Av mp R ps LH br xs L' H':=
 #[hR,ha,S.lst k S.at_ S.nb,S.nb,cz (λj x ⟨b,o,j',ys,h1,h2,h3,h4,h5,h6,h7⟩=>#[b,o,j',ys,h1,h2,h3,S.tup k h4,S.lst k h5 h2,S.lst k h6 h3,cz (λc y ⟨a,s,g1,g2,g3,g4⟩=>#[a,s,g1,g2,S.tup k g3,S.lst k g4 g2]) h7]) S.ba,hT]
def cA.tbv (S:cA Av mp R ps LH br xs L H)(k:KpV Av H H'):cU H' mp rD rC:=by
 obtain ⟨tab,h1,h2,h3⟩:=S.tb.ex;refine #[tab,k _ _ (S.na h1 nofun) h1,h2,?_];rcases h3 with h3|⟨c,h3,h4⟩
 .exact .inl h3
 .exact .inr #[c,h3,k _ _ (S.na h4 nofun) h4]
end
def iA {K:Frag}{H H':Hp}(k:∀ b us,H b=some (.tup us)->H' b=some (.tup us)):∀{es:List (Int×Int)} {ws:List V},aB K H es ws->aB K H' es ws
 | _,_,.nil=>.nil
 | _,_,.cons h t=>by
  refine .cons ?_ (iA k t);obtain ⟨a,x1,x2,rfl,hT,e1,e2⟩:=(show hasP K H _ _ from h);exact #[a,x1,x2,rfl,k _ _ hT,e1,e2]
def JI {D:Addr}{xs:List V}(x:cU H Pt pos q)(hD:H D=some (.lst xs)):cU (upd H D o) Pt pos q:=by
 obtain ⟨tab,h1,h2,h3⟩:=x.ex;have n1:Pt≠D:=λz=>by
  rw[z,hD]at h1;cases h1
 refine #[tab,by rw[ak n1];exact h1,h2,?_];rcases h3 with h3|⟨c,h3,h4⟩
 .exact .inl h3
 .refine .inr #[c,h3,?_];have n2:c≠D:=λz=>by
   rw[z]at h4;rw[show H D=_ from h4]at hD;cases hD
  show upd H D o c=_;rw[ak n2];exact h4
def cA.free {R:List (Nat×Nat)->Hp->Prop}(S:cA Av mp R ps LH br xs L H1)(k:KpA Av mp H H1){D:Addr}(h:H1 D=none):H D=none/\D∉Av/\D≠mp:=by
 have n1:D∉Av:=λz=>by
  obtain ⟨zs,e⟩:=S.avs D z;rw[h]at e;cases e
 have n2:D≠mp:=λz=>by
  obtain ⟨tab,e,_⟩:=S.tb.ex;rw[<-z,h]at e;cases e
 refine #[?_,n1,n2];cases e:H D with
 | none=>rfl
 | some o=>
  have:=k _ _ n1 n2 e;rw[h]at this;cases this
def Ci (T:aR ps)(R:bP LH){k:Nat}(hk:k<ps.length+1)(key:Int):atI ((fX k (ab ps LH k)).map nV) ((aS (ab ps LH k) key:Nat):Int)=some (.int ((ownB LH k key:Nat):Int)):=by
 have hle:=jf (ab ps LH k) key;refine cI ?_;rw[aY];unfold fX;rw[aY,gH (by lia),<-JH T R hk key];rfl
def jg {wy:List Nat}{i:Nat}(h:i<wy.length):(wy.map nV)[i]?=some (nV (wy.getD i 0)):=by
 rw[aY,aA,aw h];rfl
def iB {wy:List Nat}{i:Nat}(h:i<wy.length):wy.getD i 0∈wy:=by
 rw[aA,aw h];exact cG h
def Cj {α:Type}(f:Nat->α){wy:List Nat}{i:Nat}(h:i<wy.length):(wy.take (i+1)).map f=(wy.take i).map f++[f (wy.getD i 0)]:=by
 rw[cH h,bo,aA,aw h];rfl
def JJ (l:List Nat):cutV (l.map nV) (some 1) none=(l.drop 1).map nV:=by
 rw[show (1:Int)=((1:Nat):Int) from rfl,Cg,<-List.map_drop]
def rE (n k:Nat)(L:List (Nat×Nat)):Prop:=∃ A:List Nat,L=A.map (λx=>(k,x))/\A.Nodup/\(∀ x∈A,x<n)/\A.length<=figN n
def mM (n k st:Nat)(L:List (Nat×Nat)):Prop:=∃ A:List Nat,L=A.map (λx=>(k,x))/\A.Nodup/\(∀ x∈A,x<n/\(x=st\/x=st+1))/\A.length<=2
inductive vK (P:Program)(w:World)(K:Frag)(mg:Str->Option Value)(base:Heap)(mp:Addr)(vs:List V)(H:Hp)(Q:VK)(w_1:XK):Prop
 | c:∀(br f:Addr) (xs:List V) (ps:List Nat) (LH:List (List Int)) (k:Nat) (key:Int) (Av:List Addr) (fp:Addr->Prop) (R:List (Nat×Nat)->Hp->Prop) (L:List (Nat×Nat)),vs=[.ref br,.int k,.ref f]->AskF P w K mg base f Av mp fp R ps LH key->cA Av mp R ps LH br xs L H->aR ps->bP LH->k<ps.length+1->L.length<=3000->(ab ps LH k).length<=1000->(∀(H':Hp) (L':List (Nat×Nat)),cA Av mp R ps LH br xs (L++L') H'->KpA Av mp H H'->rE (ab ps LH k).length k L'->Q (.int (aS (ab ps LH k) key:Nat)) H')->vK P w K mg base mp vs H Q w_1
def JK (T:Txt K mg){mc mp:Addr}(rM:DFT K mg "first_place" jW qa mc mp)(hBM:BMAt mg base)(KW:∀ b,Sub K mg base b->FC P w K mg b 4 "how_many_below" pM (vI P w K mg b)):FC P w K mg base 5 "first_place" qa (vK P w K mg base mp):=by
 refine rM.ok GO (λvs H Q E h=>?_) (λf A outer s H vs Q E hr h=>?_)
 .obtain ⟨br,f,xs,ps,LH,k,key,Av,fp,R,L,rfl,_⟩:=h;rfl
 obtain ⟨br,f,xs,ps,LH,k,key,Av,fp,R,L,rfl,AF,S,hT,hR,hk,hLn,hFn,q⟩:=h;refine #[_,(av (aL (Ga (kf:=2) KW hr (aD (bI (K:=K)) (aD (aQ (K:=K)) (pv 0) (pv 1) (λ_ _=>rfl)) ah (λ_ _=>rfl)) (Aa (osc:=aH jW) (N:=["bridges","knot","is_below"]) (ps:=["at"]) (caps:=["is_below","knot"]) (cap:=[2,1]) #[rfl,rfl,rfl,by decide +kernel,by decide +kernel,by decide +kernel,by decide +kernel] (by decide +kernel) (by decide +kernel) rfl rfl rfl rfl (λ_ _ _ _ us hl=>match us,hl with|[_],_=>rfl) (λ_=>rfl)) rfl rM.hd hBM (λb _ _ _ _ _ _ _ S hr=>(FY P w K mg b (kr:=2) hr (pv 1) (aa (pv 2) (aa (pv 0) ae))))))),?_]
 obtain ⟨x,hx,b,o,j,ys,rfl,_,_,hb,ho,hj,hJ⟩:=fY S.ba hk;have hF:=mJ (fj hT hR hk (LH:=LH));refine #[_,rfl,_,rfl,_,_,_,_,rfl,rfl,SqL.of S.at_,cI hx,_,_,_,_,rfl,rfl,SqT.of hb,rfl,S.tb,[.ref f,.int k],rfl,?_,λbs g c' H2 hg hT2 hC SB hV=>?_]
 .intro j i v h1 h2;rcases j with _|_|j
  .cases h1;cases h2;rfl
  .cases h1;cases h2;rfl
  .cases h1
 obtain ⟨pn,sp,hFV,hask⟩:=(AF.lift SB).ask;have hR2:R L H2:=AF.keep _ _ _ S.r λb o hb e=>hg _ _ (λz=>hb.elim (λhb=>AF.nmp (z ▸ hb)) λ⟨us,hu⟩=>S.nm e (λtab y=>by rw[hu]at y;cases y) z) e
 have S2:cA Av mp R ps LH br xs L H2:=S.kp (.gro hg) hT2 hR2 (AF.avl _ _ hR2);refine #[(ab ps LH k).length,g,_,_,λi=>decide (((ab ps LH k).getD i (0,0)).1<key),λL1 H1=>R (L++L1.map λi=>(k,i)) H1/\KpV Av H2 H1,rfl,hV,#[by rw[jm,bZ];exact hR2,λ_ _ _ h=>h],λi L1 H1 Q1 hi hLi hR1 hQ=>?_,λi j hij hj hb=>?_,λm L1 H' hm hb1 hb2 hL hN hM hR1=>?_]
 .refine #[rfl,hR1.2 _ _ (S2.na hC nofun) hC,?_];refine #[_,rfl,f,2,pn,sp,rfl,hFV,ai _,_,rfl,_,rfl,?_];refine hask k i _ H1 _ hk hi (by have:=vH _ _ (ai (ab ps LH k).length);rw[aV,aq];lia) hR1.1 λH3 hR3 k3=>hQ _ #[?_,λb o n h=>k3 _ _ n (hR1.2 _ _ n h)];rw[bo,<-dA];exact hR3
 .refine bg ?_;have hb:=bJ hb;by_cases e:i=j
  .subst e;exact hb
  .have:=cM.mp hF i j (by lia) hj (by lia);rw[aA,aw (by lia)]at hb ⊢;exact Int.lt_of_le_of_lt this hb
 .have e:=Jz hm hb1 hb2;have q2:=q H' _ (S2.kp hR1.2.a (S2.tbv hR1.2) hR1.1 (AF.avl _ _ hR1.1)) (KpA.trans (.gro hg) hR1.2.a) #[L1,rfl,hN,hM,hL];rw[e]at q2;exact q2
inductive vL (K:Frag)(vs:List V)(H:Hp)(Q:VK)(w_1:XK):Prop
 | c:∀(Av:List Addr) (br:Addr) (ps:List Nat) (LH:List (List Int)) (xs:List V) (k c m:Nat),vs=[.ref br,.int k,.int m,.int c]->H br=some (.lst xs)->Paired (BrAt Av H ps LH) (List.range (ps.length+1)) xs->aR ps->k<ps.length+1->par ps c=some k->m<=(ab ps LH k).length->(∀ H',Same H H'->Q (.int (stN (ab ps LH c) ((ab ps LH k).take m):Nat)) H')->vL K vs H Q w_1
def JL (T:Txt K mg)(xh:DF K mg "start_in" oR qb):FC P w K mg base 1 "start_in" qb (vL K):=by
 refine xh.ok GP (λvs H Q E h=>?_) (λf cdv A outer s H vs Q E hr h=>?_)
 .obtain ⟨Av,br,ps,LH,xs,k,c,m,rfl,_⟩:=h;rfl
 obtain ⟨Av,br,ps,LH,xs,k,c,m,rfl,hbr,hB,hT,hk,hc,hm,q⟩:=h;obtain ⟨x,hx,b,o,j,ys,rfl,_,_,hb,ho,hj,hJ⟩:=fY hB hk;obtain ⟨kvs,h1,h2,h3⟩:=vG hJ;have hcm:c∈bw ps k (ps.length+1):=cW.mpr #[(bA hT hc).2,hc];obtain ⟨sa,hv,hsa⟩:=h3 c hcm (rA _ _ _);refine #[_,(av (aL (aD (aQ (K:=K)) (gO (dW hr) (ff (Aj rfl) rfl T.CK boot_dict (aa (aD (bI (K:=K)) (aD (aQ (K:=K)) (pv 0) (pv 1) (λ_ _=>rfl)) ah (λ_ _=>rfl)) ae)) (pv 3) (λ_ _=>rfl)) (pv 2) (λ_ _=>rfl)))),?_];refine #[_,rfl,_,rfl,_,_,_,_,rfl,rfl,SqL.of hbr,cI hx,_,_,_,_,rfl,rfl,SqT.of hb,rfl,?_];refine #[j,ys,kvs,rfl,SqL.of hj,h1,?_,λd hd=>?_]
 .rw[h2];exact List.Pairwise.map (R:=λa b:Nat=>a≠b) _ (λa b (n:a≠b) z=>n (by have:=Sum.inl.inj z;lia)) (rA ps k _)
 have sd:=aF hd (.dK kvs);refine #[_,rfl,d,.ref sa,rfl,?_,?_]
 .have:=DGet.k (k:=(.inl (c:Int))) (aj (H:=H) (a:=d) (o:=.dK kvs));rw[hv]at this;exact this
 refine #[_,rfl,_,_,_,_,rfl,rfl,SqL.of (sd _ _ hsa),cI (v:=nV (stN (ab ps LH c) ((ab ps LH k).take m))) ?_,q _ sd];rw[aY];unfold fK;rw[aY,gH (by lia)];rfl
def Ck {n k st m:Nat}(h1:m<=2)(h2:m=0\/st+m<=n):mM n k st ((List.range' st m).map λx=>(k,x)):=by
 refine #[_,rfl,List.nodup_range',λx hx=>?_,by rw[List.length_range'];exact h1];have:=List.mem_range'_1.mp hx;lia
inductive vM (P:Program)(w:World)(K:Frag)(mg:Str->Option Value)(base:Heap)(mp:Addr)(vs:List V)(H:Hp)(Q:VK)(w_1:XK):Prop
 | c:∀(br f:Addr) (xs:List V) (ps:List Nat) (LH:List (List Int)) (k st:Nat) (key:Int) (Av:List Addr) (fp:Addr->Prop) (R:List (Nat×Nat)->Hp->Prop) (L:List (Nat×Nat)),vs=[.ref br,.int k,.int st,.ref f]->AskF P w K mg base f Av mp fp R ps LH key->cA Av mp R ps LH br xs L H->aR ps->bP LH->k<ps.length+1->L.length<=8000->st<=aS (ab ps LH k) key->aS (ab ps LH k) key<=st+2->(∀(H':Hp) (L':List (Nat×Nat)),cA Av mp R ps LH br xs (L++L') H'->KpA Av mp H H'->mM (ab ps LH k).length k st L'->Q (.int (aS (ab ps LH k) key:Nat)) H')->vM P w K mg base mp vs H Q w_1
def JM (T:Txt K mg)(xi:DF K mg "next_place" oS qd):FC P w K mg base 3 "next_place" qd (vM P w K mg base mp):=by
 refine xi.ok pH (λvs H Q E h=>?_) (λf cdv A outer s H vs Q E hr h=>?_)
 .obtain ⟨br,f,xs,ps,LH,k,st,key,Av,fp,R,L,rfl,_⟩:=h;rfl
 obtain ⟨br,f,xs,ps,LH,k,st,key,Av,fp,R,L,rfl,AF,S,hT,hR,hk,hLn,hlo,hhi,q⟩:=h;refine #[_,(ay (aE (i:=4) pH.nd rfl (ar rfl) (bc (Dw rfl) rfl T.CL boot_min (aa (ax bH (pv 2) (ud rfl T.Kx)) (aa (aD (bI (K:=K)) (aD (aQ (K:=K)) (pv 0) (pv 1) (λ_ _=>rfl)) ah (λ_ _=>rfl)) ae))))
   (ay (aE (i:=5) pH.nd rfl (ar rfl) (pv 2))
   (ay (lr PassesOwn.never (PW.pt (iR (aZ fS (pv 5) (pv 4) (bp _)) (iQ (ig (ur (kr:=2) hr (pv 3) (aa (pv 1) (aa (pv 5) ae))))))) (av (aE (i:=5) pH.nd rfl (ar rfl) (ax bH (pv 5) ah))))
   (av (aL (pv 5)))))),?_]
 obtain ⟨x,hx,b,o,j,ys,rfl,_,_,hb,ho,hj,hJ⟩:=fY S.ba hk;have hF:=mJ (fj hT hR hk (LH:=LH));have hle:=jf (ab ps LH k) key;have hat:=λi h=>vF (key:=key) hF (i:=i) h;obtain ⟨pn,sp,hFV,hask⟩:=AF.ask;refine #[_,rfl,_,_,rfl,rfl,_,rfl,_,rfl,_,_,_,_,rfl,rfl,SqL.of S.at_,cI hx,_,_,_,_,rfl,rfl,SqT.of hb,rfl,_,_,rfl,?_];have eb:∃ m:Nat,(if (((ab ps LH k).length:Nat):Int)<(st:Int)+2 then (((ab ps LH k).length:Nat):Int) else (st:Int)+2)=(m:Int)/\m<=(ab ps LH k).length/\m<=st+2/\aS (ab ps LH k) key<=m:=by
  by_cases c:(((ab ps LH k).length:Nat):Int)<(st:Int)+2
  .exact #[_,af c,ai _,by lia,hle]
  .exact #[st+2,by rw[ag c];rfl,by lia,ai _,hhi]
 obtain ⟨m,em,hm1,hm2,hm3⟩:=eb;rw[em];refine #[_,rfl,?_];refine #[λn U H1=>∃(at_:Nat) (L1:List (Nat×Nat)),U=[some (.ref br),some (.int k),some (.int st),some (.ref f),some (.int m),some (.int at_)]/\st<=at_/\at_<=aS (ab ps LH k) key/\at_+n=m/\L1=(List.range' st (at_-st)).map (λx=>(k,x))/\cA Av mp R ps LH br xs (L++L1) H1/\KpA Av mp H H1,#[m-st,st,[],rfl,ai _,hlo,by lia,by rw[iK];rfl,by rw[bZ];exact S,λ_ _ _ _ h=>h],?_];rintro n U H1 ⟨at_,L1,rfl,h1,h2,h3,h4,S1,k1⟩;refine #[_,rfl,_,rfl,_,_,rfl,rfl,_,rfl,?_];refine ite2 (λc=>?_) (λc=>?_)
 .have c1:(at_:Int)<(m:Int):=bJ c;refine #[_,rfl,f,2,pn,sp,rfl,hFV,ai _,_,rfl,_,rfl,?_];have hll:L1.length=at_-st:=by rw[h4,aq,List.length_range']
  refine hask k at_ _ H1 _ hk (by lia) (by rw[aV];lia) S1.r λH2 hR2 k2=>?_;have S2:=S1.kp k2.a (S1.tbv k2) hR2 (AF.avl _ _ hR2);rw[dA]at S2;have k02:KpA Av mp H H2:=k1.trans k2.a;have hL2:L1++[(k,at_)]=(List.range' st (at_+1-st)).map (λx=>(k,x)):=by
   rw[h4,show at_+1-st=at_-st+1 by lia,List.range'_concat,bo];show _=_++[(k,st+1*(at_-st))];rw[show st+1*(at_-st)=at_ by lia]
  have hge:(ab ps LH k).getD at_ (0,0)=(ab ps LH k)[at_]'(by lia):=by
   rw[aA,aw (by lia)];rfl
  refine #[_,rfl,?_];refine ite2 (λc2=>?_) (λc2=>?_)
  .have c3:=bJ c2;rw[hge]at c3;have hlt:at_<aS (ab ps LH k) key:=eW λz=>(hat at_ (by lia)).2 z c3;refine #[λU' H'=>U'=[some (.ref br),some (.int k),some (.int st),some (.ref f),some (.int m),some (.int ((at_:Int)+1))]/\H'=H2,?_,?_]
   .rintro U' H' ⟨rfl,rfl⟩;exact #[n-1,by lia,at_+1,_,rfl,by lia,by lia,by lia,hL2,S2,k02]
   .exact #[_,rfl,_,_,rfl,rfl,rfl,rfl]
  .have hge2:aS (ab ps LH k) key<=at_:=cf λz=>c2 (bg (by rw[hge];exact (hat at_ (by lia)).1 z));have e:at_=aS (ab ps LH k) key:=by lia
   refine #[_,rfl,?_];have q2:=q _ _ S2 k02 (by rw[hL2];exact Ck (by lia) (by lia));rwa[<-e]at q2
 .have c1:¬ (at_:Int)<(m:Int):=iO (iN.mpr c);have e:at_=aS (ab ps LH k) key:=by lia
  refine iteF ?_;refine #[_,rfl,?_];have q2:=q _ _ S1 k1 (by rw[h4];exact Ck (by lia) (by lia));rwa[<-e]at q2
abbrev stW (ps:List Nat)(LH:List (List Int))(key:Int)(wy:List Nat)(i:Nat):Nat:=stN (ab ps LH (wy.getD (i+1) 0)) ((ab ps LH (wy.getD i 0)).take (aS (ab ps LH (wy.getD i 0)) key))
structure iC (ps:List Nat)(LH:List (List Int))(key:Int)(wy:List Nat)(i:Nat)(L:List (Nat×Nat)):Prop where
 nd:L.Nodup
 kn:∀ e∈L,e.1∈wy.take (i+1)/\e.2<(ab ps LH e.1).length
 fst:(L.filter λe=>decide (e.1=wy.getD 0 0)).length<=figN (ab ps LH (wy.getD 0 0)).length
 nxt:∀ t,t+1<=i->∀ e∈L,e.1=wy.getD (t+1) 0->e.2=stW ps LH key wy t\/e.2=stW ps LH key wy t+1
def rE.len {n k:Nat}(h:rE n k L):L.length<=figN n:=by
 obtain ⟨A,rfl,_,_,h4⟩:=h;rw[aq];exact h4
def mM.len {n k st:Nat}(h:mM n k st L):L.length<=2:=by
 obtain ⟨A,rfl,_,_,h4⟩:=h;rw[aq];exact h4
def Cm {k:Nat}{A:List Nat}(h:A.Nodup):(A.map λx=>(k,x)).Nodup:=iM.mpr (h.imp λ{a b} q z=>q (congrArg Prod.snd z))
def iC.first {key:Int}{wy:List Nat}{L:List (Nat×Nat)}(hp:0<wy.length)(h:rE (ab ps LH (wy.getD 0 0)).length (wy.getD 0 0) L):iC ps LH key wy 0 L:=by
 have hl:=h.len;obtain ⟨A,rfl,h2,h3,_⟩:=h;refine #[Cm h2,λe he=>?_,az (eP _ _) hl,λt ht=>absurd ht (by lia)];obtain ⟨x,hx,rfl⟩:=bC.mp he;refine #[?_,h3 x hx];rw[Cf hp,f6];exact bu
def iC.next {key:Int}{wy:List Nat}{i:Nat}{L':List (Nat×Nat)}(up:wy.Pairwise (· < ·))(hi:i+1<wy.length)(M:iC ps LH key wy i L)(h:mM (ab ps LH (wy.getD (i+1) 0)).length (wy.getD (i+1) 0) (stW ps LH key wy i) L'):iC ps LH key wy (i+1) (L++L'):=by
 obtain ⟨A,rfl,h2,h3,_⟩:=h;have lt:∀{a b:Nat},a<b->b<wy.length->wy.getD a 0<wy.getD b 0:=λ{a b} hab hb=>by
  have:=cM.mp up a b (by lia) hb hab;rwa[aA,aA,aw hb,aw (by lia)]
 have old:∀ x∈wy.take (i+1),x<wy.getD (i+1) 0:=λx hx=>by
  obtain ⟨j,hj,rfl⟩:=ny.mp hx;have:=lt (a:=j) (b:=i+1) (by lia) hi;rwa[aA,aw (by lia)]at this
 refine #[fO.mpr #[M.nd,Cm h2,λa ha b hb z=>?_],λe he=>?_,?_,λt ht e he e1=>?_]
 .obtain ⟨x,hx,rfl⟩:=bC.mp hb;rw[z]at ha;exact absurd (old _ (M.kn _ ha).1) (dv _)
 .rw[Cf hi];rcases bj.mp he with z|z
  .exact #[eE _ (M.kn e z).1,(M.kn e z).2]
  .obtain ⟨x,hx,rfl⟩:=bC.mp z;exact #[bV _ bu,(h3 x hx).1]
 .rw[cZ];have e0:(A.map λx=>(wy.getD (i+1) 0,x)).filter (λe=>decide (e.1=wy.getD 0 0))=[]:=lg.mpr λe he z=>by
   obtain ⟨x,hx,rfl⟩:=bC.mp he;have z:wy.getD (i+1) 0=wy.getD 0 0:=bJ z;have:=lt (a:=0) (b:=i+1) (by lia) hi;lia
  rw[e0,bZ];exact M.fst
 .rcases bj.mp he with z|z
  .rcases jw t i with c|c
   .exact M.nxt t (by lia) e z e1
   .have:=old _ (M.kn e z).1;rw[e1,show t=i by lia]at this;exact absurd this (dv _)
  .obtain ⟨x,hx,rfl⟩:=bC.mp z;have e1:wy.getD (i+1) 0=wy.getD (t+1) 0:=e1;rcases jw t i with c|c
   .have:=lt (a:=t+1) (b:=i+1) (by lia) hi;lia
   .rw[show t=i by lia];exact (h3 x hx).2
inductive vN (P:Program)(w:World)(K:Frag)(mg:Str->Option Value)(base:Heap)(mp:Addr)(vs:List V)(H:Hp)(Q:VK)(w_1:XK):Prop
 | c:∀(br wa f:Addr) (xs:List V) (ps:List Nat) (LH:List (List Int)) (wy:List Nat) (key:Int) (Av:List Addr) (fp:Addr->Prop) (R:List (Nat×Nat)->Hp->Prop) (L:List (Nat×Nat)),vs=[.ref br,.ref wa,.ref f]->AskF P w K mg base f Av mp fp R ps LH key->cA Av mp R ps LH br xs L H->aR ps->bP LH->ps.length<=40->fL H wa ps wy->wa∉Av->L.length<=1000->(∀ k,k<ps.length+1->(ab ps LH k).length<=1000)->(∀(D:Addr) (zs:List V) (H':Hp) (L':List (Nat×Nat)),cA Av mp R ps LH br xs (L++L') H'->KpA Av mp H H'->H D=none->H' D=some (.lst zs)->aB K H' (wy.map λk=>(((aS (ab ps LH k) key:Nat):Int),((ownB LH k key:Nat):Int))) zs->L'.length<=figN (ab ps LH (wy.getD 0 0)).length+2*(wy.length-1)->iC ps LH key wy (wy.length-1) L'->Q (.ref D) H')->vN P w K mg base mp vs H Q w_1
def JN (T:Txt K mg)(xj:DF K mg "search" oT qe)(KY:FC P w K mg base 5 "first_place" qa (vK P w K mg base mp))(KZ:FC P w K mg base 1 "start_in" qb (vL K))(K0:FC P w K mg base 3 "next_place" qd (vM P w K mg base mp)):FC P w K mg base 6 "search" qe (vN P w K mg base mp):=by
 refine xj.ok j4 (λvs H Q E h=>?_) (λf cdv A outer s H vs Q E hr h=>?_)
 .obtain ⟨br,wa,f,xs,ps,LH,wy,key,Av,fp,R,L,rfl,_⟩:=h;rfl
 obtain ⟨br,wa,f,xs,ps,LH,wy,key,Av,fp,R,L,rfl,AF,S,hT,hR,few,W,nwa,hLn,hFn,q⟩:=h;have hwl:=W.len;have hpos:0 < wy.length:=nF.mpr W.ne;refine #[_,(ay (aE (i:=3) j4.nd rfl (ar rfl) (aG KY hr (aa (pv 0) (aa (aD (aQ (K:=K)) (pv 1) ah (λ_ _=>rfl)) (aa (pv 2) ae)))))
   (ay (aE (i:=4) j4.nd rfl (ar rfl) (dn (aa (cN (aa (pv 3) (aa (aD (aQ (K:=K)) (aD (bI (K:=K)) (aD (aQ (K:=K)) (pv 0) (aD (aQ (K:=K)) (pv 1) ah (λ_ _=>rfl)) (λ_ _=>rfl)) ah (λ_ _=>rfl)) (pv 3) (λ_ _=>rfl)) ae))) ae)))
   (ay (bW PassesOwn.never rfl (nZ rfl T.rL (aa (pv 1) (aa (gb (jT (K:=K)) (pv 1) (eh ah) lC) ae))) (fR rfl (cD (aI (i:=5) j4.nd rfl (ar rfl)) (cD (aI (i:=6) j4.nd rfl (ar rfl)) fA))) (ay (aE (i:=3) j4.nd rfl (ar rfl) (aG K0 hr (aa (pv 0) (aa (pv 6) (aa (aG KZ hr (aa (pv 0) (aa (pv 5) (aa (pv 3) (aa (pv 6) ae))))) (aa (pv 2) ae))))))
   (av (dR (dU F.plainAttrs_list F.slot_list_append F.type_list_append dD (pv 4) (aa (cN (aa (pv 3) (aa (aD (aQ (K:=K)) (aD (bI (K:=K)) (aD (aQ (K:=K)) (pv 0) (pv 6) (λ_ _=>rfl)) ah (λ_ _=>rfl)) (pv 3) (λ_ _=>rfl)) ae))) ae))))))
   (av (aL (pv 4)))))),?_]
 have hk0:wy.getD 0 0<ps.length+1:=W.kn _ (iB hpos);have hw0:atI (wy.map nV) 0=some (nV (wy.getD 0 0)):=cI (j:=0) (jg hpos);refine #[_,rfl,_,rfl,_,_,_,_,rfl,rfl,SqL.of W.at_,hw0,_,rfl,br,f,xs,ps,LH,wy.getD 0 0,key,Av,fp,R,L,rfl,AF,S,hT,hR,hk0,by lia,hFn _ hk0,λH1 L1 S1 k1 hL1=>?_];have hl1:=hL1.len;have W1:=S.lst k1 W.at_ nwa;obtain ⟨x0,hx0,b0,o0,j0,ys0,rfl,_,_,hb0,ho0,_,_⟩:=fY S1.ba hk0;refine #[_,rfl,_,rfl,_,rfl,_,_,_,_,rfl,rfl,SqL.of W1,hw0,_,_,_,_,rfl,rfl,SqL.of S1.at_,cI hx0,_,_,_,_,rfl,rfl,SqT.of hb0,rfl,_,rfl,_,_,_,_,rfl,rfl,SqL.of ho0,Ci hT hR hk0 key,(by show 2<=sizeLine;decide),λt ht=>#[(by show 1<=sizeLine;decide),λD hD=>?_]];have st:=aF ht (.tup [.int ((aS (ab ps LH (wy.getD 0 0)) key:Nat):Int),.int ((ownB LH (wy.getD 0 0) key:Nat):Int)]);have sD:=aF hD (.lst [.ref t]);have hD1:H1 D=none:=st.free hD;obtain ⟨hDn,nDA,nDm⟩:=S1.free k1 hD1;have nfD:¬ fp D:=λz=>AF.alloc _ _ _ S1.r z hD1;have s13:=st.trans sD;have tb3:=S1.tb.ext s13.ext;have hR3:=AF.keep _ _ _ S1.r λb o _ e=>s13 b o e;have S3:=S1.kp (.of s13) tb3 hR3 (AF.avl _ _ hR3);have k03:KpA Av mp H _:=k1.trans (.of s13);have h3D:upd (upd H1 t (.tup [.int ((aS (ab ps LH (wy.getD 0 0)) key:Nat):Int),.int ((ownB LH (wy.getD 0 0) key:Nat):Int)])) D (.lst [.ref t]) D=some (.lst [.ref t]):=aj;have h3t:=sD _ _ (aj (H:=H1) (a:=t) (o:=.tup [.int ((aS (ab ps LH (wy.getD 0 0)) key:Nat):Int),.int ((ownB LH (wy.getD 0 0) key:Nat):Int)]));generalize upd (upd H1 t (.tup [.int ((aS (ab ps LH (wy.getD 0 0)) key:Nat):Int),.int ((ownB LH (wy.getD 0 0) key:Nat):Int)])) D (.lst [.ref t])=H3 at S3 k03 h3D h3t ⊢;clear tb3 hR3 s13 sD hD st ht hb0 ho0 hx0;have W3:=S.lst k03 W.at_ nwa;refine #[_,rfl,_,rfl,1,rfl,wa,_,rfl,SqL.of W3,λy hy=>?_];rw[JJ];have sy:=aF hy (.lst ((wy.drop 1).map nV));obtain ⟨hyn,nyA,nym⟩:=S3.free k03 hy;have nDy:D≠y:=au h3D hy;have tb4:=S3.tb.ext sy.ext;have hR4:=AF.keep _ _ _ S3.r λb o _ e=>sy b o e;have S4:=S3.kp (.of sy) tb4 hR4 (AF.avl _ _ hR4);have k04:KpA Av mp H _:=k03.trans (.of sy);have h4y:upd H3 y (.lst ((wy.drop 1).map nV)) y=some (.lst ((wy.drop 1).map nV)):=aj;have h4D:=sy _ _ h3D;have h4t:=sy _ _ h3t;generalize upd H3 y (.lst ((wy.drop 1).map nV))=H4 at S4 k04 h4D h4t h4y ⊢;clear tb4 hR4 sy hy h3D h3t S3 k03 W3;refine #[wa,y,rfl,#[_,SqL.of (S.lst k04 W.at_ nwa)],#[_,SqL.of h4y],?_];have hdl:((wy.drop 1).map nV).length=wy.length-1:=by rw[aq,eG]
 refine Gd (xs:=wy.map nV) (ys:=(wy.drop 1).map nV) (by rw[hdl,aq];lia) (λi U H5=>∃(x5 x6:Option V) (zs:List V) (L2:List (Nat×Nat)),U=[some (.ref br),some (.ref wa),some (.ref f),some (.int ((aS (ab ps LH (wy.getD i 0)) key:Nat):Int)),some (.ref D),x5,x6]/\H5 D=some (.lst zs)/\aB K H5 ((wy.take (i+1)).map λk=>(((aS (ab ps LH k) key:Nat):Int),((ownB LH k key:Nat):Int))) zs/\cA Av mp R ps LH br xs (L++L2) H5/\KpA Av mp H H5/\L2.length<=figN (ab ps LH (wy.getD 0 0)).length+2*i/\iC ps LH key wy i L2/\H5 y=some (.lst ((wy.drop 1).map nV))) ?_ ?_ ?_ ?_
 .refine #[_,_,[.ref t],L1,rfl,h4D,?_,S4,k04,by lia,.first hpos hL1,h4y];rw[Cj _ hpos,f6];exact .cons #[t,_,_,rfl,h4t,rfl,rfl] .nil
 .rintro i U H5 _ ⟨x5,x6,zs,L2,rfl,h5,hA,S5,k05,hL2,hMo,h5y⟩;exact #[SqL.of (S.lst k05 W.at_ nwa),SqL.of h5y]
 .rintro i x x' U H5 p hx hx' ⟨x5,x6,zs,L2,rfl,h5,hA,S5,k05,hL2,hMo,h5y⟩ hp;have hi:i+1<wy.length:=by
   have:=(aN.mp hx').1;lia
  rw[jg (by lia)]at hx;cases hx
  rw[List.map_drop,kQ,gE 1 i,jg hi]at hx';cases hx'
  have hpar:=W.ch i hi;have hki:wy.getD i 0<ps.length+1:=W.kn _ (iB (by lia));have hkj:wy.getD (i+1) 0<ps.length+1:=W.kn _ (iB hi);have NO:=JB hT hR few hki hpar (LH:=LH) key;refine #[p,_,rfl,SqT.of aj,rfl,_,_,rfl,_,_,rfl,rfl,?_];have s6:=aF hp (.tup [nV (wy.getD i 0),nV (wy.getD (i+1) 0)]);have hR6:=AF.keep _ _ _ S5.r λb o _ e=>s6 b o e;have S6:=S5.kp (.of s6) (S5.tb.ext s6.ext) hR6 (AF.avl _ _ hR6);refine #[_,rfl,_,rfl,_,rfl,_,rfl,_,rfl,_,rfl,Av,br,ps,LH,xs,wy.getD i 0,wy.getD (i+1) 0,_,rfl,S6.at_,S6.ba,hT,hki,hpar,jf _ _,λH7 s7=>?_];have s57:=s6.trans s7;have hR7:=AF.keep _ _ _ S5.r λb o _ e=>s57 b o e;have S7:=S5.kp (.of s57) (S5.tb.ext s57.ext) hR7 (AF.avl _ _ hR7);refine #[_,rfl,br,f,xs,ps,LH,wy.getD (i+1) 0,_,key,Av,fp,R,_,rfl,AF,S7,hT,hR,hkj,(by have:=vH _ _ (ai (ab ps LH (wy.getD 0 0)).length);have:=hFn _ hk0;rw[aV];lia),NO.lo,NO.hi,λH8 L3 S8 k8 hL3=>?_];have k58:KpA Av mp H5 H8:=(KpA.of s57).trans k8;have k08:=k05.trans k58;have h8:=k58 _ _ nDA nDm h5;have h8y:=k58 _ _ nyA nym h5y;obtain ⟨x1,hx1,b1,o1,j1,ys1,rfl,_,_,hb1,ho1,_,_⟩:=fY S8.ba hkj;have hzl:=hA.length;rw[aq,aW]at hzl;refine #[_,rfl,.inl #[rfl,_,SqL.of h8],_,rfl,_,rfl,_,rfl,_,_,_,_,rfl,rfl,SqL.of S8.at_,cI hx1,_,_,_,_,rfl,rfl,SqT.of hb1,rfl,_,rfl,_,_,_,_,rfl,rfl,SqL.of ho1,Ci hT hR hkj key,(by show 2<=sizeLine;decide),λt2 ht2=>?_];have s9:=aF ht2 (.tup [.int ((aS (ab ps LH (wy.getD (i+1) 0)) key:Nat):Int),.int ((ownB LH (wy.getD (i+1) 0) key:Nat):Int)]);have h9t:upd H8 t2 (.tup [.int ((aS (ab ps LH (wy.getD (i+1) 0)) key:Nat):Int),.int ((ownB LH (wy.getD (i+1) 0) key:Nat):Int)]) t2=_:=aj;have h9:=s9 _ _ h8;have h9y:=s9 _ _ h8y;have k09:=k08.trans (.of s9);have hR9:=AF.keep _ _ _ S8.r λb o _ e=>s9 b o e;have tb9:=S8.tb.ext s9.ext;have hA9:=iA (H':=upd H8 t2 (.tup [.int ((aS (ab ps LH (wy.getD (i+1) 0)) key:Nat):Int),.int ((ownB LH (wy.getD (i+1) 0) key:Nat):Int)])) (λb us e=>s9 _ _ (S5.tup k58 e)) hA;generalize upd H8 t2 (.tup [.int ((aS (ab ps LH (wy.getD (i+1) 0)) key:Nat):Int),.int ((ownB LH (wy.getD (i+1) 0) key:Nat):Int)])=H9 at h9t h9 h9y k09 hR9 tb9 hA9 ⊢;have k0D:KpA Av mp H (upd H9 D (.lst (zs++[.ref t2]))):=λb o n1 n2 e=>by
   rw[ak (au e hDn)];exact k09 _ _ n1 n2 e
  have hRD:R (L++L2++L3) (upd H9 D (.lst (zs++[.ref t2]))):=AF.keep _ _ _ hR9 λb o hb e=>by
   have n:b≠D:=λz=>hb.elim (λhb=>nfD (z ▸ hb)) λ⟨us,hu⟩=>by
    rw[z,h9,hu]at e;cases e
   rw[ak n];exact e
  refine #[_,_,_,rfl,rfl,h9,bt (by lia),_,_,_,L2++L3,rfl,aj,?_,?_,k0D,?_,hMo.next (JF hT W.ch) hi hL3,?_]
  .rw[Cj _ hi];exact aB.append (dG h9 hA9) (.cons #[t2,_,_,rfl,by rw[ak (λz=>by rw[z,h9]at h9t;cases h9t)];exact h9t,rfl,rfl] .nil)
  .rw[<-dA];exact S.kp k0D (JI tb9 h9) hRD (AF.avl _ _ hRD)
  .have:=hL3.len;rw[aV];lia
  .rw[ak (aT nDy)];exact h9y
 .rintro U H5 ⟨x5,x6,zs,L2,rfl,h5,hA,S5,k05,hL2,hMo,h5y⟩;rw[hdl]at hA hL2 hMo;rw[bx (by lia)]at hA;refine #[_,rfl,?_];exact q D zs H5 L2 S5 k05 hDn h5 hA hL2 hMo
def Kp0 (H H':Hp):Prop:=∀ b o,(∀ tab,o≠.tbl tab)->H b=some o->H' b=some o
def Cn {K:Frag}(k:Kp0 H H'):∀{es:List (Int×Int)} {ws:List V},aB K H es ws->aB K H' es ws
 | _,_,.nil=>.nil
 | _,_,.cons h t=>by
  refine .cons ?_ (Cn k t);obtain ⟨a,x1,x2,rfl,hT,e1,e2⟩:=(show hasP K H _ _ from h);exact #[a,x1,x2,rfl,k _ _ nofun hT,e1,e2]
def Co {K:Frag}{js:List Nat}{qs:List Addr}(k:Kp0 H H')(h:bq K H ps LH js qs):bq K H' ps LH js qs:=cz (λj q ⟨ws,h1,h2⟩=>#[ws,k _ _ (λ_ z=>by cases z) h1,Cn k h2]) h
def Kp0.trans (a:Kp0 H H1)(b:Kp0 H1 H2):Kp0 H H2:=λc o n h=>b c o n (a c o n h)
def Kp0.of (a:Same H H1):Kp0 H H1:=λc o _ h=>a c o h
def Kp0.tup {H H1:Hp}(a:Kp0 H H1){b:Addr}{us:List V}(h:H b=some (.tup us)):H1 b=some (.tup us):=a _ _ nofun h
def Kp0.lst {H H1:Hp}(a:Kp0 H H1){b:Addr}{us:List V}(h:H b=some (.lst us)):H1 b=some (.lst us):=a _ _ nofun h
def Cp (e:Kp0 H H'):∀{as:List Addr} {LH:List (List Int)},bK H as LH->bK H' as LH
 | _,_,.nil=>.nil
 | _,_,.cons h t=>.cons (e.tup h) (Cp e t)
def JO {st t:Addr}(e:Kp0 H H')(S:dH H st ps LH t rs as):dH H' st ps LH t rs as:=
 #[e.tup S.st,e.tup S.tr,e.tup S.rs,Cp e S.at_,S.len,S.T,S.R,S.few,S.keys]
def JP {w:List Nat}(e:Kp0 H H')(h:fL H wa ps w):fL H' wa ps w:=#[e.lst h.at_,h.len,h.ne,h.ch,h.kn]
def JQ (s:LS K L d H)(g:Kp0 H H'):LS K L d H':=by
 obtain ⟨ns,a,l,e,q⟩:=s.ex;refine #[ns,a,l,g _ _ nofun e,?_];rcases q with (q|⟨o,q⟩)|q
 .exact .inl (.inl (g _ _ nofun q))
 .exact .inl (.inr #[o,g _ _ nofun q])
 .exact .inr q
def Cq {LH:List (List Int)}{r:List Int}(h:r∈LH):r.length<=cP LH:=by
 unfold cP
 induction LH with
 | nil=>cases h
 | cons a l ih=>
  rw[bS,dB];rcases aX.mp h with z|z
  .rw[z];lia
  .have:=ih z;lia
def Cr {LH:List (List Int)}{k:Nat}(h:k<LH.length):bO LH k∈LH:=by
 unfold bO
 rw[aA,aw h];exact cG h
def JR (T:Txt K mg)(xk:DF K mg "_law_children" o5 ql):FC P w K mg base 1 "_law_children" ql (ko K):=by
 refine xk.ok GR (λvs H Q E h=>?_) (λf cdv A outer s H vs Q E hr h=>?_)
 .obtain ⟨t,ps,k,rfl,_⟩:=h;rfl
 obtain ⟨t,ps,k,rfl,ht,hz,q⟩:=h;refine #[_,(av (aL (dY (N:=["_law_k","_law_tree_here","_law_knot"]) (own:=1) (cap:=[0,1]) rfl (eQ rfl T.c8 (aa (bc (bU (K:=K)) rfl T.bQ bL (aa (pv 0) ae)) ae)) #[rfl,rfl,rfl,rfl,rfl,rfl] (λ_ _ _ _ _=>(aI (i:=0) (show List.Nodup (["_law_k","_law_tree_here","_law_knot"]:List Str) by decide +kernel) rfl (ar rfl))) (λ_ _ _ _ _=>(gn (aZ c9 (aD (bI (K:=K)) (pv 1) (pv 0) (λ_ _=>rfl)) (pv 2) (bp _)))) (λ_ _ _ _ _=>(pv 0))))),?_];refine #[_,rfl,_,_,rfl,.inr (SqT.of ht),_,rfl,by lia,by rw[cO];lia,λD hD=>?_];have el:((((cy ps).length:Nat):Int)).toNat=ps.length+1:=by rw[cO,fm]
 rw[el];refine iZ (n:=ps.length+1) (λj U H3=>∃ x0:Option V,U=[x0,some (.ref t),some (.int k)]/\H3 D=some (.lst ((bw ps k j).map nV))/\But D H H3) ?_ ?_ ?_
 .exact #[_,rfl,aj,λb o n e=>by rw[ak n];exact e]
 .rintro j m U H3 hm hj ⟨x0,rfl,h3,k3⟩;rw[fb];have h3t:=k3 _ _ (au ht hD) ht;have hlen:=mj ps k j;refine #[_,rfl,_,rfl,_,_,_,_,rfl,rfl,SqT.of h3t,q9 hj,_,rfl,BL _ _ _,_,rfl,?_];refine ite2 (λc=>?_) (λc=>?_)
  .have c':par ps j=some k:=rg.mp (bJ c);refine #[_,rfl,_,h3,bt (by rw[aq];lia),m-1,by lia,by lia,_,rfl,?_,λb o n e=>by rw[ak n];exact k3 b o n e];rw[aj,qP,af c',bo];rfl
  .have c':¬ par ps j=some k:=λz=>c (bg (rg.mpr z));refine #[m-1,by lia,by lia,_,rfl,?_,k3];rw[h3,qP,ag c',bZ]
 .rintro U H3 ⟨x0,rfl,h3,k3⟩;exact q D H3 hD (λb o e=>k3 b o (au e hD) e) h3
def JS {us:List Nat}{c ch:Nat}(h:ix ps (us++[c]))(hp:par ps ch=some c):ix ps ((us++[c])++[ch]):=HJ h λ_=>by
 rw[hp,aV,di,iL,aA,eF (ai _),iK];rfl
inductive vO (K:Frag)(vs:List V)(H:Hp)(Q:VK)(w_1:XK):Prop
 | c:∀(d L t:Addr) (ps:List Nat),vs=[.ref d,.ref t]->H t=some (.tup (cy ps))->aR ps->ps.length<=40->LS K L d H->(∀(wa:Addr) (w:List Nat) (H':Hp),H wa=none->fL H' wa ps w->Keep d H H'->LS K L d H'->Q (.ref wa) H')->vO K vs H Q w_1
def JT (T:Txt K mg)(xn:DF K mg "_law_way" o6 qm)(bR:FC P w K mg base 2 "_law_take" gw (gP K))(CN:FC P w K mg base 1 "_law_children" ql (ko K)):FC P w K mg base 3 "_law_way" qm (vO K):=by
 refine xn.ok pJ (λvs H Q E h=>?_) (λf cdv A outer s H vs Q E hr h=>?_)
 .obtain ⟨d,L,t,ps,rfl,_⟩:=h;rfl
 obtain ⟨d,L,t,ps,rfl,ht,hT,hl,hs,q⟩:=h;have ndT:∀{H':Hp} {a:Addr} {o:List V},LS K L d H'->H' a=some (.tup o)->a≠d:=λ{H' a o} s e z=>by
  obtain ⟨_,_,_,e2,_⟩:=s.ex;rw[<-z,e]at e2;cases e2
 have nd:∀{H':Hp} {a:Addr},LS K L d H'->H' a=none->a≠d:=λ{H' a} s e z=>by
  obtain ⟨_,_,_,e2,_⟩:=s.ex;rw[<-z,e]at e2;cases e2
 have free:∀{H':Hp} {a:Addr},Keep d H H'->LS K L d H'->H' a=none->H a=none:=λ{H' a} k s e=>by
  cases e2:H a with
  | none=>rfl
  | some o=>
   have:=k _ _ (nd s e) e2;rw[e]at this;cases this
 refine #[_,(ay (aE (i:=2) pJ.nd rfl (ar rfl) (dn (aa (aG bR hr (aa (pv 0) (aa (bc (bU (K:=K)) rfl T.bQ bL (aa (pv 1) ae)) ae))) ae)))
   (fG (cg (aZ c9 (aG bR hr (aa (pv 0) (aa ah ae))) ah (bp _)) (av (aE (i:=2) pJ.nd rfl (ar rfl) (dn (aa ah ae)))) cw)
   (ay (lr PassesOwn.never (PW.pt (iR (aZ (lR (List Int) (huD hr)) (aG CN hr (aa (pv 1) (aa (aD (aQ (K:=K)) (pv 2) (fc fe ah) (λ_ _=>rfl)) ae))) (dn ae) (bp _)) (iQ (aZ lA (aG bR hr (aa (pv 0) (aa ah ae))) ah (bp _))))) (ay (aE (i:=3) pJ.nd rfl (ar rfl) (aG CN hr (aa (pv 1) (aa (aD (aQ (K:=K)) (pv 2) (fc fe ah) (λ_ _=>rfl)) ae))))
   (av (dR (dU F.plainAttrs_list F.slot_list_append F.type_list_append dD (pv 2) (aa (aD (aQ (K:=K)) (pv 3) (aG bR hr (aa (pv 0) (aa (bc (bU (K:=K)) rfl T.bQ bL (aa (pv 3) ae)) ae))) (λ_ _=>rfl)) ae))))))
   (av (aL (pv 2)))))),?_]
 refine #[_,rfl,_,rfl,_,_,rfl,.inr (SqT.of ht),d,L,_,rfl,by rw[cO];lia,hs,λv H1 v0 v1 k1 s1=>?_];rw[cO]at v1;obtain ⟨k0,rfl⟩:=qS v0;refine #[(by show 1<=sizeLine;decide),λp hp=>?_];have sp:=aF hp (.lst [nV k0]);have hpp:upd H1 p (.lst [nV k0]) p=some (.lst [nV k0]):=aj;have s1p:=s1.same sp;have k1p:Keep d H (upd H1 p (.lst [nV k0])):=λb o nb e=>sp _ _ (k1 _ _ nb e);have hp0:=free k1 s1 hp;generalize upd H1 p (.lst [nV k0])=H2 at hpp s1p k1p ⊢;refine #[λU' H'=>∃(p:Addr) (k0:Nat),U'=[some (.ref d),some (.ref t),some (.ref p),none]/\H' p=some (.lst [nV k0])/\k0<ps.length+1/\H p=none/\Keep d H H'/\LS K L d H',?_,?_]
 .refine #[_,rfl,d,L,2,rfl,by decide,s1p,λv H3 _ _ k3 s3=>#[rfl,_,rfl,?_]];have hpd:p≠d:=nd s1 hp;have k03:Keep d H H3:=λb o nb e=>k3 _ _ nb (k1p _ _ nb e);refine ite2 (λ_=>?_) (λ_=>?_)
  .refine #[(by show 1<=sizeLine;decide),λu hu=>?_];have su:=aF hu (.lst [nV 0]);exact #[u,0,rfl,aj,by lia,free k03 s3 hu,λb o nb e=>su _ _ (k03 _ _ nb e),s3.same su]
  .exact #[p,k0,rfl,k3 _ _ hpd hpp,by lia,hp0,k03,s3]
 clear hpp s1p k1p hp0 sp hp k1 s1;rintro U' H3 ⟨p,k0,rfl,h3,hk0,hp,k3,s3⟩;have hpd:p≠d:=nd hs hp;have htp:t≠p:=au ht hp;have htd:=ndT hs ht;refine ue (λU HW=>∃(us:List Nat) (c:Nat) (x3:Option V),U=[some (.ref d),some (.ref t),some (.ref p),x3]/\HW p=some (.lst ((us++[c]).map nV))/\us.length<=c/\c<ps.length+1/\ix ps (us++[c])/\(∀ x∈us++[c],x<ps.length+1)/\(∀ b o,b≠d->b≠p->H b=some o->HW b=some o)/\LS K L d HW)
  (λU HW=>∃(w:List Nat) (x3:Option V),U=[some (.ref d),some (.ref t),some (.ref p),x3]/\fL HW p ps w/\(∀ b o,b≠d->b≠p->H b=some o->HW b=some o)/\LS K L d HW)
  (λ_ H2=>match H2 p with|some (.lst xs)=>1000-xs.length|_=>0) ?_ ?_ ?_ ?_
 .refine #[[],k0,_,rfl,h3,bG _,hk0,λt ht=>?_,λx hx=>?_,λb o nb _ e=>k3 _ _ nb e,s3]
  .rw[kO,di]at ht;lia
  .rw[aM.mp hx];exact hk0
 .rintro U HW ⟨us,c,x3,rfl,hw,hul,hc,hch,hkn,kw,sw⟩;have hwt:=kw _ _ htd htp ht;have done:∀{HX:Hp} {x3:Option V},(∀ b o,b≠d->HW b=some o->HX b=some o)->LS K L d HX->∃(w:List Nat) (x3':Option V),[some (V.ref d),some (.ref t),some (.ref p),x3]=[some (.ref d),some (.ref t),some (.ref p),x3']/\fL HX p ps w/\(∀ b o,b≠d->b≠p->H b=some o->HX b=some o)/\LS K L d HX:=λ{HX x3} k s=>
   #[us++[c],x3,rfl,#[k _ _ hpd hw,by rw[aV,di];lia,by simp,hch,hkn],λb o n1 n2 e=>k _ _ n1 (kw _ _ n1 n2 e),s]
  refine #[_,rfl,_,rfl,_,rfl,_,_,_,_,rfl,rfl,SqL.of hw,vJ,t,ps,c,rfl,hwt,by lia,λcl HX hcl sx hx=>?_];refine #[(by show 0<=sizeLine;decide),λe he=>?_];have se:=aF he (.lst []);have sxe:=sx.trans se;have swe:=sw.same sxe;refine #[(bw ps c (ps.length+1)).map (λn:Nat=>(n:Int)),[],#[_,_,rfl,SqL.of (se _ _ hx),Ij],#[_,_,rfl,SqL.of aj,.nil],_,rfl,?_];generalize upd HX e (.lst [])=HE at sxe swe ⊢;refine ite2 (λcne=>?_) (λ_=>?_)
  .refine #[_,rfl,d,L,6,rfl,by decide,swe,λv H4 _ _ k4 s4=>?_];have k04:∀ b o,b≠d->HW b=some o->H4 b=some o:=λb o nb e=>k4 _ _ nb (sxe _ _ e);refine #[_,_,rfl,rfl,_,rfl,?_];refine ite2 (λ_=>?_) (λ_=>?_)
   .have h4:=k04 _ _ hpd hw;have h4t:=k04 _ _ htd hwt;refine #[_,rfl,_,rfl,_,rfl,_,_,_,_,rfl,rfl,SqL.of h4,vJ,t,ps,c,rfl,h4t,by lia,λc2 H5 hc2 s5 h5=>?_];have hcne:bw ps c (ps.length+1)≠[]:=λz=>by
     rw[z]at cne;cases cne
    have hcmem:=λm=>cW (ps:=ps) (k:=c) (n:=ps.length+1) (j:=m);have hcl:=mj ps c (ps.length+1);generalize bw ps c (ps.length+1)=cs at hcne h5 hcmem hcl;have hpos:0<cs.length:=nF.mpr hcne;have h5p:=s5 _ _ h4;have s45:=s4.same s5;refine #[_,rfl,.inl #[rfl,_,SqL.of h5p],_,rfl,_,rfl,_,rfl,_,_,rfl,.inl (SqL.of h5),d,L,_,rfl,by rw[aq];lia,s45,λv2 H6 v20 v21 k6 s6=>?_];rw[aq]at v21;obtain ⟨j,rfl⟩:=qS v20;have hj:j<cs.length:=by lia
    have h6:=k6 _ _ hpd h5p;have hc2d:c2≠d:=nd s4 hc2;refine #[_,_,_,_,rfl,rfl,SqL.of (k6 _ _ hc2d h5),iy hj,?_];have hm:cs.getD j 0∈cs:=by
     rw[aA,aw hj];exact cG hj
    generalize cs.getD j 0=ch at hm ⊢;obtain ⟨hchn,hchp⟩:=(hcmem ch).mp hm;have hlt:=(bA hT hchp).1;refine #[_,_,_,rfl,rfl,h6,bt (by rw[aq,aV,di];lia),?_];have k06:∀ b o,b≠d->HW b=some o->H6 b=some o:=λb o nb e=>k6 _ _ nb (s5 _ _ (k04 _ _ nb e));refine #[#[us++[c],ch,_,rfl,?_,?_,hchn,?_,?_,λb o n1 n2 e=>?_,?_],?_]
    .rw[aj,bo (l₂:=[ch])];rfl
    .rw[aV,di];lia
    .exact JS hch hchp
    .intro x hx;rcases bj.mp hx with z|z
     .exact hkn x z
     .rw[aM.mp z];exact hchn
    .rw[ak n2];exact k06 _ _ n1 (kw _ _ n1 n2 e)
    .exact LS.put hs hp (λb o n1 n2 e=>k06 _ _ n1 (kw _ _ n1 n2 e)) s6
    .show (match upd H6 p _ p with|some (.lst xs)=>1000-xs.length|_=>0)<(match HW p with|some (.lst xs)=>1000-xs.length|_=>0)
     rw[aj,hw];show 1000-(((us++[c]).map nV)++[nV ch]).length<1000-((us++[c]).map nV).length;rw[aV,aq,aV,di,di];lia
   .exact done k04 s4
  .refine iteF ?_;exact done (λb o _ e=>sxe _ _ e) swe
 .refine Fm (λU H Q Q' m h=>?_) (λU H Q Q' m h=>?_)
  .obtain ⟨y1,e1,y2,e2,y3,e3,y4,y5,y6,y7,e4,e5,e6,e7,t,ps,k,e8,e9,e10,q⟩:=h;refine #[y1,e1,y2,e2,y3,e3,y4,y5,y6,y7,e4,e5,e6,e7,t,ps,k,e8,e9,e10,λp H' a1 a2 a3=>?_];obtain ⟨z1,z2⟩:=q p H' a1 a2 a3;refine #[z1,λe he=>?_];obtain ⟨as,bs,g1,g2,b,g3,q⟩:=z2 e he;exact #[as,bs,g1,g2,b,g3,m _ _ q]
  .obtain ⟨y1,e1,d,L,z,e2,e3,e4,q⟩:=h;refine #[y1,e1,d,L,z,e2,e3,e4,λv H' a1 a2 a3 a4=>?_];obtain ⟨i,j,g1,g2,b,g3,q⟩:=q v H' a1 a2 a3 a4;exact #[i,j,g1,g2,b,g3,m _ _ q]
 rintro U HW ⟨w,x3,rfl,W,kw,sw⟩;refine #[_,rfl,?_];exact q p w HW hp W (λb o nb e=>kw _ _ nb (au e hp) e) sw
def accL (ps:List Nat)(LH:List (List Int)):Nat->Nat->List En
 | 0,j=>ownE LH j
 | i+1,j=>accL ps LH i j++(if par ps (ps.length-i)=some j then bX (ab ps LH (ps.length-i)) else [])
def vP (T:aR ps){e:En}:∀ i,i<=ps.length->(e∈accL ps LH i j↔e∈ownE LH j\/∃ c,ps.length-i<c/\par ps c=some j/\e∈bX (ab ps LH c))
 | 0,_=>by
  unfold accL;constructor
  .exact .inl
  .rintro (h|⟨c,h1,h2,_⟩)
   .exact h
   .have:=(bA T h2).2;lia
 | i+1,hi=>by
  unfold accL;rw[bj,vP T i (by lia)];constructor
  .rintro ((h|⟨c,h1,h2,h3⟩)|h)
   .exact .inl h
   .exact .inr #[c,by lia,h2,h3]
   .by_cases z:par ps (ps.length-i)=some j
    .rw[af z]at h;exact .inr #[_,by lia,z,h]
    .rw[ag z]at h;cases h
  .rintro (h|⟨c,h1,h2,h3⟩)
   .exact .inl (.inl h)
   .by_cases z:c=ps.length-i
    .subst z;rw[af h2];exact .inr h3
    .exact .inl (.inr #[c,by lia,h2,h3])
def Cs (T:aR ps)(R:bP LH){j:Nat}(hj:j<ps.length+1):∀ i,i<=ps.length->(accL ps LH i j).Nodup
 | 0,_=>BO R j
 | i+1,hi=>by
  unfold accL;have ih:=Cs T R hj i (by lia);by_cases z:par ps (ps.length-i)=some j
  .rw[af z,fO];have hc:=(bA T z).2;refine #[ih,(vo T R hc).sublist (eU _),λa ha b hb hab=>?_];subst hab;obtain ⟨u,_,g2,g3,_⟩:=ku T R hc a ((eU _).mem hb);rcases (vP T i (by lia)).mp ha with h|⟨c,h1,h2,h3⟩
   .have:=(mG hj h).2;have:u=j:=by lia
    subst this;rw[gU T (bA T z).1]at g2;cases g2
   .obtain ⟨v,_,f2,f3,_⟩:=ku T R (bA T h2).2 a ((eU _).mem h3);have:u=v:=by lia
    subst this;exact mn T h2 z (by lia) u u (ai _) f2 g2
  .rw[ag z,bZ];exact ih
def vQ (T:aR ps)(R:bP LH){k:Nat}(hk:k<ps.length+1):dE (accL ps LH (ps.length-k) k)=ab ps LH k:=by
 refine vz (t8 (Cs T R hk _ (by lia))) (fj T R hk) λe=>?_;rw[og,vP T _ (by lia),mH T hk];constructor
 .rintro (h|⟨c,_,h2,h3⟩)
  .exact .inl h
  .exact .inr #[c,h2,h3]
 .rintro (h|⟨c,h2,h3⟩)
  .exact .inl h
  .exact .inr #[c,by have:=(bA T h2).1;lia,h2,h3]
def Ct {j:Nat}(i:Nat):∀ d,(accL ps LH i j).length<=(accL ps LH (i+d) j).length
 | 0=>ai _
 | d+1=>by
  refine az (Ct i d) ?_;show _<=(accL ps LH (i+d) j++_).length;rw[aV];lia
def JU (T:aR ps)(R:bP LH)(hl:LH.length=ps.length+1){i j:Nat}(hj:j<ps.length+1)(hi:i<=ps.length-j):(accL ps LH i j).length<=cP LH:=by
 obtain ⟨d,hd⟩:∃ d,ps.length-j=i+d:=#[ps.length-j-i,by lia];have h:=vQ T R hj;rw[hd]at h;have h2:=congrArg List.length h;rw[oh]at h2;exact az (Ct i d) (by rw[h2];exact jc T hl hj)
def valL (ps:List Nat)(LH:List (List Int))(i j:Nat):List En:=if ps.length-i<j then ab ps LH j else accL ps LH i j
structure FA (K:Frag)(H:Hp)(p:Addr)(qs:List Addr)(n:Nat)(f:Nat->List En):Prop where
 at_:H p=some (.lst (qs.map V.ref))
 len:qs.length=n
 nd:qs.Nodup
 np:p∉qs
 get:∀(j:Nat) (q:Addr),qs[j]?=some q->∃ ws,H q=some (.lst ws)/\aB K H (f j) ws
section
variable {K:Frag}{H H':Hp}{p:Addr}{qs:List Addr}{n:Nat}{f g:Nat->List En}
def FA.ext (h:FA K H p qs n f)(e:Ext H H'):FA K H' p qs n f:=
 #[e _ _ h.at_ (λ_ z=>nomatch z),h.len,h.nd,h.np,λj q hq=>by
  obtain ⟨ws,h1,h2⟩:=h.get j q hq;exact #[ws,e _ _ h1 nofun,h2.mono e]]
def FA.congr (h:FA K H p qs n f)(e:∀ j,j<n->f j=g j):FA K H p qs n g:=
 #[h.at_,h.len,h.nd,h.np,λj q hq=>by
  rw[<-e j (by have:=(aN.mp hq).1;have:=h.len;lia)];exact h.get j q hq]
def FA.set (h:FA K H p qs n f){k:Nat}{q':Addr}{l:List En}{ws:List V}(hq:H q'=some (.lst ws))(hw:aB K H l ws)(hn:q'∉qs)(hp:q'≠p):FA K (upd H p (.lst ((qs.map V.ref).set k (.ref q')))) p (qs.set k q') n (λj=>if j=k then l else f j):=by
 refine #[?_,by rw[mT];exact h.len,?_,λz=>?_,λj q hj=>?_]
 .rw[aj,jB]
 .show List.Pairwise _ _;rw[cM];intro i j hi hj hij;rw[mT]at hi hj;rw[List.getElem_set,List.getElem_set];have old:=cM.mp h.nd i j hi hj hij;split
  .rw[ag (by lia)];exact λz=>hn (z ▸ cG hj)
  .split
   .exact λz=>hn (z ▸ cG hi)
   .exact old
 .rcases ll z with y|y
  .exact h.np y
  .exact hp y.symm
 .rw[kZ]at hj;show ∃ ws,_/\aB K _ (if j=k then l else f j) ws
  by_cases c:k=j
  .rw[af c]at hj;by_cases c2:k<qs.length
   .rw[af c2]at hj;have:=aK hj;subst this;rw[af c.symm];exact #[ws,by rw[ak hp];exact hq,dG h.at_ hw]
   .rw[ag c2]at hj;cases hj
  .rw[ag c]at hj;rw[ag (λz=>c z.symm)];obtain ⟨us,h1,h2⟩:=h.get j q hj;have hqp:q≠p:=λz=>h.np (by rw[<-z];exact cB hj);exact #[us,by rw[ak hqp];exact h1,dG h.at_ h2]
def FA.put (h:FA K H p qs n f){k:Nat}{q:Addr}{ws:List V}{e:En}{x:V}(hk:qs[k]?=some q)(hq:H q=some (.lst ws))(hx:Rep.has K H e x):FA K (upd H q (.lst (ws++[x]))) p qs n (λj=>if j=k then f j++[e] else f j):=by
 have hqp:p≠q:=λz=>h.np (z ▸ cB hk);refine #[by rw[ak hqp];exact h.at_,h.len,h.nd,h.np,λj q2 hj=>?_];obtain ⟨us,h1,h2⟩:=h.get j q2 hj;show ∃ ws,_/\aB K _ (if j=k then f j++[e] else f j) ws
 by_cases c:j=k
 .subst c;rw[hk]at hj;have:=aK hj;subst this;rw[hq]at h1;cases h1
  rw[af rfl];exact #[_,aj,(dG hq h2).append (dG hq (.one hx))]
 .rw[ag c];have hne:q2≠q:=λz=>by
   subst z;obtain ⟨i1,e1⟩:=aN.mp hj;obtain ⟨i2,e2⟩:=aN.mp hk;have old:=cM.mp h.nd;rcases Nat.lt_or_gt_of_ne c with z|z
   .exact old j k i1 i2 z (e1.trans e2.symm)
   .exact old k j i2 i1 z (e2.trans e1.symm)
  exact #[us,by rw[ak hne];exact h1,dG hq h2]
def FA.at (h:FA K H p qs n f){k:Nat}(hk:k<n):∃ q ws,qs[k]?=some q/\H q=some (.lst ws)/\aB K H (f k) ws:=by
 have e:qs[k]?=some (qs[k]'(by have:=h.len;lia)):=aw _;obtain ⟨ws,h1,h2⟩:=h.get k _ e;exact #[_,ws,e,h1,h2]
end
inductive vR (K:Frag)(vs:List V)(H:Hp)(Q:VK)(w_1:XK):Prop
 | c:∀(t r:Addr) (ps:List Nat) (LH:List (List Int)) (as:List Addr),vs=[.ref t,.ref r]->H t=some (.tup (cy ps))->H r=some (.tup (as.map V.ref))->bK H as LH->LH.length=ps.length+1->aR ps->bP LH->ps.length<=40->cP LH<=400->(∀(p:Addr) (qs:List Addr) (H':Hp),H p=none->Same H H'->FA K H' p qs (ps.length+1) (ab ps LH)->(∀ q∈qs,H q=none)->Q (.ref p) H')->vR K vs H Q w_1
def JV (T:Txt K mg)(xo:DF K mg "_law_fulls" ph qv)(K1:FC P w K mg base 2 "_law_marks" qt (mD K)):FC P w K mg base 3 "_law_fulls" qv (vR K):=by
 refine xo.ok j8 (λvs H Q E h=>?_) (λf cdv A outer s H vs Q E hr h=>?_)
 .obtain ⟨t,r,ps,LH,as,rfl,_⟩:=h;rfl
 obtain ⟨t,r,ps,LH,as,rfl,ht,hr0,hA,hlen,hT,hR,hfew,hkeys,q⟩:=h;refine #[_,(c7 (FG "_law_k" (i:=2) (N:=["_law_k","_law_rows_here"]) (own:=1) (cap:=[1]) j8.nd rfl rfl rfl (eQ rfl T.c8 (aa (bc (bU (K:=K)) rfl T.bQ bL (aa (pv 0) ae)) ae)) #[rfl,rfl,rfl,rfl,rfl,rfl,rfl] (λ_ _ _ _ _=>(aI (i:=0) (show List.Nodup (["_law_k","_law_rows_here"]:List Str) by decide +kernel) rfl (dh rfl))) (λ_ _ _ _ _=>eR) (λ_ _ _ _ _=>(dY (N:=["_law_key_here","_law_k"]) (own:=1) (cap:=[0]) rfl (FB (K:=K) (aD (bI (K:=K)) (pv 1) (pv 0) (λ_ _=>rfl))) #[rfl,rfl,rfl,rfl,rfl,rfl] (λ_ _ _ _ _=>(aI (i:=0) (show List.Nodup (["_law_key_here","_law_k"]:List Str) by decide +kernel) rfl (ar rfl))) (λ_ _ _ _ _=>eR) (λ_ _ _ _ _=>(cN (aa (pv 0) (aa (pv 1) ae)))))))
   (c7 (bW PassesOwn.never rfl (FL rfl T.c8 (aa (ax c4 (bc (bU (K:=K)) rfl T.bQ bL (aa (pv 0) ae)) ah) (aa ah (aa (fc fe ah) ae)))) (aI (i:=3) j8.nd rfl (ar rfl)) (c7 (gK (bc (oi (Int×Int)) rfl T.rK boot_sorted (aa (aD (aQ (K:=K)) (pv 2) (pv 3) (λ_ _=>rfl)) ae)) (jD (pv 2) (pv 3) jI))
   (c7 (aE (i:=4) j8.nd rfl (ar rfl) (aD (bI (K:=K)) (pv 0) (pv 3) (λ_ _=>rfl)))
   (av (bW PassesOwn.never rfl (nZ rfl T.rL (aa (aD (aQ (K:=K)) (pv 2) (pv 3) (λ_ _=>rfl)) (aa (aG K1 hr (aa (aD (aQ (K:=K)) (pv 2) (pv 3) (λ_ _=>rfl)) ae)) ae))) (fR rfl (cD (aI (i:=5) j8.nd rfl (ar rfl)) (cD (aI (i:=6) j8.nd rfl (ar rfl)) fA))) (av (cg (ig (pv 6)) (av (dR (dU F.plainAttrs_list F.slot_list_append F.type_list_append dD (aD (aQ (K:=K)) (pv 2) (pv 4) (λ_ _=>rfl)) (aa (pv 5) ae)))) cw)))))))
   (c7 (gK (bc (oi (Int×Int)) rfl T.rK boot_sorted (aa (aD (aQ (K:=K)) (pv 2) ah (λ_ _=>rfl)) ae)) (jD (pv 2) ah jI))
   (av (aL (pv 2)))))),?_]
 intro N0 n0;have el:((((cy ps).length:Nat):Int)).toNat=ps.length+1:=by rw[cO,fm]
 refine #[_,rfl,_,_,rfl,.inr (SqT.of ht),_,rfl,by lia,by rw[cO];lia,λD hD=>?_];rw[el];refine iZ (n:=ps.length+1) (λi U H2=>∃(qs:List Addr) (x0:Option V),U=[x0,some (.ref r)]/\FA K H2 D qs i (ownE LH)/\(∀ q∈qs,H q=none)/\But D H H2) ?_ ?_ ?_
 .exact #[[],_,rfl,#[aj,rfl,gD,nofun,λj q e=>by simp at e],(λq z=>nomatch z),λb o n e=>by rw[ak n];exact e]
 .rintro i m U H2 hm hi ⟨qs,x0,rfl,h2,hqs,k2⟩;rw[fb];have s2:Same H H2:=λb o e=>k2 b o (au e hD) e;obtain ⟨b,hb1,hb2⟩:=(hA.ext s2).get (k:=i) (by rw[hlen];exact hi);refine gq ?_;refine #[_,rfl,_,rfl,_,_,_,_,rfl,rfl,SqT.of (s2 _ _ hr0),d4 hb1,b,rfl,#[_,SqT.of hb2],λD3 hD3=>?_];refine lT (xs:=(bO LH i).map V.int) (λm U H5=>∃(us:List V) (x0:Option V),U=[x0,some (.int i)]/\H5 D3=some (.lst us)/\aB K H5 ((ownE LH i).take m) us/\But D3 H2 H5) ?_ ?_ ?_ ?_
  .exact #[[],_,rfl,aj,.nil,λb o n e=>by rw[ak n];exact e]
  .rintro m U H5 _ ⟨us,x0,rfl,_,_,k5⟩;exact SqT.of (k5 _ _ (au hb2 hD3) hb2)
  .rintro j m' x U H5 hx hm' ⟨us,x0,rfl,h5,hw5,k5⟩;rw[aY]at hx;obtain ⟨y,hy,rfl⟩:=eV.mp hx;have hlow:=(aN.mp hy).1;have htk3:(ownE LH i).take (j+1)=(ownE LH i).take j++[(y,(i:Int))]:=by
    unfold ownE;rw[<-hZ,<-hZ,cH hlow,bo];rw[(aN.mp hy).2];rfl
   have hul:=hw5.length;rw[aW]at hul;rw[aq]at hm';have hrl:(bO LH i).length<=cP LH:=by
    refine Jy ?_;unfold bO
    rw[aA,aw (show i<LH.length by lia)];exact cG _
   refine gq ?_;refine #[_,rfl,_,rfl,(by show 2<=sizeLine;decide),λu hu=>?_];have su:=aF hu (.tup [.int y,.int (i:Int)]);have h6:=su _ _ h5;have hut:upd H5 u (.tup [.int y,.int (i:Int)]) u=some (.tup [.int y,.int (i:Int)]):=aj;have k6:=k5.new' hu (.tup [.int y,.int (i:Int)]);have hw6:=hw5.mono su.ext;generalize upd H5 u (.tup [.int y,.int (i:Int)])=H6 at su h6 hut k6 hw6 ⊢;refine #[_,h6,bt (by lia),m'-1,by lia,by rw[aq];lia,us++[.ref u],_,rfl,aj,?_,λb o n e=>by rw[ak n];exact k6 b o n e];rw[htk3];exact (dG h6 hw6).append (dG h6 (.cons #[u,.int y,.int (i:Int),rfl,hut,rfl,rfl] .nil))
  rintro U H5 ⟨us,x0,rfl,h5,hw5,k5⟩;rw[aq,bx (by unfold ownE;rw[aq];exact ai _)]at hw5;have s5:Same H2 H5:=λx o e=>k5 x o (au e hD3) e;have F5:=h2.ext s5.ext;have hqn:D3∉qs:=λz=>by
   obtain ⟨j,hj,e⟩:=dQ z;obtain ⟨ws,w1,_⟩:=h2.get j D3 (by rw[aw hj,e]);rw[hD3]at w1;cases w1
  have hDD:D3≠D:=λz=>by
   have:=h2.at_;rw[<-z,hD3]at this;cases this
  have hql:=h2.len;refine #[_,F5.at_,bt (by rw[aq];lia),m-1,by lia,by lia,qs++[D3],_,rfl,#[?_,by rw[aV,di,hql],?_,?_,?_],?_,?_]
  .rw[aj,bo];rfl
  .rw[fO];refine #[h2.nd,dN.mpr #[nofun,gD],λa ha b hb e=>?_];rw[aM.mp hb]at e;exact hqn (e ▸ ha)
  .intro z;rcases bj.mp z with y|y
   .exact h2.np y
   .exact hDD (aM.mp y).symm
  .intro j q0 hj;by_cases c:j<qs.length
   .rw[fZ c]at hj;obtain ⟨ws,w1,w2⟩:=F5.get j q0 hj;have hne:q0≠D:=λz=>h2.np (by rw[<-z];exact cB hj);exact #[ws,by rw[ak hne];exact w1,dG F5.at_ w2]
   .rw[eF (by lia)]at hj;have hj0:j-qs.length=0:=by
     have:=(aN.mp hj).1;rw[di]at this;lia
    rw[hj0]at hj;have:=aK (show some D3=some q0 from hj);subst this;have:j=i:=by lia
    subst this;exact #[us,by rw[ak hDD];exact h5,dG F5.at_ hw5]
  .intro q0 hq0;rcases bj.mp hq0 with y|y
   .exact hqs q0 y
   .rw[aM.mp y];exact s2.free hD3
  .exact λb o n e=>by
    rw[ak n];exact s5 _ _ (k2 b o n e)
 rintro U H2 ⟨qs,x0,rfl,F2,hqs2,k2⟩;refine n0 _ _ ?_;intro N1 n1;have s2:Same H H2:=λb o e=>k2 b o (au e hD) e;have hD0:=hD;clear k2;have F0:FA K H2 D qs (ps.length+1) (valL ps LH 0):=F2.congr λj hj=>by
  unfold valL accL;rw[ag (by lia)]
 clear F2;have h2t:=s2 _ _ ht;refine #[_,rfl,_,_,rfl,.inr (SqT.of h2t),_,_,rfl,rfl,?_];refine #[_,rfl,_,_,rfl,#[by rw[cO];lia,by rw[cO];lia,by lia,by lia],?_];have en:((((cy ps).length:Nat):Int)-1-0).toNat=ps.length:=by rw[cO];lia
 rw[en];refine FM (n:=ps.length) (λi U H3=>∃(qs:List Addr) (x3 x4 x5 x6:Option V),U=[some (.ref t),some (.ref r),some (.ref D),x3,x4,x5,x6]/\FA K H3 D qs (ps.length+1) (valL ps LH i)/\(∀ q∈qs,H q=none)/\Same H H3) ?_ ?_ ?_
 .exact #[qs,_,_,_,_,rfl,F0,hqs2,s2]
 .rintro i U H3 hi ⟨qs,x3,x4,x5,x6,rfl,F3,hqs,s3⟩;have ek:(((cy ps).length:Nat):Int)-1-(i:Int)=((ps.length-i:Nat):Int):=by rw[cO];lia
  rw[ek];have eI:i=ps.length-(ps.length-i):=by lia
  obtain ⟨k,hk⟩:∃ k,k=ps.length-i:=#[_,rfl];rw[<-hk]at eI ⊢;refine HP λN B R hN hB hR'=>?_;intro N2 n2;have hkn:k<ps.length+1:=by lia
  have hk1:1<=k:=by lia
  obtain ⟨q0,ws,hq0,hq1,hq2⟩:=F3.at hkn;have ev:valL ps LH i k=accL ps LH i k:=by
   unfold valL;rw[ag (by lia)]
  rw[ev]at hq2;have hfl:=az (jc hT hlen hkn (LH:=LH)) hkeys;refine #[_,rfl,_,rfl,_,_,_,_,rfl,rfl,SqL.of F3.at_,d4 hq0,q0,ws,_,rfl,SqL.of hq1,hq2,λl us hl hus=>?_];have hsort:dE (accL ps LH i k)=ab ps LH k:=by
   rw[eI];exact vQ hT hR hkn
  rw[hsort]at hus;have sl:=aF hl (.lst us);have F4:=F3.ext sl.ext;have hl4:upd H3 l (.lst us) l=some (.lst us):=aj;have hus4:=hus.mono sl.ext;have s4:=s3.trans sl;have hlq:l∉qs:=λz=>by
   obtain ⟨j,hj,e⟩:=dQ z;obtain ⟨ws,w1,_⟩:=F3.get j l (by rw[aw hj,e]);rw[hl]at w1;cases w1
  have hlD:l≠D:=λz=>by
   have:=F3.at_;rw[<-z,hl]at this;cases this
  have hl0:H l=none:=s3.free hl;clear sl;generalize upd H3 l (.lst us)=H4 at F4 hl4 hus4 s4 ⊢;refine #[_,rfl,_,rfl,_,_,_,k,rfl,rfl,F4.at_,kl (by rw[aq,F4.len];exact hkn),n2 _ _ ?_];intro N3 n3;have F5:=F4.set (k:=k) hl4 hus4 hlq hlD;have hl5:upd H4 D (.lst ((qs.map V.ref).set k (.ref l))) l=some (.lst us):=by rw[ak hlD];exact hl4
  have hus5:aB K (upd H4 D (.lst ((qs.map V.ref).set k (.ref l)))) (ab ps LH k) us:=dG F4.at_ hus4;have s5:Same H (upd H4 D (.lst ((qs.map V.ref).set k (.ref l)))):=λb o e=>by
   rw[ak (au e hD)];exact s4 _ _ e
  have hqs5:∀ q∈qs.set k l,H q=none:=λq hq=>by
   rcases ll hq with y|y
   .exact hqs q y
   .rw[y];exact hl0
  have hqk:(qs.set k l)[k]?=some l:=by
   rw[kZ,af rfl,af (by rw[F4.len];exact hkn)]
  generalize upd H4 D (.lst ((qs.map V.ref).set k (.ref l)))=H5 at F5 hl5 hus5 s5 ⊢;generalize qs.set k l=qs' at F5 hqs5 hqk ⊢;obtain ⟨u,hu⟩:=u7 (ps:=ps) (k:=k) (by lia) hkn;have hlt:=(bA hT hu).1;refine #[_,rfl,_,rfl,_,_,_,_,rfl,rfl,SqT.of (s5 _ _ ht),q9 hkn,?_];rw[rf hu];refine n3 _ _ ?_;refine #[_,rfl,_,rfl,_,_,_,_,rfl,rfl,SqL.of F5.at_,d4 hqk,?_];refine #[_,rfl,_,rfl,_,_,_,_,rfl,rfl,SqL.of F5.at_,d4 hqk,?_];refine #[l,us,ab ps LH k,rfl,hl5,hus5,by lia,rj hT hR (by lia) hkn,fj hT hR hkn,λpm H6 hpm s6 h6=>?_];refine #[l,pm,rfl,#[_,SqL.of (s6 _ _ hl5)],#[_,SqL.of h6],?_];have hul:=hus5.length;have hml:=jb (ab ps LH k);have F6:=F5.ext s6.ext;have s06:=s5.trans s6;have hl6:=s6 _ _ hl5;have hus6:=hus5.mono s6.ext;have hpmq:pm∉qs':=λz=>by
   obtain ⟨j,hj,e⟩:=dQ z;obtain ⟨ws,w1,_⟩:=F5.get j pm (by rw[aw hj,e]);rw[hpm]at w1;cases w1
  have F6':FA K H6 D qs' (ps.length+1) (λj=>if j=u then accL ps LH i u++cE ((ab ps LH k).take 0) ((cn (ab ps LH k)).take 0) else if j=k then ab ps LH k else valL ps LH i j):=F6.congr λj hj=>by
   show (if j=k then _ else _)=_
   by_cases c:j=u
   .subst c;rw[af rfl,ag (by lia)];unfold valL;rw[ag (by lia)];show _=_++[];rw[bZ]
   .rw[ag c]
  clear F5 F6;refine zD (xs:=us) (ys:=(cn (ab ps LH k)).map V.bl) (by rw[aq,hml];exact hul.symm) (λm U H7=>∃ x5 x6:Option V,U=[some (.ref t),some (.ref r),some (.ref D),some (.int k),some (.int u),x5,x6]/\FA K H7 D qs' (ps.length+1) (λj=>if j=u then accL ps LH i u++cE ((ab ps LH k).take m) ((cn (ab ps LH k)).take m) else if j=k then ab ps LH k else valL ps LH i j)/\H7 l=some (.lst us)/\aB K H7 (ab ps LH k) us/\H7 pm=some (.lst ((cn (ab ps LH k)).map V.bl))/\Same H H7) ?_ ?_ ?_ ?_
  .exact #[_,_,rfl,F6',hl6,hus6,h6,s06]
  .rintro m U H7 _ ⟨x5,x6,rfl,F7,hl7,hus7,hm7,s7⟩;exact #[SqL.of hl7,SqL.of hm7]
  .rintro m x y U H7 rr hx hy ⟨x5,x6,rfl,F7,hl7,hus7,hm7,s7⟩ hrr;obtain ⟨e,he,hex⟩:=hus7.get hx;rw[aY]at hy;obtain ⟨b,hb,rfl⟩:=eV.mp hy;have hme:=(aN.mp he).1;have hmb:=(aN.mp hb).1;have tke:(ab ps LH k).take (m+1)=(ab ps LH k).take m++[e]:=by rw[cH hme,(aN.mp he).2]
   have tkb:(cn (ab ps LH k)).take (m+1)=(cn (ab ps LH k)).take m++[b]:=by rw[cH hmb,(aN.mp hb).2]
   have hhs:cE ((ab ps LH k).take (m+1)) ((cn (ab ps LH k)).take (m+1))=cE ((ab ps LH k).take m) ((cn (ab ps LH k)).take m)++(if b=true then [e] else []):=by
    rw[tke,tkb];exact vi (by rw[aW,aW];lia)
   rw[hhs];have sr:=aF hrr (.tup [x,.bl b]);refine #[rr,_,rfl,SqT.of aj,rfl,_,_,rfl,_,_,rfl,rfl,?_];refine HQ λN4 B4 R4 hN4 hB4 hR4=>?_;have F8:=F7.ext sr.ext;have hl8:=sr _ _ hl7;have hus8:=hus7.mono sr.ext;have hm8:=sr _ _ hm7;have s8:=s7.trans sr;have hex8:=Rep.mono sr.ext hex;clear sr F7 hl7 hus7 hm7 s7 hex;generalize upd H7 rr (.tup [x,.bl b])=H8 at F8 hl8 hus8 hm8 s8 hex8 ⊢;refine #[_,rfl,b,rfl,?_];cases b with
   | false=>
    refine iteF ?_;refine hN4 _ _ #[_,_,rfl,?_,hl8,hus8,hm8,s8];rw[ag bY,bZ];exact F8
   | true=>
    refine iteT ?_;obtain ⟨qu,wu,hqu,hqu1,hqu2⟩:=F8.at (k:=u) (by lia);have hqu2:aB K H8 (accL ps LH i u++cE ((ab ps LH k).take m) ((cn (ab ps LH k)).take m)) wu:=by
     have z:=hqu2;rw[af rfl]at z;exact z
    have hwl:=hqu2.length;have hal:=az (JU hT hR hlen (i:=i) (j:=u) (by lia) (by lia)) hkeys;have hhl:=BF ((ab ps LH k).take m) ((cn (ab ps LH k)).take m);rw[aW]at hhl;rw[aV]at hwl;have hlu:l≠qu:=λz=>by
     subst z;obtain ⟨i1,e1⟩:=aN.mp hqk;obtain ⟨i2,e2⟩:=aN.mp hqu;exact cM.mp F8.nd u k i2 i1 hlt (e2.trans e1.symm)
    have hpu:pm≠qu:=λz=>hpmq (by rw[z];exact cB hqu);have hu0:=hqs5 qu (cB hqu);have F9:=F8.put hqu hqu1 hex8;refine #[_,rfl,_,rfl,_,_,_,_,rfl,rfl,SqL.of F8.at_,d4 hqu,.inl #[rfl,_,SqL.of hqu1],_,rfl,_,_,_,rfl,rfl,hqu1,bt (by lia),?_];refine hN4 _ _ #[_,_,rfl,F9.congr λj hj=>?_,by rw[ak hlu];exact hl8,dG hqu1 hus8,by rw[ak hpu];exact hm8,λb o e=>by rw[ak (au e hu0)];exact s8 _ _ e];show (if j=u then (if j=u then _ else _)++[e] else (if j=u then _ else _))=_
    by_cases c:j=u
    .rw[af c,af c,af c,af rfl,dA]
    .rw[ag c,ag c,ag c]
  rintro U H7 ⟨x5,x6,rfl,F7,hl7,hus7,hm7,s7⟩;refine hN _ _ #[qs',_,_,_,_,rfl,F7.congr λj hj=>?_,hqs5,s7];rw[<-hul,bx (ai _),bx (by rw[hml];exact ai _)];unfold valL;have e1:ps.length-(i+1)=k-1:=by lia
  have e2:ps.length-i=k:=by lia
  have eacc:accL ps LH (i+1) j=accL ps LH i j++(if par ps k=some j then bX (ab ps LH k) else []):=by
   rw[accL,e2]
  rw[e1,e2,eacc,hu];by_cases c:j=u
  .subst c;rw[af rfl,ag (by lia),af rfl];rfl
  .rw[ag c];by_cases c2:j=k
   .rw[af c2,af (by lia),c2]
   .rw[ag c2];by_cases c3:k<j
    .rw[af c3,af (by lia)]
    .rw[ag c3,ag (by lia),ag (λz=>c (aK z).symm),bZ]
 rintro U H3 ⟨qs,x3,x4,x5,x6,rfl,F3,hqs,s3⟩;refine n1 _ _ ?_;intro N5 n5;obtain ⟨q0,ws,hq0,hq1,hq2⟩:=F3.at (k:=0) (by lia);have ev:valL ps LH ps.length 0=accL ps LH ps.length 0:=by
  unfold valL;rw[ag (by lia)]
 rw[ev]at hq2;refine #[_,rfl,_,_,_,_,rfl,rfl,SqL.of F3.at_,d4 hq0,q0,ws,_,rfl,SqL.of hq1,hq2,λl us hl hus=>?_];have hsort:dE (accL ps LH ps.length 0)=ab ps LH 0:=vQ hT hR (k:=0) (by lia);rw[hsort]at hus;have sl:=aF hl (.lst us);have F4:=F3.ext sl.ext;have hl4:upd H3 l (.lst us) l=some (.lst us):=aj;have hus4:=hus.mono sl.ext;have s4:=s3.trans sl;have hlq:l∉qs:=λz=>by
  obtain ⟨j,hj,e⟩:=dQ z;obtain ⟨ws,w1,_⟩:=F3.get j l (by rw[aw hj,e]);rw[hl]at w1;cases w1
 have hlD:l≠D:=λz=>by
  have:=F3.at_;rw[<-z,hl]at this;cases this
 have hl0:H l=none:=s3.free hl;clear sl;generalize upd H3 l (.lst us)=H4 at F4 hl4 hus4 s4 ⊢;refine #[_,rfl,_,_,_,0,rfl,rfl,F4.at_,kl (k:=0) (by rw[aq,F4.len];exact dO _),n5 _ _ ?_];refine #[_,rfl,?_];refine q D (qs.set 0 l) _ hD0 (λb o e=>by rw[ak (au e hD)];exact s4 _ _ e) ((F4.set (k:=0) hl4 hus4 hlq hlD).congr λj hj=>?_) λq hq=>?_
 .show (if j=0 then _ else _)=_
  by_cases c:j=0
  .rw[af c,c]
  .rw[ag c];unfold valL;rw[af (by lia)]
 .rcases ll hq with y|y
  .exact hqs q y
  .rw[y];exact hl0
inductive vS (K:Frag)(vs:List V)(H:Hp)(Q:VK)(w_1:XK):Prop
 | c:∀(n:Nat),vs=[.int n]->Q (.int (figN n:Nat)) H->vS K vs H Q w_1
def JW (T:Txt K mg)(xp:DF K mg "_law_figures" pA qA):FC P w K mg base 1 "_law_figures" qA (vS K):=by
 refine xp.ok pK (λvs H Q E h=>?_) (λf cdv A outer s H vs Q E hr h=>?_)
 .obtain ⟨n,rfl,_⟩:=h;rfl
 obtain ⟨n,rfl,q⟩:=h;refine #[_,(ay (aE (i:=1) pK.nd rfl (ar rfl) ah)
   (ay (lr PassesOwn.never (aZ lA (pv 0) ah (bp _)) (ay (aE (i:=0) pK.nd rfl (ar rfl) (ax jG (pv 0) ah))
   (av (aE (i:=1) pK.nd rfl (ar rfl) (ax bH (pv 1) ah)))))
   (av (aL (pv 1))))),?_]
 refine ue (λU H'=>∃ m c:Nat,U=[some (.int m),some (.int c)]/\c+figN m=figN n/\H=H') (λU H'=>U=[some (.int 0),some (.int (figN n:Nat))]/\H=H') (λU _=>match U with|[some (.int m),_]=>m.toNat|_=>0) ?_ ?_ ?_ ?_
 .exact #[n,0,rfl,fw _,rfl]
 .rintro U H' ⟨m,c,rfl,e,rfl⟩;refine #[_,rfl,_,_,rfl,rfl,_,rfl,?_];refine ite2 (λz=>?_) (λz=>?_)
  .have z:(m:Int)>0:=bJ z;refine #[_,rfl,_,_,rfl,rfl,#[by decide,by decide],?_];refine #[_,rfl,_,_,rfl,rfl,#[m/2,c+1,?_,?_,rfl],?_]
   .show [some (V.int ((m:Int)/2)),some (V.int ((c:Int)+1))]=_;rw[show ((m/2:Nat):Int)=(m:Int)/2 by lia,show ((c+1:Nat):Int)=(c:Int)+1 by lia]
   .rw[mK (show m≠0 by lia)]at e;lia
   .show ((m:Int)/2).toNat<(m:Int).toNat;lia
  .have z:¬ (m:Int)>0:=iO (iN.mpr z);have m0:m=0:=by lia
   subst m0;rw[rB,gG]at e;rw[e];exact #[rfl,rfl]
 .intro U H Q Q' m h;obtain ⟨y1,e1,i2,j2,f2,g2,b2,e5,q⟩:=h;exact #[y1,e1,i2,j2,f2,g2,b2,e5,m _ _ q]
 rintro U H' ⟨rfl,rfl⟩;exact #[_,rfl,q]
inductive rF (K:Frag)(vs:List V)(H:Hp)(Q:VK)(w_1:XK):Prop
 | c:∀(ad pf:Addr) (zs:List V) (qs:List Addr) (ps:List Nat) (LH:List (List Int)) (key:Int) (kn i:Nat),vs=[.ref ad,.ref pf,.int key,.int kn,.int i]->H ad=some (.lst zs)->zs.length<=9000->H pf=some (.lst (qs.map V.ref))->bq K H ps LH (List.range (ps.length+1)) qs->kn<ps.length+1->i<(ab ps LH kn).length->ad≠pf->ad∉qs->(∀ t,H t=none->Q (.bl (decide (((ab ps LH kn).getD i (0,0)).1<key))) (upd (upd H t (.tup [nV kn,nV i])) ad (.lst (zs++[.ref t]))))->rF K vs H Q w_1
def JX (T:Txt K mg)(xq:DF K mg "_law_asked" pz qz):FC P w K mg base 1 "_law_asked" qz (rF K):=by
 refine xq.ok GU (λvs H Q E h=>?_) (λf cdv A outer s H vs Q E hr h=>?_)
 .obtain ⟨ad,pf,zs,qs,ps,LH,key,kn,i,rfl,_⟩:=h;rfl
 obtain ⟨ad,pf,zs,qs,ps,LH,key,kn,i,rfl,ha,hz,hp,hF,hkn,hi,n1,n2,q⟩:=h;refine #[_,(ay (dR (dU F.plainAttrs_list F.slot_list_append F.type_list_append dD (pv 0) (aa (cN (aa (pv 3) (aa (pv 4) ae))) ae)))
   (av (aL (xJ (Du ya fS ah (pv 4) (bc (bU (K:=K)) rfl T.bQ bL (aa (aD (aQ (K:=K)) (pv 1) (pv 3) (λ_ _=>rfl)) ae))) (xI (Dt fS (aD (bI (K:=K)) (aD (aQ (K:=K)) (aD (aQ (K:=K)) (pv 1) (pv 3) (λ_ _=>rfl)) (pv 4) (λ_ _=>rfl)) ah (λ_ _=>rfl)) (pv 2) (bp _))))))),?_]
 refine #[_,rfl,.inl #[rfl,_,SqL.of ha],_,rfl,_,rfl,(by show 2<=sizeLine;decide),λt ht=>?_];have st:=aF ht (.tup [nV kn,nV i]);have q1:=q t ht;have hat:=st _ _ ha;refine #[_,_,_,rfl,rfl,hat,cC hz (by decide),?_];obtain ⟨qk,hqk,wk,hwk,hak⟩:=fY hF hkn;have hge:(ab ps LH kn)[i]?=some ((ab ps LH kn).getD i (0,0)):=by
  rw[aA,aw hi];rfl
 obtain ⟨v,hv,bb,x1,x2,rfl,hb,e1,e2⟩:∃ v,wk[i]?=some v/\hasP K H ((ab ps LH kn).getD i (0,0)) v:=rp hak hge;have e1':x1=.int ((ab ps LH kn).getD i (0,0)).1:=e1;subst e1';have hwl:=hak.length;have kk:∀{b:Addr} {o:HO},b≠ad->H b=some o->upd (upd H t (.tup [nV kn,nV i])) ad (.lst (zs++[.ref t])) b=some o:=λn e=>by
  rw[ak n];exact st _ _ e
 have hp':=kk (aT n1) hp;have hw':=kk (λz=>n2 (z ▸ cB hqk)) hwk;have hb':=kk (λz=>by rw[z,ha]at hb;cases hb) hb
 refine #[_,rfl,_,_,rfl,rfl,_,rfl,?_];refine tP (by lia) ?_;refine #[_,rfl,_,rfl,_,_,_,_,rfl,rfl,SqL.of hp',cI (v:=.ref qk) (by rw[aY,hqk];rfl),_,_,rfl,.inl (SqL.of hw'),_,_,rfl,rfl,_,rfl,?_];refine tP (by lia) ?_;refine #[_,rfl,_,rfl,_,_,_,_,rfl,rfl,SqL.of hp',cI (v:=.ref qk) (by rw[aY,hqk];rfl),_,rfl,_,_,_,_,rfl,rfl,SqL.of hw',cI hv,_,_,_,_,rfl,rfl,SqT.of hb',rfl,_,rfl,_,_,rfl,rfl,?_];exact q1
def vT {m:Nat}:∀{LH:List (List Int)},(∀ row∈LH,row.length<=m)->cP LH<=LH.length*m
 | [],_=>bG _
 | r::LH,h=>by
  have h1:=h r bu;have h2:=vT (m:=m) (LH:=LH) λx hx=>h x (bE _ hx);unfold cP at h2 ⊢;rw[bS,dB,cR,Nat.succ_mul];lia
inductive vU (K:Frag)(vs:List V)(H:Hp)(Q:VK)(w_1:XK):Prop
 | c:∀(d L:Addr) (m kk:Nat),vs=[.ref d,.int m,.int kk]->0<m->m<=40->kk<=10->LS K L d H->(∀(st:Addr) (ps:List Nat) (LH:List (List Int)) (t rs:Addr) (as:List Addr) (H':Hp),H st=none->dH H' st ps LH t rs as->ps.length<m->(∀ row∈LH,row.length<=kk)->Keep d H H'->LS K L d H'->Q (.ref st) H')->vU K vs H Q w_1
def JY (T:Txt K mg)(xt:DF K mg "_law_stand" pk qw)(K2:FC P w K mg base 3 "_law_tree" qh (vm K))(K3:FC P w K mg base 5 "_law_rows" qj (vy K)):FC P w K mg base 6 "_law_stand" qw (vU K):=by
 refine xt.ok AQ (λvs H Q E h=>?_) (λf cdv A outer s H vs Q E hr h=>?_)
 .obtain ⟨d,L,m,kk,rfl,_⟩:=h;rfl
 obtain ⟨d,L,m,kk,rfl,hm0,hm,hkk,hs,q⟩:=h;refine #[_,(ay (aE (i:=3) AQ.nd rfl (ar rfl) (aG K2 hr (aa (pv 0) (aa (pv 1) ae))))
   (av (aL (cN (aa (pv 3) (aa (aG K3 hr (aa (pv 0) (aa (bc (bU (K:=K)) rfl T.bQ bL (aa (pv 3) ae)) (aa (pv 2) ae)))) ae)))))),?_]
 refine #[_,rfl,_,rfl,d,L,m,rfl,#[by lia,by lia],hs,λt ps H1 ht hT hl h1 k1 s1=>?_];refine #[_,rfl,_,rfl,_,rfl,_,_,rfl,.inr (SqT.of h1),_,rfl,?_];refine #[d,L,(cy ps).length,kk,rfl,by rw[cO];lia,by lia,s1,λr as LH H2 hr2 hA hrl hR hlen h2 k2 s2=>?_];rw[cO]at hrl;have ntd:t≠d:=λz=>by
  obtain ⟨_,_,_,e,_⟩:=s1.ex;rw[<-z,h1]at e;cases e
 refine #[(by show 2<=sizeLine;decide),λst hst=>?_];have ss:=aF hst (.tup [.ref t,.ref r]);have hk:=vT hlen;have hk2:LH.length*kk<=40*10:=Nat.mul_le_mul (by lia) hkk;have std:st≠d:=λz=>by
  obtain ⟨_,_,_,e,_⟩:=s2.ex;rw[<-z,hst]at e;cases e
 refine q st ps LH t r as _ ?_ #[aj,ss _ _ (k2 _ _ ntd h1),ss _ _ h2,hA.ext ss,hrl,hT,hR,by lia,by lia] (by lia) hlen (λb o n e=>ss _ _ (k2 _ _ n (k1 _ _ n e))) (s2.same ss);cases e:H st with
 | none=>rfl
 | some o=>
  have:=k2 _ _ std (k1 _ _ std e);rw[hst]at this;cases this
section
variable {K:Frag}{H:Hp}{a b:Addr}{xs ys:List V}{n:Nat}{Q:VK}
def vV (h:H a=some (.tup xs))(q:∀ v H',Same H H'->H' v=some (.tup (xs.take n))->Q (.ref v) H'):rSlX K (.ref a) none (some (n:Int)) H Q:=
 #[a,xs,rfl,SqT.of h,λz=>q a H (λ_ _ e=>e) (by
  have:=z.2;rw[iS]at this;rw[bx (by lia)];exact h),λ_ p hp=>q p _ (aF hp _) (by rw[aj,JE])]
def JZ (h:H a=some (.tup xs))(q:∀ v H',Same H H'->H' v=some (.tup (xs.drop n))->Q (.ref v) H'):rSlX K (.ref a) (some (n:Int)) none H Q:=
 #[a,xs,rfl,SqT.of h,λz=>q a H (λ_ _ e=>e) (by
  have:=z.1;rw[iS]at this;have e:xs.drop n=xs:=by
   rcases Nat.eq_zero_or_pos n with y|y
   .rw[y];rfl
   .have:xs=[]:=List.length_eq_zero_iff.mp (by lia);rw[this];exact List.drop_nil
  rw[e];exact h),λ_ p hp=>q p _ (aF hp _) (by rw[aj,Cg])]
def J0 (ha:H a=some (.tup xs))(hb:H b=some (.tup ys))(hy:ys≠[])(hl:xs.length+ys.length<=sizeLine)(q:∀ v H',Same H H'->H' v=some (.tup (xs++ys))->Q (.ref v) H'):ug K (.ref a) (.ref b) H Q:=
 #[a,b,xs,ys,rfl,rfl,SqT.of ha,SqT.of hb,hy,hl,λz=>q b H (λ_ _ e=>e) (by rw[z];exact hb),λ_ p hp=>q p _ (aF hp _) aj]
def J1 (ha:H a=some (.tup xs))(hb:H b=some (.tup ys))(hx:xs≠[])(hl:xs.length+ys.length<=sizeLine)(q:∀ v H',Same H H'->H' v=some (.tup (xs++ys))->Q (.ref v) H'):tj K (.ref a) (.ref b) H Q:=
 #[a,b,xs,ys,rfl,rfl,SqT.of ha,SqT.of hb,hx,hl,λz=>q a H (λ_ _ e=>e) (by rw[z,bZ];exact ha),λ_ p hp=>q p _ (aF hp _) aj]
end
def Cu {H:Hp}{v:Addr}{r:List Int}(hv:H v=some (.tup (r.map V.int))):∀{as:List Addr} {LH:List (List Int)} (kn:Nat),bK H as LH->bK H (as.set kn v) (LH.set kn r)
 | _,_,_,.nil=>.nil
 | _,_,0,.cons _ t=>.cons hv t
 | _,_,kn+1,.cons h t=>.cons h (Cu hv kn t)
def hu8 {k:Nat}(hr:Room k A):A.units+8<cLine:=cC (cp (by decide:8<=64) _) hr.units
def hu16 {k:Nat}(hr:Room k A):A.units+16<cLine:=cC (cp (by decide:16<=64) _) hr.units
def J2 {K:Frag}(hl:PE X l tl)(h:X.K=K:=by rfl):PI X tg l (xP K tl):=by
 subst h;exact dS hl
def J4 {K:Frag}{H:Hp}{b D:Addr}{row:List Int}{key:Int}{U:L2.St}{Q:Hp->Prop}(hb:H b=some (.tup (row.map V.int)))(hD:H D=none)(hz:row.length<=999)(hst:U=[none,some (.int key)])(q:∀ H',Same H H'->H' D=some (.lst ((row.filter λx=>decide (x<key)).map V.int))->Q H') :
  ∃ W:Nat->Nat->L2.St->Hp->Prop,(∃ m,W 0 m U (upd H D (.lst [])))/\∀ i m U H,W i m U H->((Itt K b).stop i H/\Q H)\/((Itt K b).go i H/\∀ x H',(Itt K b).yld i H x H'->gJ 0 x U H' λU2 H2=>sU (tOp (rI0 λi j=>.bl (decide (i<j))) (tVar 0) (tVar 1)) U2 H2 λb H3=>if b=true then tVar 0 U2 H3 λy H4=>∃ xs,H4 D=some (.lst xs)/\xs.length<sizeLine/\∃ m',m'<m/\W (i+1) m' U2 (upd H4 D (.lst (xs++[y]))) else ∃ m',m'<m/\W (i+1) m' U2 H3):=by
 rw[hst];refine lT (xs:=row.map V.int) (λj U H5=>∃(x0:Option V),U=[x0,some (.int key)]/\H5 D=some (.lst (((row.take j).filter λx=>decide (x<key)).map V.int))/\But D H H5) ?_ ?_ ?_ ?_
 .exact #[_,rfl,aj,λb o n e=>by rw[ak n];exact e]
 .rintro j U H5 _ ⟨x0,rfl,_,k5⟩;exact SqT.of (k5 _ _ (au hb hD) hb)
 .rintro j m x U H5 hx hm ⟨x0,rfl,h5,k5⟩;rw[aY]at hx;obtain ⟨y,hy,rfl⟩:=eV.mp hx;have hj:=(aN.mp hy).1;rw[aq]at hm;have htk:row.take (j+1)=row.take j++[y]:=by rw[cH hj,(aN.mp hy).2]
  have hsl:((row.take j).filter λx=>decide (x<key)).length<=j:=az (eP _ _) (by rw[aW];lia);refine #[_,rfl,_,rfl,_,_,rfl,rfl,_,rfl,?_];refine ite2 (λc=>?_) (λc=>?_)
  .refine #[_,rfl,_,h5,bt (by rw[aq];lia),m-1,by lia,by rw[aq];lia,_,rfl,?_,λb o n e=>by rw[ak n];exact k5 b o n e];rw[aj,htk,cZ,ef (p:=λx=>decide (x<key)) c,bo];rfl
  .refine #[m-1,by lia,by rw[aq];lia,_,rfl,?_,k5];rw[htk,cZ,fz (p:=λx=>decide (x<key)) c,nD,bZ];exact h5
 rintro U H5 ⟨y0,rfl,h5,k5⟩;rw[aq,bx (ai _)]at h5;exact q H5 (λb o e=>k5 b o (au e hD) e) h5
inductive vW (K:Frag)(vs:List V)(H:Hp)(Q:VK)(w_1:XK):Prop
 | c:∀(br:Addr) (ps:List Nat) (LH:List (List Int)) (xs:List V) (k c m:Nat),vs=[.ref br,.int k,.int c,.int m]->H br=some (.lst xs)->Paired (BrAt [] H ps LH) (List.range (ps.length+1)) xs->aR ps->k<ps.length+1->par ps c=some k->m<=(ab ps LH k).length->(∀ H',Same H H'->Q (.int (stN (ab ps LH c) ((ab ps LH k).take m):Nat)) H')->vW K vs H Q w_1
def J5 (T:Txt K mg)(xu:DF K mg "_law_start" pD qD):FC P w K mg base 1 "_law_start" qD (vW K):=by
 refine xu.ok GW (λvs H Q E h=>?_) (λf cdv A outer s H vs Q E hr h=>?_)
 .obtain ⟨br,ps,LH,xs,k,c,m,rfl,_⟩:=h;rfl
 obtain ⟨br,ps,LH,xs,k,c,m,rfl,hbr,hB,hT,hk,hc,hm,q⟩:=h;obtain ⟨x,hx,b,o,j,ys,rfl,_,_,hb,ho,hj,hJ⟩:=fY hB hk;obtain ⟨kvs,h1,h2,h3⟩:=vG hJ;have hcm:c∈bw ps k (ps.length+1):=cW.mpr #[(bA hT hc).2,hc];obtain ⟨sa,hv,hsa⟩:=h3 c hcm (rA _ _ _);refine #[_,(av (aL (aD (aQ (K:=K)) (gO (dW hr) (ff (Aj rfl) rfl T.CK boot_dict (aa (aD (bI (K:=K)) (aD (aQ (K:=K)) (pv 0) (pv 1) (λ_ _=>rfl)) ah (λ_ _=>rfl)) ae)) (pv 2) (λ_ _=>rfl)) (pv 3) (λ_ _=>rfl)))),?_];refine #[_,rfl,_,rfl,_,_,_,_,rfl,rfl,SqL.of hbr,cI hx,_,_,_,_,rfl,rfl,SqT.of hb,rfl,?_];refine #[j,ys,kvs,rfl,SqL.of hj,h1,?_,λd hd=>?_]
 .rw[h2];exact List.Pairwise.map (R:=λa b:Nat=>a≠b) _ (λa b (n:a≠b) z=>n (by have:=Sum.inl.inj z;lia)) (rA ps k _)
 have sd:=aF hd (.dK kvs);refine #[_,rfl,d,.ref sa,rfl,?_,?_]
 .have:=DGet.k (k:=(.inl (c:Int))) (aj (H:=H) (a:=d) (o:=.dK kvs));rw[hv]at this;exact this
 refine #[_,rfl,_,_,_,_,rfl,rfl,SqL.of (sd _ _ hsa),cI (v:=nV (stN (ab ps LH c) ((ab ps LH k).take m))) ?_,q _ sd];rw[aY];unfold fK;rw[aY,gH (by lia)];rfl
abbrev dueF (ps:List Nat)(LH:List (List Int))(key:Int)(k:Nat):Int×Int:=(((aS (ab ps LH k) key:Nat):Int),((ownB LH k key:Nat):Int))
inductive vX (K:Frag)(vs:List V)(H:Hp)(Q:VK)(w_1:XK):Prop
 | c:∀(pf r:Addr) (kn:Nat) (key:Int) (qs as:List Addr) (ps:List Nat) (LH:List (List Int)),vs=[.ref pf,.ref r,.int kn,.int key]->H pf=some (.lst (qs.map V.ref))->bq K H ps LH (List.range (ps.length+1)) qs->H r=some (.tup (as.map V.ref))->bK H as LH->LH.length=ps.length+1->kn<ps.length+1->(ab ps LH kn).length<=999->(bO LH kn).length<=999->(∀(u:Addr) (H':Hp),Same H H'->H' u=some (.tup [.int (dueF ps LH key kn).1,.int (dueF ps LH key kn).2])->Q (.ref u) H')->vX K vs H Q w_1
def J6 (T:Txt K mg)(xv:DF K mg "_law_placed" pB qB):FC P w K mg base 1 "_law_placed" qB (vX K):=by
 refine xv.ok AR (λvs H Q E h=>?_) (λf cdv A outer s H vs Q E hr h=>?_)
 .obtain ⟨pf,r,kn,key,qs,as,ps,LH,rfl,_⟩:=h;rfl
 obtain ⟨pf,r,kn,key,qs,as,ps,LH,rfl,hpf,hF,hr0,hR,hl,hk,hf1,hf2,q⟩:=h;refine #[_,(ay (aE (i:=4) AR.nd rfl (ar rfl) (bc (bU (K:=K)) rfl T.bQ bL (aa (dY (N:=["_law_entry","_law_key_here"]) (own:=1) (cap:=[3]) rfl (dS (aD (aQ (K:=K)) (pv 0) (pv 2) (λ_ _=>rfl))) #[rfl,rfl,rfl,rfl,rfl,rfl] (λ_ _ _ _ _=>(aI (i:=0) (show List.Nodup (["_law_entry","_law_key_here"]:List Str) by decide +kernel) rfl (ar rfl))) (λ_ _ _ _ _=>(gn (aZ fS (aD (bI (K:=K)) (pv 0) ah (λ_ _=>rfl)) (pv 1) (bp _)))) (λ_ _ _ _ _=>(pv 0))) ae)))
   (av (aL (cN (aa (pv 4) (aa (bc (bU (K:=K)) rfl T.bQ bL (aa (dY (N:=["_law_one","_law_key_here"]) (own:=1) (cap:=[3]) rfl (gL (aD (bI (K:=K)) (pv 1) (pv 2) (λ_ _=>rfl))) #[rfl,rfl,rfl,rfl,rfl,rfl] (λ_ _ _ _ _=>(aI (i:=0) (show List.Nodup (["_law_one","_law_key_here"]:List Str) by decide +kernel) rfl (ar rfl))) (λ_ _ _ _ _=>(gn (aZ fS (pv 0) (pv 1) (bp _)))) (λ_ _ _ _ _=>(pv 0))) ae)) ae)))))),?_]
 obtain ⟨qk,hqk,wk,hwk,hak⟩:=fY hF hk;obtain ⟨b,hb1,hb2⟩:=hR.get (k:=kn) (by rw[hl];exact hk);have hwk':=hak.length;refine #[_,rfl,_,rfl,_,_,_,_,rfl,rfl,SqL.of hpf,d4 hqk,qk,rfl,#[_,SqL.of hwk],λD2 hD2=>?_];refine fT (xs:=wk) (λj U H5=>∃(x0:Option V) (vs:List V),U=[x0,some (.int key)]/\H5 D2=some (.lst vs)/\vs.length=(((ab ps LH kn).take j).filter λe=>decide (e.1<key)).length/\But D2 H H5) ?_ ?_ ?_ ?_
 .exact #[_,[],rfl,aj,rfl,λb o n e=>by rw[ak n];exact e]
 .rintro j U H5 _ ⟨x0,vs,rfl,_,_,k5⟩;exact SqL.of (k5 _ _ (au hwk hD2) hwk)
 .rintro j m x U H5 hx hm ⟨x0,vs,rfl,h5,hu,k5⟩;have hj:=(aN.mp hx).1;obtain ⟨e,he,bb,x1,x2,rfl,hb,e1,e2⟩:∃ e,(ab ps LH kn)[j]?=some e/\hasP K H e x:=je hak hx;have e1':x1=.int e.1:=e1;subst e1';have htk:(ab ps LH kn).take (j+1)=(ab ps LH kn).take j++[e]:=by rw[cH (by lia),(aN.mp he).2]
  have hsl:(((ab ps LH kn).take j).filter λe=>decide (e.1<key)).length<=j:=az (eP _ _) (by rw[aW];lia);refine #[_,rfl,_,_,_,_,rfl,rfl,SqT.of (k5 _ _ (au hb hD2) hb),rfl,_,rfl,_,_,rfl,rfl,_,rfl,?_];refine ite2 (λc=>?_) (λc=>?_)
  .refine #[_,rfl,_,h5,bt (by lia),m-1,by lia,by lia,_,_,rfl,aj,?_,λb o n e=>by rw[ak n];exact k5 b o n e];rw[htk,cZ,ef (p:=λe:Int×Int=>decide (e.1<key)) c,aV,aV,hu];rfl
  .refine #[m-1,by lia,by lia,_,_,rfl,h5,?_,k5];rw[htk,cZ,fz (p:=λe:Int×Int=>decide (e.1<key)) c,nD,bZ];exact hu
 rintro U H5 ⟨x0,vs,rfl,h5,hu,k5⟩;rw[<-hwk',bx (ai _)]at hu;have s5:Same H H5:=λb o e=>k5 b o (au e hD2) e;refine #[_,_,rfl,.inl (SqL.of h5),_,rfl,_,rfl,_,rfl,_,_,_,_,rfl,rfl,SqT.of (s5 _ _ hr0),d4 hb1,b,rfl,#[_,SqT.of (s5 _ _ hb2)],λD3 hD3=>?_];refine J4 (s5 _ _ hb2) hD3 hf2 rfl λH6 s6 h6=>?_;refine #[_,_,rfl,.inl (SqL.of h6),(by show 2<=sizeLine;decide),λu hu'=>?_];rw[aq,hu];exact q u _ (s5.trans (s6.trans (aF hu' _))) aj
inductive vY (K:Frag)(vs:List V)(H:Hp)(Q:VK)(w_1:XK):Prop
 | c:∀(a b:Addr) (x y:Int),vs=[.ref a,.ref b]->H a=some (.tup [.int x,.int y])->H b=some (.tup [.int x,.int y])->(∀ H',Same H H'->Q (.bl true) H')->vY K vs H Q w_1
def J7 (T:Txt K mg)(xw:DF K mg "_law_wholes" pC qC):FC P w K mg base 1 "_law_wholes" qC (vY K):=by
 refine xw.ok GV (λvs H Q E h=>?_) (λf cdv A outer s H vs Q E hr h=>?_)
 .obtain ⟨a,b,x,y,rfl,_⟩:=h;rfl
 obtain ⟨a,b,x,y,rfl,ha,hb,q⟩:=h;refine #[_,(fG (cg (PW.pt (jC (lq (ig (bc (oj (K:=K)) rfl T.rJ boot_isinstance (aa (pv 0) (aa (nI (v:=.ty "tuple") rfl T.mO boot_tuple rfl) ae))))) (nJ (aZ (lR (Int×Int) (huD hr)) (pv 0) (pv 1) (bp _))))) (av (aL dC)) cw)
   (av (aL (bc (Fl rfl) rfl T.Kq boot_all (aa (dY (N:=["_law_one"]) (own:=1) (cap:=[]) rfl (gL (pv 0)) #[rfl,rfl,rfl,rfl,rfl,rfl] (λ_ _ _ _ _=>(aI (i:=0) (show List.Nodup (["_law_one"]:List Str) by decide +kernel) rfl (ar rfl))) (λ_ _ _ _ _=>eR) (λ_ _ _ _ _=>(xJ (bc (oj (K:=K)) rfl T.rJ boot_isinstance (aa (pv 0) (aa (nI (v:=.ty "int") rfl T.Ks boot_int rfl) ae))) (xI (Df (bc (oj (K:=K)) rfl T.rJ boot_isinstance (aa (pv 0) (aa (nI (v:=.ty "bool") rfl T.Kr boot_bool rfl) ae)))))))) ae))))),?_]
 refine #[λU' H'=>U'=[some (.ref a),some (.ref b)]/\H=H',?_,?_]
 .refine #[_,rfl,_,_,_,_,rfl,.tup ha,Fk,_,rfl,iteF ?_];exact #[_,rfl,_,rfl,(x,y),(x,y),#[a,_,_,rfl,ha,rfl,rfl],#[b,_,_,rfl,hb,rfl,rfl],_,rfl,iT rfl #[rfl,rfl]]
 rintro _ _ ⟨rfl,rfl⟩;refine #[_,rfl,a,rfl,#[_,SqT.of ha],λD hD=>?_];refine lT (xs:=[.int x,.int y]) (λi U H2=>∃ x0:Option V,U=[x0]/\H2 D=some (.lst ((List.replicate i true).map V.bl))/\But D H H2) ?_ ?_ ?_ ?_
 .exact #[_,rfl,aj,λb o n e=>by rw[ak n];exact e]
 .rintro i U H2 _ ⟨x0,rfl,_,k2⟩;exact SqT.of (k2 _ _ (au ha hD) ha)
 .rintro i m v U H2 hv hm ⟨x0,rfl,h2,k2⟩;have hi:=(aN.mp hv).1;obtain ⟨z,rfl⟩:∃ z:Int,v=.int z:=by
   have:=cB hv;simp only[aX,ee,or_false]at this;rcases this with e|e<;>exact #[_,e]
  refine #[_,rfl,_,_,_,_,rfl,.int _,EV,?_];refine #[true,rfl,iteT ?_];refine #[_,rfl,_,_,_,_,rfl,.int _,EW,?_];refine #[false,rfl,_,h2,?_,m-1,?_,?_,_,rfl,?_,λb o n e=>by rw[ak n];exact k2 b o n e]
  .rw[aq,fk];exact bt (by have:([V.int x,V.int y]:List V).length=2:=rfl;lia)
  .omega
  .omega
  rw[aj,sP,bo];rfl
 rintro U H2 ⟨x0,rfl,h2,k2⟩;exact #[D,_,rfl,SqL.of h2,q _ (λb o e=>k2 b o (au e hD) e)]
def Cv :∀{as:List Addr} {LH:List (List Int)} (n:Nat),bK H as LH->bK H (as.take n) (LH.take n)
 | _,_,0,_=>by
  rw[f6,f6];exact .nil
 | _,_,_+1,.nil=>by
  rw[List.take_nil,List.take_nil];exact .nil
 | _,_,n+1,.cons h t=>.cons h (Cv n t)
def Cw {w:List Int}:∀{LH:List (List Int)} (k:Nat),cP (LH.set k w)<=cP LH+w.length
 | [],_=>bG _
 | r::LH,0=>by
  show w.length+cP LH<=r.length+cP LH+w.length;lia
 | r::LH,k+1=>by
  have:=Cw (w:=w) (LH:=LH) k;show r.length+cP (LH.set k w)<=r.length+cP LH+w.length;lia
def d5 (a b:Int)(n:Nat):List Int:=(List.range n).map λk=>a+b*(k:Nat)
def Cy {a:Int}:(d5 a b n).length=n:=by
 unfold d5;rw[aq,cv]
def J8 {a:Int}:d5 a b (n+1)=d5 a b n++[a+b*(n:Nat)]:=by
 unfold d5;rw[fP,bo];rfl
def J9 {a b:Int}(hb:0<b):(d5 a b n).Pairwise (· < ·):=by
 unfold d5;refine List.Pairwise.map _ (R:=λi j:Nat=>i<j) (λi j h=>?_) k9;have:=Int.mul_lt_mul_of_pos_left (show (i:Int)<j by lia) hb;show a+b*(i:Nat)<a+b*(j:Nat);lia
def Ka {a b:Int}{n:Nat}(h0:-1000<=a)(h1:a<1000000)(hb:0<b)(hb2:b<10)(hn:n<=300):∀ x∈d5 a b n,-(10^60)<x/\x<10^60:=by
 intro x hx;obtain ⟨k,hk,rfl⟩:=bC.mp hx;have:=dw.mp hk;have h2:0<=b*(k:Nat):=Int.mul_nonneg (by lia) (by lia);have h3:b*(k:Nat)<=10*300:=Int.mul_le_mul (by lia) (by lia) (by lia) (by lia);have h4:(10:Int)^60=1000000000000000000000000000000000000000000000000000000000000:=by decide +kernel
 show -(10^60)<a+b*(k:Nat)/\a+b*(k:Nat)<10^60;lia
inductive vZ (K:Frag)(vs:List V)(H:Hp)(Q:VK)(w_1:XK):Prop
 | c:∀(d L:Addr) (ps:List Nat) (LH:List (List Int)) (t rs:Addr) (as:List Addr),vs=[.ref d,.ref t,.ref rs]->H t=some (.tup (cy ps))->H rs=some (.tup (as.map V.ref))->bK H as LH->LH.length=ps.length+1->aR ps->bP LH->(∀ row∈LH,row.length<=7)->LS K L d H->(∀(st:Addr) (ps:List Nat) (LH:List (List Int)) (t rs:Addr) (as:List Addr) (H':Hp),dH H' st ps LH t rs as->ps.length<10->Keep d H H'->LS K L d H'->Q (.ref st) H')->vZ K vs H Q w_1
def Kb (T:Txt K mg)(xx:DF K mg "_law_wide" pq qx)(bR:FC P w K mg base 2 "_law_take" gw (gP K)):FC P w K mg base 3 "_law_wide" qx (vZ K):=by
 refine xx.ok j9 (λvs H Q E h=>?_) (λf cdv A outer s H vs Q E hr h=>?_)
 .obtain ⟨d,L,ps,LH,t,rs,as,rfl,_⟩:=h;rfl
 obtain ⟨d,L,ps,LH,t,rs,as,rfl,ht,hrs,hA,hl,hT,hR,hlen,hs,q⟩:=h;refine #[_,(ay (Di (i:=1) (j:=2) rfl j9.nd rfl rfl (by decide) rfl rfl (aa (gb (om (K:=K)) (pv 1) lC (eh ah)) (aa (gb (om (K:=K)) (pv 2) lC (eh ah)) ae)) rfl)
   (ay (aE (i:=3) j9.nd rfl (ar rfl) (aG bR hr (aa (pv 0) (aa (bc (bU (K:=K)) rfl T.bQ bL (aa (pv 1) ae)) ae))))
   (ay (aE (i:=4) j9.nd rfl (dh rfl) (ax c4 (aG bR hr (aa (pv 0) (aa (ax jH ah ah) ae))) ah))
   (ay (aE (i:=5) j9.nd rfl (dh rfl) (ax bH ah (aG bR hr (aa (pv 0) (aa ah ae)))))
   (ay (aE (i:=6) j9.nd rfl (ar rfl) (ff (oo (K:=K)) rfl T.mO boot_tuple (aa (dY (N:=["_law_k","_law_first","_law_step"]) (own:=1) (cap:=[4,5]) rfl (eQ rfl T.c8 (aa (ax bH ah (aG bR hr (aa (pv 0) (aa ah ae)))) ae)) #[rfl,rfl,rfl,rfl,rfl,rfl] (λ_ _ _ _ _=>(aI (i:=0) (show List.Nodup (["_law_k","_law_first","_law_step"]:List Str) by decide +kernel) rfl (ar rfl))) (λ_ _ _ _ _=>eR) (λ_ _ _ _ _=>(ax bH (pv 1) (ax dm (pv 2) (pv 0))))) ae)))
   (av (aL (cN (aa (pv 1) (aa (ax yB (ax Fx (gb (om (K:=K)) (pv 2) lC (eh (pv 3))) (cN (aa (pv 6) ae))) (gb (om (K:=K)) (pv 2) (eh (ax bH (pv 3) ah)) lC)) ae)))))))))),?_]
 have hal:=hA.length;have k3:(cy ps).take 3=cy (ps.take 2):=by
  unfold cy;rw[hZ];rfl
 have ntd:∀{b:Addr} {xs:List V},H b=some (.tup xs)->b≠d:=λe z=>by
  obtain ⟨_,_,_,e2,_⟩:=hs.ex;rw[<-z,e]at e2;cases e2
 refine #[_,rfl,3,rfl,vV (n:=3) ht λt1 H1 s1 h1=>?_];rw[k3]at h1;refine #[_,rfl,3,rfl,vV (n:=3) (s1 _ _ hrs) λr2 H2 s2 h2=>?_];rw[<-hZ]at h2;have s12:=s1.trans s2;have h2t:=s2 _ _ h1;have hA2:=Cv 3 (hA.ext s12);have hl2:(LH.take 3).length=(ps.take 2).length+1:=by rw[aW,aW];lia
 refine #[_,_,rfl,_,rfl,_,rfl,_,_,rfl,.inr (SqT.of h2t),d,L,_,rfl,#[?_,?_],hs.same s12,λn1 H3 a0 a1 k3 ss3=>?_]
 .rw[cO];lia
 .rw[cO,aW];lia
 rw[cO]at a1;obtain ⟨at1,rfl⟩:=Int.eq_ofNat_of_zero_le a0;refine #[_,rfl,_,_,rfl,rfl,(by unfold CPow;decide),d,L,_,rfl,#[by decide,by decide],ss3,λn2 H4 b0 b1 k4 ss4=>?_];refine #[_,_,rfl,rfl,_,rfl,d,L,_,rfl,#[by decide,by decide],ss4,λn3 H5 c0 c1 k5 ss5=>?_];refine #[_,_,rfl,rfl,?_];refine #[_,rfl,d,L,_,rfl,#[by decide,by decide],ss5,λn4 H6 d0 d1 k6 ss6=>?_];have b1':n2<1000000:=b1;obtain ⟨n4',rfl⟩:=Int.eq_ofNat_of_zero_le d0;refine #[_,_,rfl,rfl,_,rfl,(by lia),(by lia),λD hD=>?_];have el:(100+(n4':Int)).toNat=100+n4':=by lia
 rw[el];refine iZ (n:=100+n4') (λm U H7=>∃ x0:Option V,U=[x0,some (.int (n2-1000)),some (.int (1+n3))]/\H7 D=some (.lst ((d5 (n2-1000) (1+n3) m).map V.int))/\But D H6 H7) ?_ ?_ ?_
 .exact #[_,rfl,aj,λb o n e=>by rw[ak n];exact e]
 .rintro i m U H7 hm hi ⟨x0,rfl,h7,k7⟩;refine #[_,rfl,_,rfl,_,rfl,_,_,rfl,rfl,(.inl #[by lia,by lia]),_,_,rfl,rfl,_,h7,?_,m-1,by lia,by lia,_,rfl,?_,λb o n e=>by rw[ak n];exact k7 b o n e]
  .rw[aq,Cy];exact bt (by lia)
  rw[aj,J8,bo,fb];rfl
 rintro U H7 ⟨x0,rfl,h7,k7⟩;have w7:H7 D=some (.lst ((d5 (n2-1000) (1+n3) (100+n4')).map V.int)):=h7;refine #[D,_,rfl,.inl #[SqL.of w7,λl hl7=>?_]];have K6:Keep d H2 H6:=λb o n e=>k6 b o n (k5 b o n (k4 b o n (k3 b o n e)));have s67:Same H6 H7:=λb o e=>k7 b o (au e hD) e;have s78:=aF hl7 (.tup ((d5 (n2-1000) (1+n3) (100+n4')).map V.int));have h8w:upd H7 l (.tup ((d5 (n2-1000) (1+n3) (100+n4')).map V.int)) l=some (.tup ((d5 (n2-1000) (1+n3) (100+n4')).map V.int)):=aj;generalize upd H7 l (.tup ((d5 (n2-1000) (1+n3) (100+n4')).map V.int))=H8 at s78 h8w ⊢;have K8:Keep d H H8:=λb o n e=>s78 _ _ (s67 _ _ (K6 _ _ n (s12 _ _ e)));have ss8:=(ss6.same s67).same s78;have ntd2:∀{b:Addr} {xs:List V},H2 b=some (.tup xs)->b≠d:=λe z=>by
  obtain ⟨_,_,_,e2,_⟩:=(hs.same s12).ex;rw[<-z,e]at e2;cases e2
 have h8t:=s78 _ _ (s67 _ _ (K6 _ _ (ntd2 h2t) h2t));have h8r:=s78 _ _ (s67 _ _ (K6 _ _ (ntd2 h2) h2));have hA8:bK H8 (as.take 3) (LH.take 3):=cz (λ(a:Addr) (row:List Int) (e:H2 a=some (.tup (row.map V.int)))=>s78 _ _ (s67 _ _ (K6 _ _ (ntd2 e) e))) hA2;have hal2:=hA8.length;refine #[_,rfl,_,rfl,_,rfl,_,rfl,vV (n:=at1) h8r λv9 H9 s9 h9=>?_];refine #[_,rfl,(by show 1<=sizeLine;decide),λv10 hv10=>?_];have s10:=aF hv10 (.tup [.ref l]);have h10:upd H9 v10 (.tup [.ref l]) v10=some (.tup [.ref l]):=aj;generalize upd H9 v10 (.tup [.ref l])=H10 at s10 h10 ⊢;have hal3:(as.take 3).length<=3:=by rw[aW];lia
 refine J0 (s10 _ _ h9) h10 nofun (bf (bt (by rw[aW,aq];show _+1<=1000;lia))) λv11 H11 s11 h11=>?_;refine #[_,rfl,_,rfl,_,_,rfl,rfl,_,rfl,JZ (n:=at1+1) (s11 _ _ (s10 _ _ (s9 _ _ h8r))) λv12 H12 s12' h12=>?_];refine J1 (s12' _ _ h11) h12 (λz=>by cases List.append_eq_nil_iff.mp z |>.2) (bf (bt (by rw[aV,aW,eG,aq];show _+1+_<=1000;lia))) λv13 H13 s13 h13=>?_;refine #[(by show 2<=sizeLine;decide),λst hst=>?_];have s14:=aF hst (.tup [.ref t1,.ref v13]);have h14:upd H13 st (.tup [.ref t1,.ref v13]) st=some (.tup [.ref t1,.ref v13]):=aj;generalize upd H13 st (.tup [.ref t1,.ref v13])=H14 at s14 h14 ⊢;have s9E:Same H8 H14:=s9.trans (s10.trans (s11.trans (s12'.trans (s13.trans s14))));have ev:((as.take 3).map V.ref).take at1++[V.ref l]++((as.take 3).map V.ref).drop (at1+1)=((as.take 3).set at1 l).map V.ref:=by
  rw[jB,List.set_eq_take_append_cons_drop,af (by rw[aq];lia),dA];rfl
 rw[ev]at h13;have hw:=Ka (a:=n2-1000) (b:=1+n3) (n:=100+n4') (by lia) (by lia) (by lia) (by lia) (by lia);have hkr:cP (LH.take 3)<=(LH.take 3).length*7:=vT λrow hx=>hlen row (g8 hx);have hk2:=Cw (w:=d5 (n2-1000) (1+n3) (100+n4')) (LH:=LH.take 3) at1;rw[Cy]at hk2;refine q st (ps.take 2) ((LH.take 3).set at1 (d5 (n2-1000) (1+n3) (100+n4'))) t1 v13 _ H14 #[h14,s9E _ _ h8t,s14 _ _ h13,Cu (s9E _ _ h8w) at1 (hA8.ext s9E),?_,?_,#[?_,?_],?_,?_] ?_ (λb o n e=>s9E _ _ (K8 b o n e)) (ss8.same s9E)
 .rw[mT];exact hl2
 .intro i hi;have hi':i<ps.length:=by rw[aW]at hi;lia
  rw[List.getElem_take];exact hT i hi'
 .intro row hrow;rcases ll hrow with e|e
  .exact hR.up row (g8 e)
  .rw[e];exact J9 (by lia)
 .intro row hrow;rcases ll hrow with e|e
  .exact hR.key row (g8 e)
  .rw[e];exact hw
 .rw[aW];lia
 .have:(LH.take 3).length<=3:=by rw[aW];lia
  lia
 .rw[aW];lia
inductive v3 (K:Frag)(vs:List V)(H:Hp)(Q:VK)(w_1:XK):Prop
 | c:∀(p:Addr) (ps:List Nat) (LH:List (List Int)) (xs:List V),vs=[.ref p]->H p=some (.lst xs)->Paired (BrAt [] H ps LH) (List.range (ps.length+1)) xs->ps.length<=40->(∀ k,k<ps.length+1->(ab ps LH k).length<=400)->(∀(q:Addr) (ys:List V) (H':Hp),Same H H'->H' q=some (.lst ys)->Paired (BrAt [] H' ps LH) (List.range (ps.length+1)) ys->Q (.ref q) H')->v3 K vs H Q w_1
def Kc (T:Txt K mg)(xy:DF K mg "_law_copied" pw qy):FC P w K mg base 1 "_law_copied" qy (v3 K):=by
 refine xy.ok GS (λvs H Q E h=>?_) (λf cdv A outer s H vs Q E hr h=>?_)
 .obtain ⟨p,ps,LH,xs,rfl,_⟩:=h;rfl
 obtain ⟨p,ps,LH,xs,rfl,hp,hB,hn,hf,q⟩:=h;refine #[_,(av (aL (dY (N:=["_law_one"]) (own:=1) (cap:=[]) rfl (dS (pv 0)) #[rfl,rfl,rfl,rfl,rfl,rfl] (λ_ _ _ _ _=>(aI (i:=0) (show List.Nodup (["_law_one"]:List Str) by decide +kernel) rfl (ar rfl))) (λ_ _ _ _ _=>eR) (λ_ _ _ _ _=>(cN (aa (aD (bI (K:=K)) (pv 0) ah (λ_ _=>rfl)) (aa (ff (lS (K:=K)) rfl T.jh boot_list (aa (aD (bI (K:=K)) (pv 0) ah (λ_ _=>rfl)) ae)) (aa (dY (N:=["_law_child","_law_starts"]) (own:=2) (cap:=[]) rfl (J2 (K:=K) (aD (bI (K:=K)) (pv 0) ah (λ_ _=>rfl))) #[rfl,rfl,rfl,rfl,rfl,rfl] (λ_ _ _ _ _=>(zO (K:=K) (n:=2) rfl (cD (aI (i:=0) (show List.Nodup (["_law_child","_law_starts"]:List Str) by decide +kernel) rfl (ar rfl)) (cD (aI (i:=1) (show List.Nodup (["_law_child","_law_starts"]:List Str) by decide +kernel) rfl (ar rfl)) fA)))) (λ_ _ _ _ _=>eR) (λ_ _ _ _ _=>(cN (aa (pv 0) (aa (ff (lS (K:=K)) rfl T.jh boot_list (aa (pv 1) ae)) ae))))) ae)))))))),?_];have hxl:=hB.length;rw[cv]at hxl;refine #[_,rfl,p,rfl,#[_,SqL.of hp],λD hD=>?_];refine fT (xs:=xs) (λj U H5=>∃(x0:Option V) (us:List V),U=[x0]/\H5 D=some (.lst us)/\Paired (BrAt [D] H5 ps LH) (List.range j) us/\But D H H5) ?_ ?_ ?_ ?_
 .exact #[_,[],rfl,aj,.nil,λb o n e=>by rw[ak n];exact e]
 .rintro j U H5 _ ⟨x0,us,rfl,_,_,k5⟩;exact SqL.of (k5 _ _ (au hp hD) hp)
 .rintro j m x U H5 hx hm ⟨x0,us,rfl,h5,hu,k5⟩;have hj:=(aN.mp hx).1;obtain ⟨x',hx',hb'⟩:=fY hB (k:=j) (by lia);have:x'=x:=aK (hx'.symm.trans hx);subst this;have s5:Same H H5:=λb o e=>k5 b o (au e hD) e;obtain ⟨b,o,jj,ys,rfl,_,_,hb,ho,hjj,hJ⟩:=BrAt.same s5 hb';have hcl:=hJ.length;have hcn:(bw ps j (ps.length+1)).length<=41:=by
   unfold bw;exact az (eP _ _) (by rw[cv];lia)
  refine #[_,rfl,_,_,_,_,rfl,rfl,SqT.of hb,rfl,?_];refine #[_,rfl,_,_,_,_,rfl,rfl,SqT.of hb,rfl,_,_,rfl,.inl (SqL.of ho),λl6 hl6=>?_];have s6:=aF hl6 (.lst ((fX j (ab ps LH j)).map nV));have h6l:upd H5 l6 (.lst ((fX j (ab ps LH j)).map nV)) l6=some (.lst ((fX j (ab ps LH j)).map nV)):=aj;have nl6:l6≠D:=λz=>by rw[z,h5]at hl6;cases hl6
  generalize upd H5 l6 (.lst ((fX j (ab ps LH j)).map nV))=H6 at s6 h6l ⊢;refine #[_,rfl,_,_,_,_,rfl,rfl,SqT.of (s6 _ _ hb),rfl,jj,rfl,#[_,SqL.of (s6 _ _ hjj)],λD2 hD2=>?_];have nD2:D2≠D:=λz=>by rw[z,s6 _ _ h5]at hD2;cases hD2
  refine fT (xs:=ys) (λi U H7=>∃(y0 y1:Option V) (vs:List V),U=[y0,y1]/\H7 D2=some (.lst vs)/\Paired (cj [D2,D] H7 (ab ps LH j) ps LH) ((bw ps j (ps.length+1)).take i) vs/\But D2 H6 H7) ?_ ?_ ?_ ?_
  .exact #[_,_,[],rfl,aj,.nil,λb o n e=>by rw[ak n];exact e]
  .rintro i U H7 _ ⟨y0,y1,vs,rfl,_,_,k7⟩;exact SqL.of (k7 _ _ (au (s6 _ _ hjj) hD2) (s6 _ _ hjj))
  .rintro i m7 y U H7 hy hm7 ⟨y0,y1,vs,rfl,h7,hv,k7⟩;have hi:=(aN.mp hy).1;have s7:Same H6 H7:=λb o e=>k7 b o (au e hD2) e;obtain ⟨c,hc,a,sa,rfl,_,ha,hsa⟩:∃ c,(bw ps j (ps.length+1))[i]?=some c/\cj [] H5 (ab ps LH j) ps LH c y:=je hJ hy;have hvl:=hv.length;rw[aW,d8 (by lia)]at hvl;have s57:Same H5 H7:=s6.trans s7;have nD7:H7 D=some (.lst us):=s57 _ _ h5;refine #[_,_,rfl,SqT.of (s57 _ _ ha),rfl,_,_,rfl,_,_,rfl,rfl,_,rfl,_,rfl,_,_,rfl,.inl (SqL.of (s57 _ _ hsa)),λl8 hl8=>?_];have s8:=aF hl8 (.lst ((fK (ab ps LH j) (ab ps LH c)).map nV));have h8l:upd H7 l8 (.lst ((fK (ab ps LH j) (ab ps LH c)).map nV)) l8=some (.lst ((fK (ab ps LH j) (ab ps LH c)).map nV)):=aj;have n8:l8∉[D2,D]:=λz=>by
    rcases aX.mp z with e|e
    .rw[e,h7]at hl8;cases hl8
    .rw[aM.mp e,nD7]at hl8;cases hl8
   generalize upd H7 l8 (.lst ((fK (ab ps LH j) (ab ps LH c)).map nV))=H8 at s8 h8l ⊢;refine #[(by show 2<=sizeLine;decide),λb9 hb9=>?_];have s9:=aF hb9 (.tup [.int (c:Int),.ref l8]);have h9:upd H8 b9 (.tup [.int (c:Int),.ref l8]) b9=some (.tup [.int (c:Int),.ref l8]):=aj;generalize upd H8 b9 (.tup [.int (c:Int),.ref l8])=H9 at s9 h9 ⊢;have s79:Same H7 H9:=s8.trans s9;have h9D:=s79 _ _ h7;have kk:∀ o,But D2 H9 (upd H9 D2 o):=λo b o' n e=>by rw[ak n];exact e
   refine #[vs,h9D,bt (by lia),m7-1,by lia,by lia,_,_,vs++[.ref b9],rfl,aj,?_,λb o n e=>by rw[ak n];exact s79 _ _ (k7 b o n e)];rw[cH (by lia),(aN.mp hc).2];refine mI (cz (λa b h=>cj.but (kk _) bu h9D (cj.same s79 h)) hv) ?_;exact cj.but (kk _) bu h9D #[b9,l8,rfl,n8,h9,s9 _ _ h8l]
  rintro U H7 ⟨y0,y1,vs,rfl,h7,hv,k7⟩;rw[<-hcl,bx (ai _)]at hv;have s7:Same H6 H7:=λb o e=>k7 b o (au e hD2) e;have hul:=hu.length;rw[cv]at hul;refine #[(by show 3<=sizeLine;decide),λb8 hb8=>?_];have s8:=aF hb8 (.tup [.int ((ab ps LH j).length:Nat),.ref l6,.ref D2]);have h8:upd H7 b8 (.tup [.int ((ab ps LH j).length:Nat),.ref l6,.ref D2]) b8=some (.tup [.int ((ab ps LH j).length:Nat),.ref l6,.ref D2]):=aj;generalize upd H7 b8 (.tup [.int ((ab ps LH j).length:Nat),.ref l6,.ref D2])=H8 at s8 h8 ⊢;have s58:Same H5 H8:=s6.trans (s7.trans s8);have h8D:=s58 _ _ h5;have kk:∀ o,But D H8 (upd H8 D o):=λo b o' n e=>by rw[ak n];exact e
  refine #[us,h8D,bt (by lia),m-1,by lia,by lia,_,us++[.ref b8],rfl,aj,?_,λb o n e=>by rw[ak n];exact s58 _ _ (k5 b o n e)];rw[fP];refine mI (cz (λa b h=>BrAt.but (kk _) bu h8D (BrAt.same s58 h)) hu) ?_;refine BrAt.but (kk _) bu h8D #[b8,l6,D2,vs,rfl,λz=>nl6 (aM.mp z),λz=>nD2 (aM.mp z),h8,s8 _ _ (s7 _ _ h6l),s8 _ _ h7,?_];exact cz (λa b h=>cj.same s8 (cj.less (λx z=>bE _ z) h)) hv
 rintro U H5 ⟨x0,us,rfl,h5,hu,k5⟩;rw[<-hxl]at hu;exact q D us H5 (λb o e=>k5 b o (au e hD) e) h5 (cz (λa b=>BrAt.less) hu)
def Kd (n:Int)(xs:List Int):inV (.int n) (xs.map V.int)=decide (n∈xs):=by
 unfold inV
 induction xs with
 | nil=>rfl
 | cons x xs ih=>
  rw[bS,gC,ih];show (x==n||decide (n∈xs))=decide (n∈x::xs);by_cases h:x=n
  .subst h;simp
  .have h2:¬ n=x:=λz=>h z.symm;simp[h,h2]
abbrev iiL (L:List (Nat×Nat)):List (Int×Int):=L.map λe=>((e.1:Int),(e.2:Int))
inductive v5 (K:Frag)(vs:List V)(H:Hp)(Q:VK)(w_1:XK):Prop
 | c:∀(br pf wa fd ad:Addr) (ps:List Nat) (LH:List (List Int)) (key:Int) (wy:List Nat) (L:List (Nat×Nat)) (xs fs zs:List V) (qs:List Addr),vs=[.ref br,.ref pf,.ref wa,.ref fd,.ref ad]->H br=some (.lst xs)->Paired (BrAt [] H ps LH) (List.range (ps.length+1)) xs->aR ps->H pf=some (.lst (qs.map V.ref))->bq K H ps LH (List.range (ps.length+1)) qs->fL H wa ps wy->H fd=some (.lst fs)->aB K H (wy.map λk=>dueF ps LH key k) fs->H ad=some (.lst zs)->aB K H (iiL L) zs->L.length<=76->iC ps LH key wy (wy.length-1) L->(∀ H',Same H H'->Q (.bl true) H')->v5 K vs H Q w_1
def Ke (T:Txt K mg)(xA:DF K mg "_law_modest" pE qE)(K4:FC P w K mg base 1 "_law_figures" qA (vS K))(K5:FC P w K mg base 1 "_law_start" qD (vW K)):FC P w K mg base 2 "_law_modest" qE (v5 K):=by
 refine xA.ok l5 (λvs H Q E h=>?_) (λf cdv A outer s H vs Q E hr h=>?_)
 .obtain ⟨br,pf,wa,fd,ad,ps,LH,key,wy,L,xs,fs,zs,qs,rfl,_⟩:=h;rfl
 obtain ⟨br,pf,wa,fd,ad,ps,LH,key,wy,L,xs,fs,zs,qs,rfl,hbr,hB,hT,hpf,hF,W,hfd,hfs,had,hzs,hL,M,q⟩:=h;refine #[_,(mq (cg (aZ sT (bc GH rfl T.bQ bL (aa (ff (GG rfl (hu8 hr)) rfl T.Ku boot_set (aa (pv 4) ae)) ae)) (bc (bU (K:=K)) rfl T.bQ bL (aa (pv 4) ae)) (bp _)) (av (aL dC)) cw)
   (c7 (bW PassesOwn.never rfl (dS (pv 4)) (fR rfl (cD (aI (i:=5) l5.nd rfl (ar rfl)) (cD (aI (i:=6) l5.nd rfl (ar rfl)) fA))) (av (cg (PW.pt (jC (aZ (jS (K:=K)) (pv 5) (pv 2) (by with_unfolding_all rfl)) (nJ (lq (Dv ya fS ah (pv 6) (bc (bU (K:=K)) rfl T.bQ bL (aa (aD (aQ (K:=K)) (pv 1) (pv 5) (λ_ _=>rfl)) ae))))))) (av (aL dC)) cw)))
   (mq (cg (aZ lA (bc (bU (K:=K)) rfl T.bQ bL (aa (dY (N:=["_law_one","_law_way_here"]) (own:=1) (cap:=[2]) rfl (dS (pv 4)) #[rfl,rfl,rfl,rfl,rfl,rfl] (λ_ _ _ _ _=>(aI (i:=0) (show List.Nodup (["_law_one","_law_way_here"]:List Str) by decide +kernel) rfl (ar rfl))) (λ_ _ _ _ _=>(gn (aZ c9 (aD (bI (K:=K)) (pv 0) ah (λ_ _=>rfl)) (aD (aQ (K:=K)) (pv 1) ah (λ_ _=>rfl)) (bp _)))) (λ_ _ _ _ _=>(pv 0))) ae)) (aG K4 hr (aa (bc (bU (K:=K)) rfl T.bQ bL (aa (aD (aQ (K:=K)) (pv 1) (aD (aQ (K:=K)) (pv 2) ah (λ_ _=>rfl)) (λ_ _=>rfl)) ae)) ae)) (bp _)) (av (aL dC)) cw)
   (c7 (bW PassesOwn.never rfl (ly rfl T.c8 (aa ah (aa (bc (bU (K:=K)) rfl T.bQ bL (aa (pv 2) ae)) ae))) (aI (i:=7) l5.nd rfl (dh rfl)) (c7 (aE (i:=8) l5.nd rfl (dh rfl) (aG K5 hr (aa (pv 0) (aa (aD (aQ (K:=K)) (pv 2) (ax c4 (pv 7) ah) (λ_ _=>rfl)) (aa (aD (aQ (K:=K)) (pv 2) (pv 7) (λ_ _=>rfl)) (aa (aD (bI (K:=K)) (aD (aQ (K:=K)) (pv 3) (ax c4 (pv 7) ah) (λ_ _=>rfl)) ah (λ_ _=>rfl)) ae))))))
   (av (cg (aZ (lR (List (Int×Int)) (huD hr)) (dY (N:=["_law_one","_law_way_here","_law_at","_law_start_here"]) (own:=1) (cap:=[2,7,8]) rfl (dS (pv 4)) #[rfl,rfl,rfl,rfl,rfl,rfl] (λ_ _ _ _ _=>(aI (i:=0) (show List.Nodup (["_law_one","_law_way_here","_law_at","_law_start_here"]:List Str) by decide +kernel) rfl (ar rfl))) (λ_ _ _ _ _=>(gn (PW.pt (iR (aZ c9 (aD (bI (K:=K)) (pv 0) ah (λ_ _=>rfl)) (aD (aQ (K:=K)) (pv 1) (pv 2) (λ_ _=>rfl)) (bp _)) (iQ (aZ (jS (K:=K)) (aD (bI (K:=K)) (pv 0) ah (λ_ _=>rfl)) (cN (aa (pv 3) (aa (ax bH (pv 3) ah) ae))) (by with_unfolding_all rfl))))))) (λ_ _ _ _ _=>(pv 0))) (dn ae) (bp _)) (av (aL dC)) cw))))
   (av (aL dC)))))),?_]
 have hzl:=hzs.length;rw[aq]at hzl;refine #[λU' H'=>(∃ x5 x6 x7 x8:Option V,U'=[some (.ref br),some (.ref pf),some (.ref wa),some (.ref fd),some (.ref ad),x5,x6,x7,x8])/\Same H H',?_,?_]
 .intro N n;refine #[_,rfl,ad,iiL L,zs,rfl,SqL.of had,hzs,by rw[aq];exact hL,?_,λl o hl hw=>?_]
  ·exact List.Pairwise.map _ (R:=λa b:Nat×Nat=>a≠b) (λa b ne z=>ne (by
    have h1:=congrArg Prod.fst z;have h2:=congrArg Prod.snd z;exact Prod.ext (Int.ofNat.inj h1) (Int.ofNat.inj h2))) M.nd
  have sl:=aF hl (.ext λh=>h.get? l=some o);refine #[l,o,_,rfl,aj,hw,by rw[aq];lia,_,rfl,_,_,rfl,.inl (SqL.of (sl _ _ had)),?_];rw[aq,hzl];exact #[rfl,_,rfl,iT rfl (n _ _ #[#[_,_,_,_,rfl],sl])]
 rintro _ H1 ⟨⟨x5,x6,x7,x8,rfl⟩,s1⟩;intro N n;refine #[_,rfl,ad,rfl,#[_,SqL.of (s1 _ _ had)],?_];refine lz (xs:=zs) (λi U' H'=>(∃ x5 x6 x7 x8:Option V,U'=[some (.ref br),some (.ref pf),some (.ref wa),some (.ref fd),some (.ref ad),x5,x6,x7,x8])/\Same H H') ?_ ?_ ?_ ?_
 .exact #[#[_,_,_,_,rfl],s1]
 .rintro i U H2 _ ⟨_,s2⟩;exact SqL.of (s2 _ _ had)
 .rintro i x U H2 hx ⟨⟨y5,y6,y7,y8,rfl⟩,s2⟩;obtain ⟨e,he,bb,x1,x2,rfl,hb,e1,e2⟩:∃ e,(iiL L)[i]?=some e/\hasP K H e x:=je hzs hx;rw[aY]at he;obtain ⟨e0,he0,rfl⟩:=eV.mp he;have e1':x1=.int e0.1:=e1;have e2':x2=.int e0.2:=e2;subst e1' e2';obtain ⟨hk1,hk2⟩:=M.kn _ (cB he0);have hkw:e0.1∈wy:=g8 hk1;obtain ⟨qk,hqk,wk,hwk,hak⟩:=fY hF (W.kn _ hkw);refine #[bb,_,rfl,SqT.of (s2 _ _ hb),rfl,_,_,rfl,_,_,rfl,rfl,?_];refine #[_,rfl,_,rfl,wa,_,rfl,.inl (SqL.of (s2 _ _ W.at_)),rfl,qT _,_,rfl,?_];show if (!inV (.int (e0.1:Int)) (wy.map nV))=true then _ else _
  rw[qU,bg hkw];refine iteF ?_;have hwl:=hak.length;refine #[_,rfl,_,_,rfl,rfl,_,rfl,tP (by lia) ?_];refine #[_,rfl,_,rfl,_,_,_,_,rfl,rfl,SqL.of (s2 _ _ hpf),d4 hqk,_,_,rfl,.inl (SqL.of (s2 _ _ hwk)),_,_,rfl,rfl,_,rfl,?_];exact iT (by lia) #[#[_,_,_,_,rfl],s2]
 rintro U H2 ⟨⟨y5,y6,y7,y8,rfl⟩,s2⟩;refine n _ _ ?_;clear n;have hpos:0<wy.length:=nF.mpr W.ne;have hk0:wy.getD 0 0<ps.length+1:=W.kn _ (iB hpos);have hw0:atI (wy.map nV) 0=some (nV (wy.getD 0 0)):=cI (j:=0) (jg hpos);refine #[λU' H'=>(∃ x5 x6 x7 x8:Option V,U'=[some (.ref br),some (.ref pf),some (.ref wa),some (.ref fd),some (.ref ad),x5,x6,x7,x8])/\Same H H',?_,?_]
 .intro N n;refine #[_,rfl,ad,rfl,#[_,SqL.of (s2 _ _ had)],λD hD=>?_];refine fT (xs:=zs) (λj U H5=>∃(x0:Option V) (vs:List V),U=[x0,some (.ref wa)]/\H5 D=some (.lst vs)/\vs.length=((L.take j).filter λe=>decide (e.1=wy.getD 0 0)).length/\But D H2 H5) ?_ ?_ ?_ ?_
  .exact #[_,[],rfl,aj,rfl,λb o n e=>by rw[ak n];exact e]
  .rintro j U H5 _ ⟨x0,vs,rfl,_,_,k5⟩;exact SqL.of (k5 _ _ (au (s2 _ _ had) hD) (s2 _ _ had))
  .rintro j m x U H5 hx hm ⟨x0,vs,rfl,h5,hu,k5⟩;have hj:=(aN.mp hx).1;obtain ⟨e,he,bb,x1,x2,rfl,hb,e1,e2⟩:∃ e,(iiL L)[j]?=some e/\hasP K H e x:=je hzs hx;rw[aY]at he;obtain ⟨e0,he0,rfl⟩:=eV.mp he;have e1':x1=.int e0.1:=e1;subst e1';have s5:Same H2 H5:=λb o e=>k5 b o (au e hD) e;have htk:L.take (j+1)=L.take j++[e0]:=by rw[cH (by lia),(aN.mp he0).2]
   have hsl:((L.take j).filter λe=>decide (e.1=wy.getD 0 0)).length<=j:=az (eP _ _) (by rw[aW];lia);refine #[_,rfl,_,_,_,_,rfl,rfl,SqT.of (s5 _ _ (s2 _ _ hb)),rfl,_,rfl,_,_,_,_,rfl,rfl,SqL.of (s5 _ _ (s2 _ _ W.at_)),hw0,rfl,_,rfl,?_];refine ite2 (λc=>?_) (λc=>?_)
   .have c':e0.1=wy.getD 0 0:=by have:=V.int.inj (bJ c);lia
    refine #[_,rfl,_,h5,bt (by lia),m-1,by lia,by lia,_,_,rfl,aj,?_,λb o n e=>by rw[ak n];exact k5 b o n e];rw[htk,cZ,ef (p:=λe:Nat×Nat=>decide (e.1=wy.getD 0 0)) (bg c'),aV,aV,hu];rfl
   .have c':¬ e0.1=wy.getD 0 0:=λz=>c (bg (by rw[z]));refine #[m-1,by lia,by lia,_,_,rfl,h5,?_,k5];rw[htk,cZ,fz (p:=λe:Nat×Nat=>decide (e.1=wy.getD 0 0)) (by rw[bD c'];exact bY),nD,bZ];exact hu
  rintro U H5 ⟨x0,vs,rfl,h5,hu,k5⟩;rw[<-hzl,bx (ai _)]at hu;have s5:Same H2 H5:=λb o e=>k5 b o (au e hD) e;obtain ⟨qk,hqk,wk,hwk,hak⟩:=fY hF hk0;have hwl:=hak.length;have hfst:=M.fst;refine #[D,_,rfl,.inl (SqL.of h5),?_];refine #[_,rfl,_,rfl,_,_,_,_,rfl,rfl,SqL.of (s5 _ _ (s2 _ _ W.at_)),hw0,_,_,_,_,rfl,rfl,SqL.of (s5 _ _ (s2 _ _ hpf)),d4 hqk,_,_,rfl,.inl (SqL.of (s5 _ _ (s2 _ _ hwk))),_,rfl,_,_,rfl,rfl,_,rfl,?_];rw[<-hwl,hu];exact EZ (by lia) (n _ _ #[#[_,_,_,_,rfl],s2.trans s5])
 rintro _ H3 ⟨⟨z5,z6,z7,z8,rfl⟩,s3⟩;intro N n;refine #[_,rfl,_,_,rfl,.inl (SqL.of (s3 _ _ W.at_)),?_];have hwy:=W.len;refine #[_,_,rfl,#[by decide,by decide,by lia,by rw[aq];lia],?_];rw[show ((((wy.map nV).length:Nat):Int)-1).toNat=wy.length-1 by rw[aq];lia];refine fB (n:=wy.length-1) (λi U' H'=>(∃ x5 x6 x7 x8:Option V,U'=[some (.ref br),some (.ref pf),some (.ref wa),some (.ref fd),some (.ref ad),x5,x6,x7,x8])/\Same H H') ?_ ?_ ?_
 .exact #[#[_,_,_,_,rfl],s3]
 .rintro i U H4 hi ⟨⟨w5,w6,w7,w8,rfl⟩,s4⟩;have hi1:i+1<wy.length:=by lia
  have hpar:=W.ch i hi1;have hki:wy.getD i 0<ps.length+1:=W.kn _ (iB (by lia));have hw1:atI (wy.map nV) (1+(i:Int)-1)=some (nV (wy.getD i 0)):=by
   rw[show (1:Int)+(i:Int)-1=((i:Nat):Int) by lia];exact cI (jg (by lia))
  have hw2:atI (wy.map nV) (1+(i:Int))=some (nV (wy.getD (i+1) 0)):=by
   rw[show (1:Int)+(i:Int)=((i+1:Nat):Int) by lia];exact cI (jg hi1)
  obtain ⟨v,hv,tb,x1,x2,rfl,htb,e1,e2⟩:∃ v,fs[i]?=some v/\hasP K H (dueF ps LH key (wy.getD i 0)) v:=rp hfs (by rw[aY,aw (show i<wy.length by lia),aA,aw (show i<wy.length by lia)];rfl);have e1':x1=.int ((aS (ab ps LH (wy.getD i 0)) key:Nat):Int):=e1;subst e1';have hf1:atI fs (1+(i:Int)-1)=some (.ref tb):=by
   rw[show (1:Int)+(i:Int)-1=((i:Nat):Int) by lia];exact cI hv
  intro N2 n2;refine #[_,rfl,_,rfl,_,rfl,_,_,rfl,rfl,_,_,_,_,rfl,rfl,SqL.of (s4 _ _ W.at_),hw1,_,rfl,_,rfl,_,_,_,_,rfl,rfl,SqL.of (s4 _ _ W.at_),hw2,_,rfl,_,rfl,_,_,rfl,rfl,_,_,_,_,rfl,rfl,SqL.of (s4 _ _ hfd),hf1,_,_,_,_,rfl,rfl,SqT.of (s4 _ _ htb),rfl,?_];refine #[br,ps,LH,xs,wy.getD i 0,wy.getD (i+1) 0,_,rfl,s4 _ _ hbr,cz (λa b h=>BrAt.same s4 h) hB,hT,hki,hpar,jf _ _,λH5 s5=>?_];refine n2 _ _ ?_;have s05:=s4.trans s5;have hnx:=M.nxt i (by lia);unfold stW at hnx;generalize stN (ab ps LH (wy.getD (i+1) 0)) ((ab ps LH (wy.getD i 0)).take (aS (ab ps LH (wy.getD i 0)) key))=st at hnx ⊢;refine #[_,rfl,ad,rfl,#[_,SqL.of (s05 _ _ had)],λD hD=>?_];refine fT (xs:=zs) (λj U H6=>∃ x0:Option V,U=[x0,some (.ref wa),some (.int (1+(i:Int))),some (.int (st:Int))]/\H6 D=some (.lst [])/\But D H5 H6) ?_ ?_ ?_ ?_
  .exact #[_,rfl,aj,λb o n e=>by rw[ak n];exact e]
  .rintro j U H6 _ ⟨x0,rfl,_,k6⟩;exact SqL.of (k6 _ _ (au (s05 _ _ had) hD) (s05 _ _ had))
  .rintro j m x U H6 hx hm ⟨x0,rfl,h6,k6⟩;have hj:=(aN.mp hx).1;obtain ⟨e,he,bb,x1,x2,rfl,hb,e1,e2⟩:∃ e,(iiL L)[j]?=some e/\hasP K H e x:=je hzs hx;rw[aY]at he;obtain ⟨e0,he0,rfl⟩:=eV.mp he;have e1':x1=.int e0.1:=e1;have e2':x2=.int e0.2:=e2;subst e1' e2';have s6:Same H H6:=s05.trans λb o e=>k6 b o (au e hD) e;refine #[_,rfl,_,_,_,_,rfl,rfl,SqT.of (s6 _ _ hb),rfl,_,rfl,_,rfl,_,_,_,_,rfl,rfl,SqL.of (s6 _ _ W.at_),hw2,rfl,_,rfl,?_];refine ite2 (λc=>?_) (λc=>?_)
   .have c':e0.1=wy.getD (i+1) 0:=by have:=V.int.inj (bJ c);lia
    have hst:=hnx e0 (cB he0) c';refine #[_,rfl,_,_,_,_,rfl,rfl,SqT.of (s6 _ _ hb),rfl,_,rfl,_,rfl,_,_,rfl,rfl,(by show 2<=sizeLine;decide),λp hp=>?_];have sp:=aF hp (.tup [.int (st:Int),.int ((st:Int)+1)]);refine #[p,_,rfl,.inr (SqT.of aj),rfl,rfl,_,rfl,?_];show if (!inV (.int (e0.2:Int)) ([(st:Int),(st:Int)+1].map V.int))=true then _ else _
    rw[Kd,bg (by simp only[aX,ee,or_false];lia)];refine iteF #[m-1,by lia,by lia,_,rfl,sp _ _ h6,λb o n e=>sp _ _ (k6 b o n e)]
   .refine iteF #[m-1,by lia,by lia,_,rfl,h6,k6]
  rintro U H6 ⟨x0,rfl,h6,k6⟩;have s6:Same H H6:=s05.trans λb o e=>k6 b o (au e hD) e;refine #[(by show 0<=sizeLine;decide),λp hp=>?_];have sp:=aF hp (.lst []);exact #[([]:List (Int×Int)),([]:List (Int×Int)),#[_,_,rfl,SqL.of (sp _ _ h6),.nil],#[_,_,rfl,SqL.of aj,.nil],_,rfl,iT rfl #[#[_,_,_,_,rfl],s6.trans sp]]
 rintro U H4 ⟨⟨w5,w6,w7,w8,rfl⟩,s4⟩;exact n _ _ (q _ s4)
def Cz {K:Frag}{ad:Addr}:∀{js:List Nat} {qs:List Addr},ad∉qs->(∀ q∈qs,∀ ws,H q=some (.lst ws)->H' q=some (.lst ws))->(∀ b us,H b=some (.tup us)->H' b=some (.tup us))->bq K H ps LH js qs->bq K H' ps LH js qs
 | _,_,_,_,_,.nil=>.nil
 | _,_,hn,k1,k2,.cons ⟨ws,h1,h2⟩ t=>.cons #[ws,k1 _ bu _ h1,iA k2 h2] (Cz (λz=>hn (bE _ z)) (λq hq=>k1 q (bE _ hq)) k2 t)
structure Sm (d:PyData)(dp n:Nat):Prop where
 sh:d.showable=true
 nd:d.hasDict=false
 dp:d.depth<=dp
 ln:d.shown.length<=n
def v7 {n:Nat}(h:n<1024):Sm (.int (n:Int)) 0 4:=by
 have:∀ n:Fin 1024,(PyData.shown (.int ((n:Nat):Int))).length<=4/\(PyData.int ((n:Nat):Int)).showable=true:=by decide +kernel
 obtain ⟨h1,h2⟩:=this #[n,h];exact #[h2,by simp[PyData.hasDict],by simp[PyData.depth],h1]
def v8 :∀{ds:List PyData},(∀ d∈ds,Sm d dp n)->PyData.showableAll ds=true/\PyData.hasDictAll ds=false/\PyData.depthAll ds<=dp/\((PyData.shownAll ds).map (·.length)).sum<=n*ds.length/\(PyData.shownAll ds).length=ds.length
 | [],_=>#[by simp[PyData.showableAll],by simp[PyData.hasDictAll],by simp[PyData.depthAll],by simp[PyData.shownAll],by simp[PyData.shownAll]]
 | d::ds,h=>by
  have s:=h d bu;obtain ⟨g1,g2,g3,g4,g5⟩:=v8 (ds:=ds) λy hy=>h y (bE _ hy);have s4:=s.ln;have s3:=s.dp;refine #[by simp[PyData.showableAll,s.sh,g1],by simp[PyData.hasDictAll,s.nd,g2],?_,?_,?_]
  .simp only[PyData.depthAll];lia
  .simp only[PyData.shownAll,bS,dB,cR,Nat.mul_succ];lia
  .simp only[PyData.shownAll,cR,g5]
def wb {m:Nat}{ds:List PyData}(h:∀ d∈ds,Sm d dp n)(hm:ds.length<=m):Sm (.list ds) (dp+1) (n*m+2*m+3):=by
 obtain ⟨g1,g2,g3,g4,g5⟩:=v8 h;have:=listText_len_le (PyData.shownAll ds);have:=Nat.mul_le_mul_left n hm;refine #[by simpa [PyData.showable] using g1,by simpa [PyData.hasDict] using g2,by simp only[PyData.depth];lia,?_];simp only[PyData.shown];lia
def CA {m:Nat}{ds:List PyData}(h:∀ d∈ds,Sm d dp n)(hm:ds.length<=m):Sm (.tuple ds) (dp+1) (n*m+2*m+3):=by
 obtain ⟨g1,g2,g3,g4,g5⟩:=v8 h;have:=tupleText_len_le (PyData.shownAll ds);have:=Nat.mul_le_mul_left n hm;refine #[by simpa [PyData.showable] using g1,by simpa [PyData.hasDict] using g2,by simp only[PyData.depth];lia,?_];simp only[PyData.shown];lia
def Sm.le {dp n dp' n':Nat}(s:Sm d dp n)(h1:dp<=dp')(h2:n<=n'):Sm d dp' n':=#[s.sh,s.nd,az s.dp h1,az s.ln h2]
def mN (l:List Nat):PyData:=.list (l.map λn:Nat=>.int (n:Int))
def rG (ps:List Nat)(LH:List (List Int))(k c:Nat):PyData:=.tuple [.int (c:Int),mN (fK (ab ps LH k) (ab ps LH c))]
def brD (ps:List Nat)(LH:List (List Int))(k:Nat):PyData:=.tuple [.int ((ab ps LH k).length:Nat),mN (fX k (ab ps LH k)),.list ((bw ps k (ps.length+1)).map (rG ps LH k))]
def brsD (ps:List Nat)(LH:List (List Int)):PyData:=.list ((List.range (ps.length+1)).map (brD ps LH))
def wd :∀ l:List Nat,RDs H (l.map nV) (l.map λn:Nat=>PyData.int (n:Int)) []
 | []=>.nil
 | _::l=>.cons (as:=[]) (bs:=[]) (.int _) (wd l)
def CB {k:Nat}:∀{cs:List Nat} {ys:List V},Paired (cj [] H (ab ps LH k) ps LH) cs ys->∃ as,RDs H ys (cs.map (rG ps LH k)) as
 | _,_,.nil=>#[[],.nil]
 | _,_,.cons ⟨j,s,e1,_,h1,h2⟩ t=>by
  obtain ⟨as,r⟩:=CB t;subst e1;exact #[_,.cons (.tup h1 (.cons (.int _) (.cons (.lst h2 (wd _)) .nil))) r]
def CC :∀{ks:List Nat} {xs:List V},Paired (BrAt [] H ps LH) ks xs->∃ as,RDs H xs (ks.map (brD ps LH)) as
 | _,_,.nil=>#[[],.nil]
 | _,_,.cons ⟨b,o,j,ys,e1,_,_,h1,h2,h3,h4⟩ t=>by
  obtain ⟨as,r⟩:=CC t;obtain ⟨bs,r2⟩:=CB h4;subst e1;exact #[_,.cons (.tup h1 (.cons (.int _) (.cons (.lst h2 (wd _)) (.cons (.lst h3 r2) .nil)))) r]
def CD (cs:List En):∀(es:List En) (s:Nat),s<=cs.length->es.foldl (rl cs) s<=cs.length
 | [],_,h=>h
 | e::es,s,h=>by
  refine CD cs es _ ?_;unfold rl;split
  .rename_i hm;exact List.idxOf_lt_length_of_mem hm
  .exact h
def CF {l:List Nat}(h:∀ n∈l,n<1024)(hl:l.length<=401):Sm (mN l) 1 3000:=by
 refine Sm.le (wb (dp:=0) (n:=4) (m:=401) (λd hd=>?_) (by rw[aq];exact hl)) (ai _) (by decide);obtain ⟨n,hn,rfl⟩:=bC.mp hd;exact v7 (h n hn)
def Kf {k:Nat}(h1:(ab ps LH k).length<=400)(h2:(ab ps LH c).length<=400)(hc:c<1024):Sm (rG ps LH k c) 2 7000:=by
 have hs:Sm (mN (fK (ab ps LH k) (ab ps LH c))) 1 3000:=by
  refine CF (λn hn=>?_) ?_
  .obtain ⟨p,_,rfl⟩:=bC.mp hn;have:=CD (ab ps LH c) ((ab ps LH k).take p) 0 (bG _);show ((ab ps LH k).take p).foldl (rl (ab ps LH c)) 0<1024;lia
  .unfold fK;rw[aq,cv];lia
 refine Sm.le (CA (dp:=1) (n:=3000) (m:=2) (λd hd=>?_) (ai 2)) (ai _) (by decide);rcases aX.mp hd with e|e
 .rw[e];exact (v7 hc).le (by decide) (by decide)
 .rw[aM.mp e];exact hs
def Kg {ps:List Nat}{k:Nat}(hn:ps.length<10)(hf:∀ k,k<ps.length+1->(ab ps LH k).length<=400)(hk:k<ps.length+1):Sm (brD ps LH k) 4 300000:=by
 have ho:Sm (mN (fX k (ab ps LH k))) 1 3000:=by
  have:=hf k hk;refine CF (λn hn=>?_) ?_
  .obtain ⟨p,_,rfl⟩:=bC.mp hn;have h1:dJ k ((ab ps LH k).take p)<=((ab ps LH k).take p).length:=eP _ _;rw[aW]at h1;show dJ k ((ab ps LH k).take p)<1024;lia
  .unfold fX;rw[aq,cv];lia
 have hj:Sm (.list ((bw ps k (ps.length+1)).map (rG ps LH k))) 3 80000:=by
  refine Sm.le (wb (dp:=2) (n:=7000) (m:=10) (λd hd=>?_) ?_) (ai _) (by decide)
  .obtain ⟨c,hc,rfl⟩:=bC.mp hd;have hc2:=(cW.mp hc).1;exact Kf (hf k hk) (hf c hc2) (by lia)
  .rw[aq];unfold bw;exact az (eP _ _) (by rw[cv];lia)
 refine Sm.le (CA (dp:=3) (n:=80000) (m:=3) (λd hd=>?_) (ai 3)) (ai _) (by decide);simp only[aX,ee,or_false]at hd;rcases hd with e|e|e
 .rw[e];exact (v7 (by have:=hf k hk;lia)).le (by decide) (by decide)
 .rw[e];exact ho.le (by decide) (by decide)
 .rw[e];exact hj
def Kh {ps:List Nat}(hn:ps.length<10)(hf:∀ k,k<ps.length+1->(ab ps LH k).length<=400):Sm (brsD ps LH) 5 4000000:=by
 refine Sm.le (wb (dp:=4) (n:=300000) (m:=10) (λd hd=>?_) (by rw[aq,cv];lia)) (ai _) (by decide);obtain ⟨k,hk,rfl⟩:=bC.mp hd;exact Kg hn hf (dw.mp hk)
def CG {H:Hp}{br:Addr}{xs:List V}{Q:VK}(hb:H br=some (.lst xs))(hB:Paired (BrAt [] H ps LH) (List.range (ps.length+1)) xs)(hn:ps.length<10)(hf:∀ k,k<ps.length+1->(ab ps LH k).length<=400)(q:Q (.str (brsD ps LH).shown) H):uk [.ref br] H Q:=by
 obtain ⟨as,r⟩:=CC hB;have s:=Kh hn hf;exact #[br,brsD ps LH,br::as,rfl,.lst hb r,s.sh,PyData.noDict_hsm s.nd,az s.dp (by decide),az s.ln (by decide),q]
def Ki {K:Frag}{bs:Heap}{g ad pf mF c':Addr}{q:Str}{pn:List Str}{tb:TE}{qs:List Addr}{key:Int}
  (hV:FV P w K mg bs 2 g pn (lV 2 tb [.ref ad,.ref pf,.int key] c' q)) (hC:i0 H4 c' q) (had:H4 ad=some (.lst [])) (hpf:H4 pf=some (.lst (qs.map V.ref))) (hF:bq K H4 ps LH (List.range (ps.length+1)) qs) (n1:ad≠pf) (n2:ad∉qs) (ht:∃ tab,H4 mF=some (.tbl tab))
  (htb:∀(kn i:Nat) (H:Hp) (Q:VK),rF K [.ref ad,.ref pf,.int key,.int kn,.int i] H Q E0->tb [some (.int kn),some (.int i),some (.ref ad),some (.ref pf),some (.int key)] H Q) :
  AskF P w K mg bs g [ad] mF (λb=>b≠mF/\H4 b≠none) (λL H'=>(∃ zs,H' ad=some (.lst zs)/\aB K H' (iiL L) zs)/\∀ b o,b≠mF->b≠ad->H4 b=some o->H' b=some o) ps LH key:=by
 have nm:∀{x:Addr} {o:HO},H4 x=some o->(∀ tab,o≠.tbl tab)->x≠mF:=λ{x o} e n z=>by
  obtain ⟨tab,e2⟩:=ht;rw[<-z,e]at e2;exact n _ (aK e2)
 have nad:=nm had nofun;refine #[λL Ha Hb ⟨⟨zs,h1,h2⟩,hk⟩ k=>#[#[zs,k _ _ (.inl #[nad,by rw[had];exact λz=>nomatch z]) h1,iA (λb us e=>k _ _ (.inr #[us,rfl]) e) h2],λb o m1 m2 e=>k b o (.inl #[m1,by rw[e];exact λz=>nomatch z]) (hk b o m1 m2 e)],λL Ha b ⟨⟨zs,h1,_⟩,hk⟩ hb=>?_,λL Ha zq0 a ha=>(by obtain ⟨⟨zs,h1,_⟩,_⟩:=zq0;exact #[zs,by rw[aM.mp ha];exact h1]),λz=>z.1 rfl,pn,_,hV,λkn i L Ha Q hkn hi hL ⟨⟨zs,h1,h2⟩,hk⟩ hQ=>?_]
 .by_cases c:b=ad
  .rw[c,h1];exact λz=>nomatch z
  .cases e:H4 b with
   | none=>exact absurd e hb.2
   | some o=>
    rw[hk b o hb.1 c e];exact λz=>nomatch z
 have nc:c'≠ad:=λz=>by
  have hC':H4 c'=_:=hC;rw[z,had]at hC';cases hC'
 have hzl:=h2.length;rw[aq]at hzl;refine #[rfl,hk _ _ (nm hC nofun) nc hC,htb kn i Ha Q ?_];have hp':=hk _ _ (nm hpf nofun) (aT n1) hpf;have hF':bq K Ha ps LH (List.range (ps.length+1)) qs:=Cz n2 (λq hq ws e=>hk _ _ (nm e nofun) (λz=>n2 (z ▸ hq)) e) (λb us e=>hk _ _ (nm e nofun) (λz=>by rw[z,had]at e;cases e) e) hF
 refine #[ad,pf,zs,qs,ps,LH,key,kn,i,rfl,h1,by lia,hp',hF',hkn,hi,n1,n2,λt ht=>hQ _ #[#[_,aj,?_],λb o m1 m2 e=>?_] λb o m e=>?_]
 .have nt:t≠ad:=λz=>by rw[z,h1]at ht;cases ht
  have e:iiL (L++[(kn,i)])=iiL L++[((kn:Int),(i:Int))]:=bo ..;rw[e];refine aB.append (iA (λb us e=>?_) h2) (.cons #[t,_,_,rfl,by rw[ak nt];exact aj,rfl,rfl] .nil);rw[ak (λz=>by rw[z,h1]at e;cases e)]
  exact aF ht _ _ _ e
 .rw[ak m2];exact aF ht _ _ _ (hk b o m1 m2 e)
 .rw[ak (λz=>m (by rw[z];exact aM.mpr rfl))];exact aF ht _ _ _ e
def Kj {w:List Nat}(T:aR ps)(h:ix ps w)(hk:∀ x∈w,x<ps.length+1):w.length<=ps.length+1:=by
 have key:∀ i,i<w.length->i<=w.getD i 0:=by
  intro i
  induction i with
  | zero=>intro _;exact bG _
  | succ i ih=>
   intro hi;have:=ih (by lia);have:=(bA T (h i hi)).1;lia
 rcases Nat.eq_zero_or_pos w.length with e|e
 .omega
 .have h1:=key (w.length-1) (by lia);have h2:=hk _ (iB (wy:=w) (i:=w.length-1) (by lia));lia
def CH:∀(k n:Nat),n<2^k->figN n<=k
 | 0,n,h=>by
  have:n=0:=by simpa using h
  rw[this];unfold figN;exact ai _
 | k+1,n,h=>by
  unfold figN;split
  .exact bG _
  .have:=CH k (n/2) (by rw[ie]at h;lia);lia
def CI {K:Frag}{p:Addr}:∀{n:Nat} {qs:List Addr} (m:Nat),qs.length=n->(∀(j:Nat) (q:Addr),qs[j]?=some q->∃ ws,H q=some (.lst ws)/\aB K H (ab ps LH (m+j)) ws)->bq K H ps LH (List.range' m n) qs
 | _,[],_,rfl,_=>.nil
 | _,q::qs,m,rfl,h=>by
  refine .cons (h 0 q rfl) (CI (p:=p) (m+1) rfl λj q' hj=>?_);have:=h (j+1) q' hj;rwa[show m+(j+1)=m+1+j by lia]at this
def FA.fulls {K:Frag}{n:Nat}(h:FA K H p qs n (ab ps LH)):bq K H ps LH (List.range n) qs:=by
 rw[List.range_eq_range'];exact CI (p:=p) 0 h.len λj q hj=>by
  rw[fw];exact h.get j q hj
def rH (x:cU H Pt pos q):∃ tab,H Pt=some (.tbl tab):=by
 obtain ⟨tab,e,_⟩:=x.ex;exact #[tab,e]
def Kk {H:Hp}{ad:Addr}{js:List Nat}{xs:List V}(hn:H ad=none)(k:Kp0 H H')(h:Paired (BrAt [] H ps LH) js xs):Paired (BrAt [ad] H' ps LH) js xs:=by
 have na:∀{b:Addr} {o:HO},H b=some o->b∉[ad]:=λ{b o} e z=>by
  rw[aM.mp z,hn]at e;cases e
 exact cz (λj x zq0=>(by obtain ⟨b,o,j',ys,h1,_,_,h4,h5,h6,h7⟩:=zq0;exact #[b,o,j',ys,h1,na h5,na h6,k.tup h4,k.lst h5,k.lst h6,cz (λc y cL=>(by obtain ⟨a,s,g1,_,g3,g4⟩:=cL;exact #[a,s,g1,na g4,k.tup g3,k.lst g4])) h7])) h
def Kl {mF ad:Addr}{zs:List V}(x:cU H Pt pos q)(n:Pt≠mF)(ha:H ad=some (.lst zs))(hm:∃ tab,H mF=some (.tbl tab))(k:KpA [ad] mF H H'):cU H' Pt pos q:=by
 obtain ⟨tab,h1,h2,h3⟩:=x.ex;have na:∀{b:Addr} {o:HO},H b=some o->(∀ zs,o≠.lst zs)->b∉[ad]:=λ{b o} e m z=>by
  rw[aM.mp z,ha]at e;exact m _ (aK e).symm
 refine #[tab,k _ _ (na h1 nofun) n h1,h2,?_];rcases h3 with h3|⟨c,h3,h4⟩
 .exact .inl h3
 .refine .inr #[c,h3,k _ _ (na h4 nofun) (λz=>?_) h4];obtain ⟨t2,e2⟩:=hm;rw[<-z,show H c=_ from h4]at e2;cases e2
abbrev Km:Str:=(envOfC ("law" : Str) (aH jX) 0 0 .none).qual ++ "<lambda>"
abbrev Kn:Pos:=#[295,54,295,168]
abbrev lawRoom:Nat:=10
structure Tab2 (mF mL:Addr)(H:Hp):Prop where
 f:cU H mF rD rC
 l:cU H mL Kn Km
 n:mL≠mF
def Tab2.ext (x:Tab2 mF mL H)(e:Ext H H'):Tab2 mF mL H':=#[x.f.ext e,x.l.ext e,x.n]
inductive kG (K:Frag)(mF mL:Addr)(vs:List V)(H:Hp)(Q:VK)(w_1:XK):Prop
 | c:∀(a:Addr) (ns:List Int),vs=[.ref a]->SqL K H a (ns.map V.int)->ns.length<=63->mF≠mL->H mF=some (.tbl (List.toArray []))->H mL=some (.tbl (List.toArray []))->(∀ H',Q (.bl true) H')->kG K mF mL vs H Q w_1
def Ko (T:Txt K mg){mc mp:Addr}(rN:DFT K mg "law" jX qF mc mp)(hBM:BMAt mg base)(K7:FC P w K mg base 1 "_law_begin" qf (tT K))(K9:FC P w K mg base 6 "_law_stand" qw (vU K))(La:FC P w K mg base 3 "_law_wide" qx (vZ K))(Lb:FC P w K mg base 3 "_law_fulls" qv (vR K))(Lc:FC P w K mg base 9 "bridges" p9 (spBr K))(Ld:FC P w K mg base 1 "_law_copied" qy (v3 K))(Le:FC P w K mg base 3 "_law_way" qm (vO K))(wY:FC P w K mg base 3 "_law_key" ma (qR K))(bR:FC P w K mg base 2 "_law_take" gw (gP K))(Lf:FC P w K mg base 1 "_law_asked" qz (rF K))(Lg:FC P w K mg base 1 "_law_wholes" qC (vY K))(Lh:FC P w K mg base 1 "_law_placed" qB (vX K))(Li:FC P w K mg base 2 "_law_modest" qE (v5 K))(Lj:∀ b,Sub K mg base b->FC P w K mg b 6 "search" qe (vN P w K mg b mF)):FC P w K mg base 10 "law" qF (kG K mF mp):=by
 refine rN.ok dr (λvs H Q E h=>?_) (λf A outer s H vs Q E hr h=>?_)
 .obtain ⟨a,ns,rfl,_⟩:=h;rfl
 obtain ⟨a,ns,rfl,hS,_,hnd,hmF,hmL,q⟩:=h;refine #[_,(c7 (aE (i:=1) dr.nd rfl (ar rfl) (aG K7 hr (aa (pv 0) ae)))
   (c7 (gK (aG K9 hr (aa (pv 1) (aa ah (aa ah ae)))) (fR rfl (cD (aI (i:=2) dr.nd rfl (ar rfl)) (cD (aI (i:=3) dr.nd rfl (ar rfl)) fA))))
   (mq (cg (aZ c9 (aG bR hr (aa (pv 1) (aa ah ae))) ah (bp _)) (av (gK (aG La hr (aa (pv 1) (aa (pv 2) (aa (pv 3) ae)))) (fR rfl (cD (aI (i:=2) dr.nd rfl (ar rfl)) (cD (aI (i:=3) dr.nd rfl (ar rfl)) fA))))) cw)
   (c7 (aE (i:=4) dr.nd rfl (dh rfl) (aG Lb hr (aa (pv 2) (aa (pv 3) ae))))
   (c7 (aE (i:=5) dr.nd rfl (ar rfl) (aG Ld hr (aa (aG Lc hr (aa (cN (aa (pv 2) (aa (pv 3) ae))) ae)) ae)))
   (c7 (aE (i:=6) dr.nd rfl (ar rfl) (bc (zX hr.gd (hu16 hr)) rfl T.CM boot_repr (aa (pv 5) ae)))
   (c7 (bW PassesOwn.never rfl (eQ rfl T.c8 (aa ah ae)) (aI (i:=7) dr.nd rfl (ar rfl)) (c7 (aE (i:=8) dr.nd rfl (ar rfl) (aG Le hr (aa (pv 1) (aa (pv 2) ae))))
   (c7 (aE (i:=9) dr.nd rfl (dh rfl) (aG wY hr (aa (pv 1) ae)))
   (mq (cg (PW.pt (iR (aZ (lR (Tup Int) (huD hr)) (aD (bI (K:=K)) (pv 3) (aD (aQ (K:=K)) (pv 8) (fc fe ah) (λ_ _=>rfl)) (λ_ _=>rfl)) (cN ae) (bp _)) (iQ (aZ c9 (aG bR hr (aa (pv 1) (aa ah ae))) ah (bp _))))) (av (aE (i:=9) dr.nd rfl (dh rfl) (aD (bI (K:=K)) (aD (bI (K:=K)) (pv 3) (aD (aQ (K:=K)) (pv 8) (fc fe ah) (λ_ _=>rfl)) (λ_ _=>rfl)) (aG bR hr (aa (pv 1) (aa (bc (bU (K:=K)) rfl T.bQ bL (aa (aD (bI (K:=K)) (pv 3) (aD (aQ (K:=K)) (pv 8) (fc fe ah) (λ_ _=>rfl)) (λ_ _=>rfl)) ae)) ae))) (λ_ _=>rfl)))) cw)
   (c7 (aE (i:=10) dr.nd rfl (dh rfl) (dn ae))
   (c7 (aE (i:=11) dr.nd rfl (ar rfl) (ff (lS (K:=K)) rfl T.jh boot_list (aa (pv 8) ae)))
   (c7 (aE (i:=12) dr.nd rfl (ar rfl) (Gc (kf:=1) Lj hr (pv 5) (pv 11) (Aa (osc:=aH jX) (N:=["_law_script","_law_state","_law_tree_here","_law_rows_here","_law_fulls_here","_law_bridged","_law_kept","_law_turn","_law_way_here","_law_key_here","_law_asked_here","_law_given","_law_found","_law_knot","_law_one"]) (ps:=["_law_knot","_law_number"]) (caps:=["_law_asked_here","_law_fulls_here","_law_key_here"]) (cap:=[10,4,9]) #[rfl,rfl,rfl,by decide +kernel,by decide +kernel,by decide +kernel,by decide +kernel] (by decide +kernel) (by decide +kernel) rfl rfl rfl rfl (λ_ _ _ _ us hl=>match us,hl with | [_,_],_=>rfl) (λ_=>rfl)) rfl rN.hd hBM (λb _ _ _ _ _ _ _ S hr=>(aG (Lf.lift S) hr (aa (pv 2) (aa (pv 3) (aa (pv 4) (aa (pv 0) (aa (pv 1) ae)))))))))
   (mq (cg (PW.pt (jC (lq (ig (bc (oj (K:=K)) rfl T.rJ boot_isinstance (aa (pv 12) (aa (nI (v:=.ty "list") rfl T.jh boot_list rfl) ae))))) (jC (aZ sT (bc (bU (K:=K)) rfl T.bQ bL (aa (pv 12) ae)) (bc (bU (K:=K)) rfl T.bQ bL (aa (pv 8) ae)) (bp _)) (jC (aZ (lR (List Int) (huD hr)) (pv 11) (pv 8) (bp _)) (nJ (aZ sT (bc (zX hr.gd (hu16 hr)) rfl T.CM boot_repr (aa (pv 5) ae)) (pv 6) (bp _))))))) (av (aL dC)) cw)
   (c7 (bW PassesOwn.never rfl (nZ rfl T.rL (aa (pv 8) (aa (pv 12) ae))) (fR rfl (cD (aI (i:=13) dr.nd rfl (ar rfl)) (cD (aI (i:=14) dr.nd rfl (ar rfl)) fA))) (av (cg (lq (ig (aG Lg hr (aa (pv 14) (aa (aG Lh hr (aa (pv 4) (aa (pv 3) (aa (pv 13) (aa (pv 9) ae))))) ae))))) (av (aL dC)) cw)))
   (av (cg (lq (ig (aG Li hr (aa (pv 5) (aa (pv 4) (aa (pv 8) (aa (pv 12) (aa (pv 10) ae)))))))) (av (aL dC)) cw)))))))))))
   (av (aL dC))))))))),?_]
 have TT0:Tab2 mF mp H:=#[#[(List.toArray []),hmF,trivial,.inl rfl],#[(List.toArray []),hmL,trivial,.inl rfl],aT hnd];intro N1 n1;refine #[_,rfl,a,ns,rfl,hS,λd H1 _ g1 s1=>n1 _ _ ?_];clear n1 N1;intro N2 n2;have ndT:∀{H':Hp} {a':Addr} {o:HO},LS K a d H'->H' a'=some o->(∀ kvs,o≠.dK kvs)->a'≠d:=λ{H' a' o} s e n z=>by
  obtain ⟨_,_,_,e2,_⟩:=s.ex;rw[<-z,e]at e2;exact n _ (aK e2)
 have stT:∀{HX HY:Hp} {st t rs:Addr} {ps:List Nat} {LH:List (List Int)} {as:List Addr},dH HX st ps LH t rs as->(∀ b o,HX b=some (.tup o)->HY b=some (.tup o))->dH HY st ps LH t rs as:=λS e=>#[e _ _ S.st,e _ _ S.tr,e _ _ S.rs,cz (λ_ _ h=>e _ _ h) S.at_,S.len,S.T,S.R,S.few,S.keys];refine #[_,rfl,d,a,10,7,rfl,by decide,by decide,by decide,s1,λst ps LH t rs as H2 _ S hps hlen k2 s2=>?_];have TT2:=(TT0.ext g1.ext).ext (s1.ext k2);refine #[st,_,rfl,SqT.of S.st,rfl,_,_,rfl,_,_,rfl,rfl,n2 _ _ ?_];clear n2 N2 TT0 g1 k2;refine #[λU' H'=>∃(st:Addr) (ps:List Nat) (LH:List (List Int)) (t rs:Addr) (as:List Addr),U'=[some (.ref a),some (.ref d),some (.ref t),some (.ref rs),none,none,none,none,none,none,none,none,none,none,none]/\dH H' st ps LH t rs as/\ps.length<10/\LS K a d H'/\Tab2 mF mp H',?_,?_]
 .intro N n;refine #[_,rfl,d,a,8,rfl,by decide,s2,λv H3 v0 v1 k3 s3=>?_];have S3:=stT S λb o e=>k3 _ _ (ndT s2 e nofun) e;have TT3:=TT2.ext (s2.ext k3);refine #[rfl,_,rfl,?_];refine ite2 (λc=>?_) (λc=>?_)
  .refine #[_,rfl,_,rfl,_,rfl,d,a,ps,LH,t,rs,as,rfl,S3.tr,S3.rs,S3.at_,S3.len,S3.T,S3.R,hlen,s3,λst' ps' rows' t' rs' as' H4 S4 hp4 k4 s4=>?_];exact #[st',_,rfl,SqT.of S4.st,rfl,_,_,rfl,_,_,rfl,rfl,n _ _ #[st',ps',rows',t',rs',as',rfl,S4,hp4,s4,TT3.ext (s3.ext k4)]]
  .exact n _ _ #[st,ps,LH,t,rs,as,rfl,S3,hps,s3,TT3]
 clear S hps hlen s2 TT2;rintro _ H2 ⟨st,ps,LH,t,rs,as,rfl,S,hps,s2,TT2⟩;have hf4:∀ k,k<ps.length+1->(ab ps LH k).length<=400:=λk hk=>az (jc S.T S.len hk) S.keys;intro N3 n3;refine #[_,rfl,_,rfl,t,rs,ps,LH,as,rfl,S.tr,S.rs,S.at_,S.len,S.T,S.R,S.few,S.keys,λpf qs H3 _ g3 F3 _=>n3 _ _ ?_];clear n3 N3;intro N4 n4;refine #[_,rfl,_,rfl,(by show 2<=sizeLine;decide),λst2 hst2=>?_];have gs:=aF hst2 (.tup [.ref t,.ref rs]);have h3s:upd H3 st2 (.tup [.ref t,.ref rs]) st2=some (.tup [.ref t,.ref rs]):=aj;generalize upd H3 st2 (.tup [.ref t,.ref rs])=H3' at gs h3s ⊢;have S3:dH H3' st2 ps LH t rs as:=#[h3s,(S.same (g3.trans gs)).tr,(S.same (g3.trans gs)).rs,(S.same (g3.trans gs)).at_,S.len,S.T,S.R,S.few,S.keys];refine #[st2,ps,LH,t,rs,as,rfl,S3,λp0 xs0 H4 _ g4 h4 hB4=>?_];refine #[p0,ps,LH,xs0,rfl,h4,hB4,S.few,hf4,λbr xs H5 g5 h5 hB5=>n4 _ _ ?_];clear n4 N4;intro N5 n5;refine #[_,rfl,CG h5 hB5 hps hf4 (n5 _ _ ?_)];clear n5 N5;have g35:=g3.trans (gs.trans (g4.trans g5));have S5:=S.same g35;have TT5:=TT2.ext g35.ext;have sl5:=s2.same g35;have F5:FA K H5 pf qs (ps.length+1) (ab ps LH):=F3.ext (gs.trans (g4.trans g5)).ext;have hfew:=S5.few;clear g35 g5 g4 gs g3 hB4 h4 S3 h3s F3 TT2 s2 S hst2;intro N6 n6;refine #[3,rfl,by decide,by decide,?_];refine fB (n:=3) (λi U HA=>∃ x7 x8 x9 x10 x11 x12 x13 x14:Option V,U=[some (.ref a),some (.ref d),some (.ref t),some (.ref rs),some (.ref pf),some (.ref br),some (.str (brsD ps LH).shown),x7,x8,x9,x10,x11,x12,x13,x14]/\(∀ b o,b≠d->(∀ tab,o≠.tbl tab)->H5 b=some o->HA b=some o)/\Tab2 mF mp HA/\LS K a d HA) ?_ ?_ ?_
 .exact #[_,_,_,_,_,_,_,_,rfl,λ_ _ _ _ e=>e,TT5,sl5]
 .rintro i U HA hi ⟨x7,x8,x9,x10,x11,x12,x13,x14,rfl,kA,TA,sA⟩;rw[fb];have ndt5:∀{b:Addr} {o:HO},H5 b=some o->(∀ kvs,o≠.dK kvs)->b≠d:=λe n=>ndT sl5 e n;have tA:∀ b o,H5 b=some (.tup o)->HA b=some (.tup o):=λb o e=>kA _ _ (ndt5 e nofun) nofun e;have SA:=stT S5 tA;intro N7 n7;refine #[_,rfl,_,rfl,d,a,t,ps,rfl,SA.tr,S5.T,hfew,sA,λwa wy HB _ WB kB sB=>n7 _ _ ?_];clear n7 N7;have SB:=stT SA λb o e=>kB _ _ (ndT sA e nofun) e;intro N8 n8;refine #[_,rfl,d,a,rfl,sB,λkey0 HC _ _ kC sC=>n8 _ _ ?_];clear n8 N8;have SC:=stT SB λb o e=>kC _ _ (ndT sB e nofun) e;have WC:fL HC wa ps wy:=#[kC _ _ (ndT sB WB.at_ nofun) WB.at_,WB.len,WB.ne,WB.ch,WB.kn];have kAC:Keep d HA HC:=kB.trans kC;have TC:Tab2 mF mp HC:=TA.ext (sA.ext kAC);obtain ⟨c,hcn,hlast⟩:∃ c,c<ps.length+1/\atI (wy.map nV) (-1)=some (nV c):=by
   have e:=(List.dropLast_concat_getLast WC.ne).symm;refine #[wy.getLast WC.ne,WC.kn _ (List.getLast_mem _),?_];have h:=vJ (f:=nV) (us:=wy.dropLast) (c:=wy.getLast WC.ne);rw[<-e]at h;exact h
  obtain ⟨b,hb1,hb2⟩:=SC.at_.get (k:=c) (by rw[SC.len];lia);have hfit:(bO LH c).length<=400:=az (Cq (Cr (by rw[SC.len];lia))) SC.keys;generalize bO LH c=row at hb2 hfit;refine #[λU' H'=>∃ key:Int,U'=[some (.ref a),some (.ref d),some (.ref t),some (.ref rs),some (.ref pf),some (.ref br),some (.str (brsD ps LH).shown),some (.int (i:Int)),some (.ref wa),some (.int key),x10,x11,x12,x13,x14]/\Keep d HC H'/\Tab2 mF mp H'/\LS K a d H',?_,?_]
  .intro N n;refine #[_,rfl,_,rfl,_,rfl,_,_,_,_,rfl,rfl,SqL.of WC.at_,hlast,_,_,_,_,rfl,rfl,SqT.of SC.rs,d4 hb1,(by show 0<=sizeLine;decide),λe he=>?_];have se:=aF he (.tup []);have h5b:=se _ _ hb2;have sD:=sC.same se;have h5e:upd HC e (.tup []) e=some (.tup []):=aj;have T5:=TC.ext se.ext;have h5w:=se _ _ WC.at_;have h5r:=se _ _ SC.rs;generalize upd HC e (.tup [])=HD at se h5b sD h5e T5 h5w h5r ⊢;refine #[(#[row]:Tup Int),(#[[]]:Tup Int),#[_,_,rfl,SqT.of h5b,aB.ints],#[_,_,rfl,SqT.of h5e,.nil],_,rfl,?_];refine ite2 (λc1=>?_) (λc1=>?_)
   .refine #[_,rfl,d,a,2,rfl,by decide,sD,λv2 HE v20 v21 kE sE=>?_];have h6b:=kE _ _ (ndT sD h5b nofun) h5b;have h6w:=kE _ _ (ndT sD h5w nofun) h5w;have h6r:=kE _ _ (ndT sD h5r nofun) h5r;have kCE:Keep d HC HE:=λb o n e=>kE _ _ n (se _ _ e);have T6:=T5.ext (sD.ext kE);refine #[rfl,_,rfl,?_];refine ite2 (λc2=>?_) (λc2=>?_)
    .have hpos:0<row.length:=by
      rcases row with _|⟨x,row⟩
      .exact absurd c1 (by decide)
      .exact dO _
     refine #[_,rfl,_,rfl,_,rfl,_,_,_,_,rfl,rfl,SqL.of h6w,hlast,_,_,_,_,rfl,rfl,SqT.of h6r,d4 hb1,?_];refine #[_,rfl,_,rfl,_,rfl,_,rfl,_,_,_,_,rfl,rfl,SqL.of h6w,hlast,_,_,_,_,rfl,rfl,SqT.of h6r,d4 hb1,_,_,rfl,.inr (SqT.of h6b),d,a,_,rfl,by rw[aq];lia,sE,λv HF v0 v1 kF sF=>?_];rw[aq]at v1;obtain ⟨j,rfl⟩:=qS v0;have hj:j<row.length:=by lia
     refine #[_,_,_,_,rfl,rfl,SqT.of (kF _ _ (ndT sE h6b nofun) h6b),cI (v:=.int row[j]) (by rw[aY,aw hj];rfl),n _ _ ?_];exact #[_,rfl,kCE.trans kF,T6.ext (sE.ext kF),sF]
    .exact n _ _ #[_,rfl,kCE,T6,sE]
   .refine iteF (n _ _ ?_);exact #[_,rfl,λb o n e=>se _ _ e,T5,sD]
  rintro U' HD ⟨key,rfl,kD,TD,sD⟩;have kkD:∀ b o,b≠d->(∀ tab,o≠.tbl tab)->H5 b=some o->HD b=some o:=λb o n1 n2 e=>kD _ _ n1 (kAC _ _ n1 (kA _ _ n1 n2 e));have kp5D:∀{b:Addr} {o:HO},(∀ kvs,o≠.dK kvs)->(∀ tab,o≠.tbl tab)->H5 b=some o->HD b=some o:=λn1 n2 e=>kkD _ _ (ndt5 e n1) n2 e;have SD:=stT S5 (λb o e=>kp5D nofun nofun e);have hpfD:HD pf=some (.lst (qs.map V.ref)):=kp5D (λ_ z=>by cases z) (λ_ z=>by cases z) F5.at_
  have hbrD:HD br=some (.lst xs):=kp5D (λ_ z=>by cases z) (λ_ z=>by cases z) h5
  have hFD:bq K HD ps LH (List.range (ps.length+1)) qs:=cz (λj q ⟨ws,g1,g2⟩=>#[ws,kp5D nofun nofun g1,iA (λ_ _ e=>kp5D nofun nofun e) g2]) F5.fulls;have hBD:Paired (BrAt [] HD ps LH) (List.range (ps.length+1)) xs:=cz (λj x ⟨b,o,j',ys,g1,g2,g3,g4,g5,g6,g7⟩=>#[b,o,j',ys,g1,g2,g3,kp5D nofun nofun g4,kp5D nofun nofun g5,kp5D nofun nofun g6,cz (λc y ⟨a,s,f1,f2,f3,f4⟩=>#[a,s,f1,f2,kp5D nofun nofun f3,kp5D nofun nofun f4]) g7]) hB5;have WD:fL HD wa ps wy:=#[kD _ _ (ndT sC WC.at_ nofun) WC.at_,WC.len,WC.ne,WC.ch,WC.kn];clear kD kC kB WC WB SC SB SA tA TC kAC TA sA sB sC hb1 hb2 hfit hlast hcn;intro N9 n9;refine #[(by show 0<=sizeLine;decide),λad hd=>n9 _ _ ?_];clear n9 N9;have s5:=aF hd (.lst []);have hEa:upd HD ad (.lst []) ad=some (.lst []):=aj;have T5:=TD.ext s5.ext;generalize upd HD ad (.lst [])=HE at s5 hEa T5 ⊢;intro N10 n10;refine #[_,rfl,wa,_,rfl,.inl (SqL.of (s5 _ _ WD.at_)),λgi hgi=>n10 _ _ ?_];clear n10 N10;have s6:=aF hgi (.lst (wy.map nV));have hFg:upd HE gi (.lst (wy.map nV)) gi=some (.lst (wy.map nV)):=aj;have T6:=T5.ext s6.ext;have hFa:=s6 _ _ hEa;have nga:gi≠ad:=λz=>by rw[z,hEa]at hgi;cases hgi
  have s56:=s5.trans s6;generalize upd HE gi (.lst (wy.map nV))=HF at s6 hFg T6 hFa s56 ⊢;intro N11 n11;refine #[_,rfl,_,rfl,T6.l,[.ref ad,.ref pf,.int key],rfl,?_,λbs g c' HG hg hT7 hC SB hV=>?_]
  .intro j i v h1 h2;rcases j with _|_|_|j
   .cases h1;cases h2;rfl
   .cases h1;cases h2;rfl
   .cases h1;cases h2;rfl
   .cases h1
  have T7:Tab2 mF mp HG:=#[T6.f.gro hg (aT T6.n) (rH T6.l),hT7,T6.n];have kp67:Kp0 HF HG:=λb o n e=>hg _ _ (λz=>by
   obtain ⟨tab,e2⟩:=rH T6.l;rw[<-z,e]at e2;exact n _ (aK e2)) e
  have kpD7:Kp0 HD HG:=Kp0.trans (.of s56) kp67;have h7a:=kp67.lst hFa;have h7g:=kp67.lst hFg;have n1:ad≠pf:=λz=>by
   rw[z,hpfD]at hd;cases hd
  have n2:ad∉qs:=λz=>by
   obtain ⟨ws,e⟩:=hFD.alloc ad z;rw[hd]at e;cases e
  have AF:=Ki (mF:=mF) (ps:=ps) (LH:=LH) (qs:=qs) hV hC h7a (kpD7.lst hpfD) (Co kpD7 hFD) n1 n2 (rH T7.f) λ_ _ _ _ h=>#[_,rfl,_,rfl,_,rfl,_,rfl,_,rfl,h];have SE:cA [ad] mF (λL H'=>(∃ zs,H' ad=some (.lst zs)/\aB K H' (iiL L) zs)/\∀ b o,b≠mF->b≠ad->HG b=some o->H' b=some o) ps LH br xs [] HG:=#[#[#[[],h7a,.nil],λ_ _ _ _ e=>e],λa ha=>#[[],by rw[aM.mp ha];exact h7a],kpD7.lst hbrD,(λz=>by
   have e:=hbrD;rw[aM.mp z,hd]at e;cases e),Kk hd kpD7 hBD,T7.f]
  refine #[br,gi,g,xs,ps,LH,wy,key,[ad],_,_,[],rfl,AF,SE,S5.T,S5.R,hfew,#[h7g,WD.len,WD.ne,WD.ch,WD.kn],(λz=>nga (aM.mp z)),bG _,(λk hk=>az (hf4 k hk) (by decide)),λD zs H8 L' S8 k8 hDn h8 hA8 hL hM=>n11 _ _ ?_];clear n11 N11;rw[kO]at S8;obtain ⟨⟨zs',h8a,hA8'⟩,_⟩:=S8.r;have T8:Tab2 mF mp H8:=#[S8.tb,Kl T7.l T7.n h7a (rH T7.f) k8,T7.n];have kpD8:Kp0 HD H8:=λb o n e=>by
   have e7:=kpD7 _ _ n e;exact k8 _ _ (λz=>by
    rw[aM.mp z,hd]at e;cases e) (SE.nm e7 n) e7
  have h8g:H8 gi=some (.lst (wy.map nV)):=k8 _ _ (λz=>nga (aM.mp z)) (SE.nm h7g nofun) h7g;have SD8:=JO kpD8 SD;have WD8:=JP kpD8 WD;have hF8:=Co kpD8 hFD;have hpf8:=kpD8.lst hpfD;have hbr8:=kpD8.lst hbrD;have hB8:Paired (BrAt [] H8 ps LH) (List.range (ps.length+1)) xs:=cz (λa b h=>BrAt.less h) S8.ba;have hwl:=Kj S5.T WD.ch WD.kn;have hk0:wy.getD 0 0<ps.length+1:=WD.kn _ (iB (nF.mpr WD.ne));have hfg:figN (ab ps LH (wy.getD 0 0)).length<=9:=CH 9 _ (cC (hf4 _ hk0) (by decide));have hL76:L'.length<=76:=by lia
  have hzl:=hA8.length;rw[aq]at hzl;have sl8:LS K a d H8:=JQ sD kpD8;have kA8:∀ b o,b≠d->(∀ tab,o≠.tbl tab)->H5 b=some o->H8 b=some o:=λb o m1 m2 e=>kpD8 _ _ m2 (kkD _ _ m1 m2 e);clear hL S8 k8 SE AF hV SB hC hg hT7 T7 kp67 kpD7 h7a h7g n1 n2 hFa hFg T6 s56 s6 hEa T5 s5 hgi hd;have hww:aB K H8 (wy.map λn:Nat=>(n:Int)) (wy.map nV):=by
   have ew:wy.map nV=(wy.map λn:Nat=>(n:Int)).map V.int:=by rw[hG];rfl
   rw[ew];exact aB.ints
  refine #[λU' H'=>(∃ x13 x14:Option V,U'=[some (.ref a),some (.ref d),some (.ref t),some (.ref rs),some (.ref pf),some (.ref br),some (.str (brsD ps LH).shown),some (.int (i:Int)),some (.ref wa),some (.int key),some (.ref ad),some (.ref gi),some (.ref D),x13,x14])/\H8=H',?_,?_]
  .intro N n;refine #[_,rfl,_,_,_,_,rfl,.lst h8,EX,_,rfl,iteF ?_];refine #[_,rfl,_,_,rfl,.inl (SqL.of h8),_,rfl,_,_,rfl,.inl (SqL.of WD8.at_),rfl,_,rfl,iT (by rw[aq,hzl]) ?_];refine #[_,rfl,_,rfl,(wy.map λn:Nat=>(n:Int)),(wy.map λn:Nat=>(n:Int)),#[gi,_,rfl,SqL.of h8g,hww],#[wa,_,rfl,SqL.of WD8.at_,hww],_,rfl,iT rfl ?_];refine #[_,rfl,CG hbr8 hB8 hps hf4 #[_,rfl,rfl,_,rfl,iT rfl (n _ _ #[#[_,_,rfl],rfl])]]
  rintro _ _ ⟨⟨y13,y14,rfl⟩,rfl⟩;intro N12 n12;refine #[_,rfl,_,rfl,wa,D,rfl,#[_,SqL.of WD8.at_],#[_,SqL.of h8],?_];refine zD (xs:=wy.map nV) (ys:=zs) (by rw[aq];exact hzl) (λj U' H'=>(∃ x13 x14:Option V,U'=[some (.ref a),some (.ref d),some (.ref t),some (.ref rs),some (.ref pf),some (.ref br),some (.str (brsD ps LH).shown),some (.int (i:Int)),some (.ref wa),some (.int key),some (.ref ad),some (.ref gi),some (.ref D),x13,x14])/\Same H8 H') ?_ ?_ ?_ ?_
  .exact #[#[_,_,rfl],λ_ _ e=>e]
  .rintro j U H9 _ ⟨_,s9⟩;exact #[SqL.of (s9 _ _ WD8.at_),SqL.of (s9 _ _ h8)]
  .rintro j x y U H9 p hx hy ⟨⟨z13,z14,rfl⟩,s9⟩ hp;have hj:=(aN.mp hx).1;rw[aq]at hj;rw[jg hj]at hx;obtain rfl:=aK hx;obtain ⟨e,he,bb,x1,x2,rfl,hb,e1,e2⟩:∃ e,(wy.map λk=>(((aS (ab ps LH k) key:Nat):Int),((ownB LH k key:Nat):Int)))[j]?=some e/\hasP K H8 e y:=je hA8 hy;rw[aY,aw hj]at he;obtain rfl:=aK he;have eg:wy[j]=wy.getD j 0:=by rw[aA,aw hj];rfl
   rw[eg]at e1 e2;have e1':x1=.int ((aS (ab ps LH (wy.getD j 0)) key:Nat):Int):=e1;have e2':x2=.int ((ownB LH (wy.getD j 0) key:Nat):Int):=e2;subst e1' e2';have hkj:wy.getD j 0<ps.length+1:=WD.kn _ (iB hj);have sp:=aF hp (.tup [nV (wy.getD j 0),.ref bb]);have s10:=s9.trans sp;refine #[p,_,rfl,SqT.of aj,rfl,_,_,rfl,_,_,rfl,rfl,?_];have hrl:(bO LH (wy.getD j 0)).length<=400:=az (Cq (Cr (by rw[SD8.len];exact hkj))) SD8.keys;refine #[_,rfl,_,rfl,_,rfl,_,rfl,_,rfl,pf,rs,wy.getD j 0,key,qs,as,ps,LH,rfl,s10 _ _ hpf8,hF8.same s10,s10 _ _ SD8.rs,SD8.at_.ext s10,SD8.len,hkj,az (hf4 _ hkj) (by decide),az hrl (by decide),λu H11 s11 hu=>?_];refine #[bb,u,_,_,rfl,s11 _ _ (s10 _ _ hb),hu,λH12 s12=>?_];exact #[_,rfl,iteF #[#[_,_,rfl],s10.trans (s11.trans s12)]]
  rintro U H9 ⟨⟨z13,z14,rfl⟩,s9⟩;refine n12 _ _ ?_;clear n12 N12;refine #[_,rfl,_,rfl,_,rfl,_,rfl,_,rfl,br,pf,wa,D,ad,ps,LH,key,wy,L',xs,zs,zs',qs,rfl,s9 _ _ hbr8,cz (λa b h=>BrAt.same s9 h) hB8,S5.T,s9 _ _ hpf8,hF8.same s9,WD8.same s9,s9 _ _ h8,?_,s9 _ _ h8a,?_,hL76,hM,λH10 s10=>?_]
  .exact iA (λ_ _ e=>s9 _ _ e) hA8
  .exact iA (λ_ _ e=>s9 _ _ e) hA8'
  have s80:=s9.trans s10;exact #[_,rfl,iteF #[_,_,_,_,_,_,_,_,rfl,λb o m1 m2 e=>s80 _ _ (kA8 b o m1 m2 e),T8.ext s80.ext,sl8.same s80]]
 .rintro U HA ⟨x7,x8,x9,x10,x11,x12,x13,x14,rfl,_⟩;exact n6 _ _ (q _)
def all_ok (T:Txt K mg){mc21 mp21 mc48 mp48:Addr}(hBM:BMAt mg base)(wx:DF K mg "code" ou pL)(xf:DF K mg "how_many_below" ow pM)(wM:DF K mg "joined_up" ox pN)(wq:DF K mg "lowest_unlike" oy pO)(wz:DF K mg "turned" oA pP)(wA:DF K mg "labels" oB pQ)(wD:DF K mg "neighbours" oC l7)(wF:DF K mg "least_free" oD pR)(wG:DF K mg "colours" oE pS)(wI:DF K mg "marks" oF pT)(wJ:DF K mg "handed" oG pU)(wO:DF K mg "children" oH l9)(wQ:DF K mg "beneath" oI pV)(wR:DF K mg "own_entries" oJ pW)(wU:DF K mg "full_rows_beneath" oK pX)(wW:DF K mg "full_rows" oM pY)(w9:DF K mg "owns_of" oN pZ)(xa:DF K mg "starts_of" oO p7)(xb:DF K mg "bridges_of" oP p8)(xc:DF K mg "bridges" oQ p9)(rM:DFT K mg "first_place" jW qa mc21 mp21)(xh:DF K mg "start_in" oR qb)(xi:DF K mg "next_place" oS qd)(xj:DF K mg "search" oT qe)(wm:DF K mg "_law_begin" oU qf)(wj:DF K mg "_law_mixed" oV qg)(wo:DF K mg "_law_take" oW gw)(wt:DF K mg "_law_key" oX ma)(wN:DF K mg "_law_tree" oY qh)(wX:DF K mg "_law_row" oZ qi)(wZ:DF K mg "_law_rows" o4 qj)(xk:DF K mg "_law_children" o5 ql)(xn:DF K mg "_law_way" o6 qm)(wB:DF K mg "_law_code" o7 qo)(wC:DF K mg "_law_turned" o8 qp)(wK:DF K mg "_law_colours" o9 qr)(wL:DF K mg "_law_marks" pe qt)(xo:DF K mg "_law_fulls" ph qv)(xt:DF K mg "_law_stand" pk qw)(xx:DF K mg "_law_wide" pq qx)(xy:DF K mg "_law_copied" pw qy)(xq:DF K mg "_law_asked" pz qz)(xp:DF K mg "_law_figures" pA qA)(xv:DF K mg "_law_placed" pB qB)(xw:DF K mg "_law_wholes" pC qC)(xu:DF K mg "_law_start" pD qD)(xA:DF K mg "_law_modest" pE qE)(rN:DFT K mg "law" jX qF mc48 mp48):FC P w K mg base 10 "law" qF (kG K mp21 mp48):=
 have m:=HR (P:=P) (w:=w) (base:=base) T wj;have t:=HU T wo m;have c:=Ig (P:=P) (w:=w) (base:=base) T wx;have nb:=ID (P:=P) (w:=w) (base:=base) T wD;have mk:=IL T wI (Iu T wA c (Ik T wz (HV T wq))) (IG T wG nb (IE T wF)) nb;have ch:=IX (P:=P) (w:=w) (base:=base) T wO;have fr:=Jf T wU (IY T wQ) ch (IQ T wJ mk) (Je T wR) (IU T wM);have fu:=Jh T wW fr;have br:=Jx T xc fu (Jw T xb ch (Jv T xa) (Jt T w9));have ky:=Ia T wt t;have ls:=JY T xt (IW T wN t) (Jk T wZ t (Jj T wX t ky));have lf:=JV T xo (IS T wL (Iv (P:=P) (w:=w) (base:=base) T wB) (Iw T wC) (IR T wK));have fi:=λ(b:Heap) (S:Sub K mg base b)=>JK (P:=P) (w:=w) (base:=b) T rM (hBM.lift S) (λb' _=>JD (base:=b') T xf);have se:=λ(b:Heap) (S:Sub K mg base b)=>JN (P:=P) (w:=w) (base:=b) (mp:=mp21) T xj (fi b S) (JL T xh) (JM T xi);have mo:=Ke T xA (JW (P:=P) (w:=w) (base:=base) T xp) (J5 T xu)
 Ko T rN hBM (HS T wm) ls (Kb T xx t) lf br (Kc T xy) (JT T xn t (JR T xk)) ky t (JX T xq) (J7 T xw) (J6 T xv) mo se
end
def u1 {P:List Value->Prop}(h:∀ a,P [a])(us:List Value)(hl:us.length=1):P us:=by
 rcases us with _|⟨a,_|⟨z,us⟩⟩
 .cases hl
 .exact h a
 .exact absurd hl (by simp)
def u2 {P:List Value->Prop}(h:∀ a b,P [a,b])(us:List Value)(hl:us.length=2):P us:=by
 rcases us with _|⟨a,_|⟨b,_|⟨z,us⟩⟩⟩
 .cases hl
 .cases hl
 .exact h a b
 .exact absurd hl (by simp)
def u3 {P:List Value->Prop}(h:∀ a b c,P [a,b,c])(us:List Value)(hl:us.length=3):P us:=by
 rcases us with _|⟨a,_|⟨b,_|⟨c,_|⟨z,us⟩⟩⟩⟩
 .cases hl
 .cases hl
 .cases hl
 .exact h a b c
 .exact absurd hl (by simp)
def u4 {P:List Value->Prop}(h:∀ a b c d,P [a,b,c,d])(us:List Value)(hl:us.length=4):P us:=by
 rcases us with _|⟨a,_|⟨b,_|⟨c,_|⟨d,_|⟨z,us⟩⟩⟩⟩⟩
 .cases hl
 .cases hl
 .cases hl
 .cases hl
 .exact h a b c d
 .exact absurd hl (by simp)
def u5 {P:List Value->Prop}(h:∀ a b c d e,P [a,b,c,d,e])(us:List Value)(hl:us.length=5):P us:=by
 rcases us with _|⟨a,_|⟨b,_|⟨c,_|⟨d,_|⟨e,_|⟨z,us⟩⟩⟩⟩⟩⟩
 .cases hl
 .cases hl
 .cases hl
 .cases hl
 .cases hl
 .exact h a b c d e
 .exact absurd hl (by simp)
structure AD (K:Frag)(x:Str)(st:Stmt):Prop where
 ex:∃(f:Addr) (oc:Value) (od:Option Addr) (kV dc pm:Value) (an:Option Addr) (cd ct:Value) (sl:Array (Option Value)),nsIn K mainGlobals x=some (some (.ref f))/\K.lookup f=some #[oc,od,.func (fnOf x x (gf st) (fg st) (aH st) .none kV dc pm an cd ct),sl]/\codeIn K cd x=true/\keepIn K (.ref f)=true
def AD.of {K:Frag}{x:Str}{st:Stmt}{f:Addr}{oc:Value}{od:Option Addr}{kV dc pm:Value}{an:Option Addr}{cd ct:Value}{sl:Array (Option Value)}(a:nsIn K mainGlobals x=some (some (.ref f)))(l:K.lookup f=some #[oc,od,.func (fnOf x x (gf st) (fg st) (aH st) .none kV dc pm an cd ct),sl])(c:codeIn K cd x=true)(k:keepIn K (.ref f)=true):AD K x st:=#[f,oc,od,kV,dc,pm,an,cd,ct,sl,a,l,c,k]
def AD.df {K:Frag}{h:Heap}{mg:Str->Option Value}{st:Stmt}{ps:List Str}(a:AD K x st)(X:K.In h)(G:h.Ns mainGlobals mg)
  (hb:∀(kV doc pm:Value) (an:Option Addr) (cdv ct:Value) (us:List Value),us.length=ps.length->bindArgs (fnOf x x (gf st) (fg st) (aH st) .none kV doc pm an cdv ct) #[us,[]]=pure (ps.zip us):=by
   first|exact λ_ _ _ _ _ _=>u1 λ_=>rfl|exact λ_ _ _ _ _ _=>u2 λ_ _=>rfl|exact λ_ _ _ _ _ _=>u3 λ_ _ _=>rfl|exact λ_ _ _ _ _ _=>u4 λ_ _ _ _=>rfl|exact λ_ _ _ _ _ _=>u5 λ_ _ _ _ _=>rfl|exact λ_ _ _ _ _ _=>u6 λ_ _ _ _ _ _=>rfl):DF K mg x st ps:=by
 obtain ⟨f,oc,od,kV,dc,pm,an,cd,ct,sl,a,l,c,k⟩:=a.ex;exact #[_,_,tE l c k,(tE l c k).binds hb,mg_of X G a]
def AD.dft {K:Frag}{h:Heap}{mg:Str->Option Value}{st:Stmt}{ps:List Str}{mc mp:Addr}(a:AD K x st)(X:K.In h)(G:h.Ns mainGlobals mg)(t:tabIn K x=some (mc,mp))(hh:codeHdIn K mc mp=true)
  (hb:∀(kV doc pm:Value) (an:Option Addr) (cdv ct:Value) (us:List Value),us.length=ps.length->bindArgs (fnOf x x (gf st) (fg st) (aH st) .none kV doc pm an cdv ct) #[us,[]]=pure (ps.zip us):=by
   first|exact λ_ _ _ _ _ _=>u1 λ_=>rfl|exact λ_ _ _ _ _ _=>u2 λ_ _=>rfl|exact λ_ _ _ _ _ _=>u3 λ_ _ _=>rfl|exact λ_ _ _ _ _ _=>u4 λ_ _ _ _=>rfl|exact λ_ _ _ _ _ _=>u5 λ_ _ _ _ _=>rfl|exact λ_ _ _ _ _ _=>u6 λ_ _ _ _ _ _=>rfl):DFT K mg x st ps mc mp:=by
 obtain ⟨f,oc,od,kV,dc,pm,an,cd,ct,sl,a,l,c,k⟩:=a.ex;have e:cd=.ref mc:=L2.FW a l t;subst e;exact #[#[_,_,_,_,_,_,_,_,_,l,c,k,mg_of X G a,(tE l c k).binds hb],hh]
def Kp {l:OpenLaw}{K:Frag}{h:Heap}{mg:Str->Option Value}{fa mc21 mp21 mc48 mp48:Addr}(X:K.In h)(G:h.Ns mainGlobals mg)(hfa:mg "law" = some (.ref fa)){t_KNOT_NUMBERS:Tok}{t_TURNS:Tok}{t_MOST_BEHIND_START:Tok}(a1:AD K "code" ou)(a2:AD K "how_many_below" ow)(a3:AD K "joined_up" ox)(a4:AD K "lowest_unlike" oy)(a5:AD K "turned" oA)(a6:AD K "labels" oB)(a7:AD K "neighbours" oC)(a8:AD K "least_free" oD)(a9:AD K "colours" oE)(a10:AD K "marks" oF)(a11:AD K "handed" oG)(a12:AD K "children" oH)(a13:AD K "beneath" oI)(a14:AD K "own_entries" oJ)(a15:AD K "full_rows_beneath" oK)(a16:AD K "full_rows" oM)(a17:AD K "owns_of" oN)(a18:AD K "starts_of" oO)(a19:AD K "bridges_of" oP)(a20:AD K "bridges" oQ)(a21:AD K "first_place" jW)(a22:AD K "start_in" oR)(a23:AD K "next_place" oS)(a24:AD K "search" oT)(a25:AD K "_law_begin" oU)(a26:AD K "_law_mixed" oV)(a27:AD K "_law_take" oW)(a28:AD K "_law_key" oX)(a29:AD K "_law_tree" oY)(a30:AD K "_law_row" oZ)(a31:AD K "_law_rows" o4)(a32:AD K "_law_children" o5)(a33:AD K "_law_way" o6)(a34:AD K "_law_code" o7)(a35:AD K "_law_turned" o8)(a36:AD K "_law_colours" o9)(a37:AD K "_law_marks" pe)(a38:AD K "_law_fulls" ph)(a39:AD K "_law_stand" pk)(a40:AD K "_law_wide" pq)(a41:AD K "_law_copied" pw)(a42:AD K "_law_asked" pz)(a43:AD K "_law_figures" pA)(a44:AD K "_law_placed" pB)(a45:AD K "_law_wholes" pC)(a46:AD K "_law_start" pD)(a47:AD K "_law_modest" pE)(a48:AD K "law" jX)(t21:tabIn K "first_place" = some (mc21,mp21))(h21:codeHdIn K mc21 mp21=true)(t48:tabIn K "law" = some (mc48,mp48))(h48:codeHdIn K mc48 mp48=true)(Lk:nsIn K mainGlobals "abs" = some none)(Ll:nsIn K mainGlobals "all" = some none)(Lm:nsIn K mainGlobals "bool" = some none)(Ln:nsIn K mainGlobals "dict" = some none)(Lo:nsIn K mainGlobals "enumerate" = some none)(Lp:nsIn K mainGlobals "int" = some none)(Lq:nsIn K mainGlobals "isinstance" = some none)(Lr:nsIn K mainGlobals "len" = some none)(Ls:nsIn K mainGlobals "list" = some none)(Lu:nsIn K mainGlobals "max" = some none)(Lv:nsIn K mainGlobals "min" = some none)(Lw:nsIn K mainGlobals "range" = some none)(Lx:nsIn K mainGlobals "repr" = some none)(Ly:nsIn K mainGlobals "reversed" = some none)(Lz:nsIn K mainGlobals "set" = some none)(LA:nsIn K mainGlobals "sorted" = some none)(LB:nsIn K mainGlobals "tuple" = some none)(LC:nsIn K mainGlobals "zip" = some none)(LD:nsIn K mainGlobals "KNOT_NUMBERS" = some (some (.int 64 t_KNOT_NUMBERS)))(LF:nsIn K mainGlobals "TURNS" = some (some (.int 5 t_TURNS)))(LG:nsIn K mainGlobals "MOST_BEHIND_START" = some (some (.int 2 t_MOST_BEHIND_START))) :
  ∃ fd:FuncData,(∀(s:Shared) (v:Value),BindsTo s fd #[[v],[]] [("_law_script",v)])/\∀ base:Heap,K.In base->base.Ns mainGlobals mg->L2.BMAt mg base->FnOk l.prog w K mg base CX0 lawRoom fa fd ["_law_script"] (kG K mp21 mp48):=by
 obtain ⟨f,oc,od,kV,dc,pm,an,cd,ct,sl,a,l,c,k⟩:=a48.ex;have e:=hfa.symm.trans (mg_of X G a);cases e
 have T:Txt K mg:=#[mg_none_of X G Lk,mg_none_of X G Ll,mg_none_of X G Lm,mg_none_of X G Ln,mg_none_of X G Lo,mg_none_of X G Lp,mg_none_of X G Lq,mg_none_of X G Lr,mg_none_of X G Ls,mg_none_of X G Lu,mg_none_of X G Lv,mg_none_of X G Lw,mg_none_of X G Lx,mg_none_of X G Ly,mg_none_of X G Lz,mg_none_of X G LA,mg_none_of X G LB,mg_none_of X G LC,#[_,mg_of X G LD],#[_,mg_of X G LF],#[_,mg_of X G LG]];exact #[_,λs v=>.of_eq rfl,λbase _ _ hBM=>(all_ok (P:=_) (w:=w) (base:=base) T hBM (a1.df X G) (a2.df X G) (a3.df X G) (a4.df X G) (a5.df X G) (a6.df X G) (a7.df X G) (a8.df X G) (a9.df X G) (a10.df X G) (a11.df X G) (a12.df X G) (a13.df X G) (a14.df X G) (a15.df X G) (a16.df X G) (a17.df X G) (a18.df X G) (a19.df X G) (a20.df X G) (a21.dft X G t21 h21) (a22.df X G) (a23.df X G) (a24.df X G) (a25.df X G) (a26.df X G) (a27.df X G) (a28.df X G) (a29.df X G) (a30.df X G) (a31.df X G) (a32.df X G) (a33.df X G) (a34.df X G) (a35.df X G) (a36.df X G) (a37.df X G) (a38.df X G) (a39.df X G) (a40.df X G) (a41.df X G) (a42.df X G) (a43.df X G) (a44.df X G) (a45.df X G) (a46.df X G) (a47.df X G) (a48.dft X G t48 h48)).at (mg_of X G a) l]
def walk {l:OpenLaw}{q:Program}{loose:List Str}{XP:(Str->Option Value)->Heap->Prop}{YP:World->Heap->Prop}{d:DefRec}{K:Params->Frag}{mc21 mp21 mc48 mp48:Addr}(hn:l.most=some 63)(hdf:d.params.defaults=[])
  (hY:∀(w:World) (h:Heap),YP w h->(K w.params).In h) (hYT21:∀(w:World) (h:Heap),YP w h->h.get? mp21=some (W.tabObj (List.toArray []))) (hC21:∀(w:World),codeHdIn (K w.params) mc21 mp21=true) (hD21:∀(w:World),(K w.params).lookup mp21=none) (hYT48:∀(w:World) (h:Heap),YP w h->h.get? mp48=some (W.tabObj (List.toArray []))) (hC48:∀(w:World),codeHdIn (K w.params) mc48 mp48=true) (hD48:∀(w:World),(K w.params).lookup mp48=none) (hNE:mp21≠mp48)
  (F:∀(w:World) (mg:Str->Option Value) (fa:Addr) (h:Heap),(K w.params).In h->h.Ns mainGlobals mg->mg d.name=some (.ref fa)->
   ∃ fd:FuncData,(∀(s:Shared) (u:Value),BindsTo s fd #[[u],[]] [("_law_script",u)])/\∀ base:Heap,(K w.params).In base->base.Ns mainGlobals mg->L2.BMAt mg base->FnOk l.prog w (K w.params) mg base CX0 lawRoom fa fd ["_law_script"] (kG (K w.params) mp21 mp48)) :
  W.WalkO q loose XP YP l.row.toRowW d [] (λf vs=>PySem.call f vs):=
 L2.FU (n:=63) (k:=lawRoom) (x := "_law_script") (tabs:=[(mc21,mp21),(mc48,mp48)]) (sp:=λw=>kG (K w.params) mp21 mp48) hn (by decide) hdf #[rfl,by decide,by decide,rfl] hY (λw h Y q hq=>(aX.mp hq).elim (λz=>z ▸ hYT21 w h Y) (λhq=>(aX.mp hq).elim (λz=>z ▸ hYT48 w h Y) (λhq=>absurd hq ee))) (λw q hq=>(aX.mp hq).elim (λz=>z ▸ #[hC21 w,hD21 w]) (λhq=>(aX.mp hq).elim (λz=>z ▸ #[hC48 w,hD48 w]) (λhq=>absurd hq ee))) F (λ_ _ a ns hl hT hS=>#[a,ns,rfl,hS,hl,hNE,hT _ bu,hT _ (bE _ bu),λ_=>rfl])
end My
open PySem PySem.W PyProof.Rows
end
namespace PySem.W.Fast
def tw437943507988113070:=0
def tw1179365137887376917:=0
def tw10013887623143198547:=0
def tw13198459958666894987:=0
def tw12953414322689402973:=0
def tw8234682733561485533:=0
def tw6776351888891153605:=0
def tw17663149170363743204:=0
def tw3865366045192981393:=0
def tw3481450775108232687:=0
def tw11730371190614098671:=0
def tw15099829270256435842:=0
def tw13242990982909373779:=0
def tw13578925591382442689:=0
def tw4781054269839966757:=0
def tw2947970331015533642:=0
def tw7122771033288867375:=0
def tw9675711612083508752:=0
def tw17060745766517325378:=0
def tw6579825248324867837:=0
def tw10962070177588717155:=0
def tw7010323835431911083:=0
def tw1152569954637921927:=0
def tw16209653870579586182:=0
def tw14902889117328724673:=0
def tw3583989858723213156:=0
def tw3001766517336173902:=0
def tw16914707863415688809:=0
def tw5741660004817693386:=0
def tw3366374027929206061:=0
def tw14157987558232522804:=0
def tw5328345791248293577:=0
def tw13215224850566448532:=0
def tw10866285243854967233:=0
def tw7663236741647282794:=0
def tw8850661933010657935:=0
def tw16278144396195545738:=0
def tw16964900432801781872:=0
def tw3147108885596465301:=0
def tw2202362853426045635:=0
def tw15471503142106382435:=0
def tw1622003581206937517:=0
def tw17563600089875248833:=0
def tw10974947935977496466:=0
def tw1468044379021351012:=0
def tw6249286856166790815:=0
def tw16173137131681690787:=0
def tw2422159263950134558:=0
def tw5084910404042297255:=0
def tw5516073137038141578:=0
def tw18184299822496950434:=0
def tw6065689254217170591:=0
def tw14971534140037856113:=0
def tw9652164387295801513:=0
def tw647221615816509871:=0
def tw14918866129280001829:=0
def tw11694627381859935034:=0
def tw4123530562044114589:=0
def tw17675066732088415616:=0
def tw7683806833600876602:=0
def tw14148651946498278802:=0
def tw12207418744787758398:=0
def tw10791274873586921782:=0
def tw15642850419552865666:=0
def tw13668180307090093101:=0
def tw6665633267906711945:=0
def tw4818626129713230483:=0
def tw2300709974754945424:=0
def tw8370786661121326514:=0
def tw16196303594462667951:=0
def tw516089549249395203:=0
def tw3339058115922660568:=0
def tw17674124291978596931:=0
def tw283472780701443254:=0
def tw3272727213099641909:=0
def tw15903950950298230709:=0
def tw4428238148612330672:=0
def tw15845124117595863265:=0
def tw5823948588834186948:=0
def tw5586616918171198283:=0
def tw8542040495275716585:=0
def tw4661060229999435285:=0
def tw14039778941573992856:=0
def tw11244608736190371483:=0
def tw14035404857961343605:=0
def tw16647174826167667524:=0
def tw5506876079965492523:=0
def tw12560419063285993691:=0
def tw16726563295494867020:=0
def tw10335387173772630392:=0
def tw16450598324419586146:=0
def tw13411631948037809378:=0
def tw8674314621243680188:=0
def tw16963438213393367119:=0
def tw16367699496640237891:=0
def tw12602616087115397211:=0
def tw16350942149456782353:=0
def tw2119136923362548502:=0
def tw5102461129292109711:=0
def tw16155990124079463228:=0
def tw9027018345467292462:=0
def tw6649091144506974051:=0
def tw17110740198552478136:=0
def tw2121707857561431492:=0
def tw6003494440305621562:=0
def tw11938916607829569550:=0
def tw9561516121365015624:=0
def tw18131613707497360757:=0
def tw11784687902193213961:=0
def tw10151009851553049503:=0
def tw18093360625382619129:=0
def tw7439222267412081546:=0
def tw9096205065316610776:=0
def tw5005702874174601615:=0
def tw9255115516633251092:=0
def tw17605421666182579682:=0
def tw12623341616817814740:=0
def tw10954565815750414576:=0
def tw17358671436907552096:=0
def tw8991973803941446797:=0
def tw927803008967423337:=0
def tw2043564795999188743:=0
def tw9444298210054233221:=0
def tw6711276280451510771:=0
def tw14253497025055901930:=0
def tw7003696172731593302:=0
def tw1536477930983933300:=0
def tw15238673726711963683:=0
def tw14999349776691335601:=0
def tw5453715622425952384:=0
def tw14106869391841714730:=0
def tw13099638925300770071:=0
def tw2880515431373904441:=0
def tw3065292510028818699:=0
def tw11464740704314780178:=0
def tw6615109210732081555:=0
def tw17022226256422351666:=0
def tw14159641062872393295:=0
def tw8206399013929981293:=0
def tw9376586254327680541:=0
def tw15563964607790151310:=0
def tw7825204090767752176:=0
def tw3972786944503540546:=0
def tw7579751979576085262:=0
def tw6960617632561628576:=0
def tw7672186217806861804:=0
def tw12156635508082030460:=0
def tw6781314958100229729:=0
def tw3123443755709050161:=0
def tw2402248274067951299:=0
def tw5904596140286084346:=0
def tw4753735509515423998:=0
def tw7939632905692231026:=0
def tw5955829568993107861:=0
def tw13473576087041172709:=0
def tw781898192320207791:=0
def tw6364422133411473544:=0
def tw7334015447370538717:=0
def tw4242233434476055120:=0
def tw28818746588050526:=0
def tw11605800483730426854:=0
def tw3564932334818889368:=0
def tw3000204618413739712:=0
def tw2129056460008980399:=0
def tw16776005802274088342:=0
def tw3279303432272769571:=0
def tw1628044828221105305:=0
def tw11341009130395534959:=0
def tw10014560747884332774:=0
def tw5641568579064367860:=0
def tw14169605089300352569:=0
def tw18211576547659447574:=0
def tw12474564313630178706:=0
def tw1981880494695308021:=0
def tw6717957887267178577:=0
def tw12524202795909579765:=0
def tw9844240094415646298:=0
def tw4448153431680641515:=0
def tw15354134054376649555:=0
def tw10423835680552619089:=0
def tw9121311184308681328:=0
def tw8684218156249396137:=0
def tw3960855589138689716:=0
def tw12301250862395680574:=0
def tw7345398206981060602:=0
end PySem.W.Fast
set_option maxRecDepth 100000 in
set_option maxHeartbeats 0 in
theorem PySem.Challenge.cw_bridgefind_k28_searches_down_a_way_holds : PySem.Challenge.rw_bridgefind_k28_searches_down_a_way.Holds := by
 w_on; o_law; k_head; (case hw=>w_witness2)
 k_fill
 refine My.walk (l:=PySem.Challenge.rw_bridgefind_k28_searches_down_a_way) (mc21:=142) (mp21:=138) (mc48:=313) (mp48:=309) rfl rfl (fun w h Y=>PySem.W.km_in_of Y) (fun w h Y=>PySem.W.km_tabs_of Y 138 (by decide)) (fun w=>by kernel_rfl) (fun w=>by kernel_rfl) (fun w h Y=>PySem.W.km_tabs_of Y 309 (by decide)) (fun w=>by kernel_rfl) (fun w=>by kernel_rfl) (by decide) ?F
 case F=>
  intro w mg fa h KX G hmg
  refine' My.Kp (mc21:=142) (mp21:=138) (mc48:=313) (mp48:=309) KX G hmg ?_ ?_ ?_ ?_ ?_ ?_ ?_ ?_ ?_ ?_ ?_ ?_ ?_ ?_ ?_ ?_ ?_ ?_ ?_ ?_ ?_ ?_ ?_ ?_ ?_ ?_ ?_ ?_ ?_ ?_ ?_ ?_ ?_ ?_ ?_ ?_ ?_ ?_ ?_ ?_ ?_ ?_ ?_ ?_ ?_ ?_ ?_ ?_ ?_ ?_ ?_ ?_ ?_ ?_ ?_ ?_ ?_ ?_ ?_ ?_ ?_ ?_ ?_ ?_ ?_ ?_ ?_ ?_ ?_ ?_ ?_ ?_ ?_
  any_goals k_is
  all_goals first | refine' My.AD.of ?_ ?_ ?_ ?_ | skip
  any_goals k_is
  all_goals kernel_rfl

